import Derived.Test.YtllhfnpchplibaaGreatDoorMc43
namespace Go.Proofs.YtllhfnpchplibaaGreatDoor
open Go.RowKit
def amB (l : List Ty) (q : Ty) : Bool := l.any fun p => ordT p q == 0
theorem amB_drop {l : List Ty} {i : Nat} (h : i < l.length) (q : Ty) : amB (l.drop i) q = (ordT l[i] q == 0 || amB (l.drop (i + 1)) q) := by rw [List.drop_eq_getElem_cons h]; rfl
set_option maxRecDepth 100000 in
set_option maxHeartbeats 64000000 in
theorem among13 {K : Nat → Prop} {w : World} {u q : Ty} {cs ds : List Value} (hr : RepT K w u cs) (hp : RepT K w q ds) (hlo : ∀ b, K b → b < w.heap.size) (hn : u.ps.length ≤ 1099511627776) :
  Calls Tryz.prog 28 #[.agg cs.toArray, .agg ds.toArray] w fun e w' => e = .returned (.bool (amB (prtsT u) q)) ∧ Below w.heap.size w w' := by
 obtain ⟨k, s, n, ps, fs, vs⟩ := u
 obtain ⟨k3, s3, n3, ps3, fs3, vs3⟩ := q
 obtain ⟨A, c, A', c', A'', c'', rfl, -⟩ := hr.inv
 obtain ⟨A3, c3, B3, d3, C3, e3, rfl, -⟩ := hp.inv
 simp only [cells6T] at hr hp ⊢
 obtain ⟨w1, hw1⟩ : ∃ x, x = (w.alloc (.cells #[.int .i64 k, .string s, .int .i64 n, .slice A ps.length c, .slice A' fs.length c', .slice A'' vs.length c''] 26)).alloc (.cells #[.int .i64 k3, .string s3, .int .i64 n3, .slice A3 ps3.length c3, .slice B3 fs3.length d3, .slice C3 vs3.length e3] 26) := ⟨_, rfl⟩
 have hb1 : Below w.heap.size w w1 := by rw [hw1]; exact ((Below.refl _ _).alloc (Nat.le_refl _) _).alloc (by simp) _
 have hs1 : w1.heap.size = w.heap.size + 2 := by rw [hw1]; simp
 have hx0 : w1.heap[w.heap.size]? = some (.cells #[.int .i64 k, .string s, .int .i64 n, .slice A ps.length c, .slice A' fs.length c', .slice A'' vs.length c''] 26 (0, 0)) := by rw [hw1, Below.heap_alloc _ _ _ (by simp)]; exact heap_alloc_new w _
 have hy0 : w1.heap[w.heap.size + 1]? = some (.cells #[.int .i64 k3, .string s3, .int .i64 n3, .slice A3 ps3.length c3, .slice B3 fs3.length d3, .slice C3 vs3.length e3] 26 (0, 0)) := by
  rw [hw1]
  have h := heap_alloc_new (w.alloc (.cells #[.int .i64 k, .string s, .int .i64 n, .slice A ps.length c, .slice A' fs.length c', .slice A'' vs.length c''] 26)) (.cells #[.int .i64 k3, .string s3, .int .i64 n3, .slice A3 ps3.length c3, .slice B3 fs3.length d3, .slice C3 vs3.length e3] 26)
  rw [World.size_alloc] at h
  exact h
 have kp := eparts_any (hr.later hb1) (fun b h => by have := hlo b h; omega) hn
 generalize prtsT (.mk k s n ps fs vs) = l at kp ⊢
 have KP := Lib.hid kp
 have HP := Lib.hid (hp.later hb1)
 have HB1 := Lib.hid hb1
 have HX0 := Lib.hid hx0
 have HY0 := Lib.hid hy0
 have HW1 := Lib.hid hw1
 have HS1 := Lib.hid hs1
 clear kp hr hp hn hlo hb1 hs1 hx0 hy0 hw1
 go_enter Tryz.func28, Tryz.ntmps28
 go_upto_region 1 with fail
 rw [← HW1.out]
 obtain ⟨x0, x1, x2, x3, x4, x5⟩ := cz6 HX0.out
 go_wp2_with fail
 refine KP.out.mono ?_
 rintro e w2 ⟨A5, c5, rfl, hl5, hb⟩
 have HB2 := Lib.hid hb
 have HL5 := Lib.hid hl5
 have hll := hl5.short
 have HQ := Lib.hid (HP.out.later hb)
 have HYT : Hid (∀ wx, Below w2.heap.size w2 wx → wx.cell? ⟨w.heap.size + 1, 0, none⟩ = some (.int .i64 k3) ∧ wx.cell? ⟨w.heap.size + 1, 1, none⟩ = some (.string s3) ∧ wx.cell? ⟨w.heap.size + 1, 2, none⟩ = some (.int .i64 n3) ∧ wx.cell? ⟨w.heap.size + 1, 3, none⟩ = some (.slice A3 ps3.length c3) ∧ wx.cell? ⟨w.heap.size + 1, 4, none⟩ = some (.slice B3 fs3.length d3) ∧ wx.cell? ⟨w.heap.size + 1, 5, none⟩ = some (.slice C3 vs3.length e3)) := Lib.hid fun wx hx => by
  have h := box_up (hb.trans (hx.mono hb.size)) (by have := HS1.out; omega) HY0.out
  exact ⟨Lib.cell_of_heap h 0, Lib.cell_of_heap h 1, Lib.cell_of_heap h 2, Lib.cell_of_heap h 3, Lib.cell_of_heap h 4, Lib.cell_of_heap h 5⟩
 clear x0 x1 x2 x3 x4 x5 hb hl5 KP
 go_wp2_with fail
 go_loopw [6] (fun v wr => ∃ (i : Nat), i ≤ l.length ∧ v = .int .i64 i ∧ amB l (.mk k3 s3 n3 ps3 fs3 vs3) = amB (l.drop i) (.mk k3 s3 n3 ps3 fs3 vs3) ∧ Below w2.heap.size w2 wr) (fun v _ => l.length - (intOf v).toNat)
 case atStart => exact ⟨0, by omega, rfl, by rw [List.drop_zero], Below.refl _ _⟩
 case round =>
  obtain ⟨i, hi, rfl, he, hb⟩ := hrel
  have HE := Lib.hid he
  have HB := Lib.hid hb
  clear he hb
  by_cases hin : i < l.length
  ·have t1 : decide ((i : Int) < (l.length : Int)) = true := by simp; omega
   have wr2 : wrap64 ((i : Int) + 1) = ((i + 1 : Nat) : Int) := wrap_one (by omega)
   obtain ⟨b, o, hA, _, hat⟩ := HL5.out.at (by omega)
   subst hA
   obtain ⟨dq, hdq, hrq⟩ := hat i hin
   have hd := amB_drop hin (.mk k3 s3 n3 ps3 fs3 vs3)
   generalize l[i] = p at hrq hd
   have HM := Lib.hid (measI hin)
   have HIn : Hid (i + 1 ≤ l.length) := Lib.hid hin
   have i1 : (0 : Int) ≤ (i : Int) := by omega
   have i2 : (i : Int) < (l.length : Int) := by omega
   have KS := Lib.hid fun wx (hx : Below w2.heap.size w2 wx) => same13 (hrq.later hx) (HQ.out.later hx)
   generalize hz : (ordT p (.mk k3 s3 n3 ps3 fs3 vs3) == 0) = z at KS hd
   obtain ⟨k4, s4, n4, ps4, fs4, vs4⟩ := p
   obtain ⟨A4, c4, B4, d4, C4, e4, rfl, -⟩ := hrq.inv
   simp only [cells6T] at KS hdq
   have HXO : Hid (∀ wx, Below w2.heap.size w2 wx → (wx.cell? ⟨b, o + i * 6, none⟩ = some (.int .i64 k4) ∧ wx.cell? ⟨b, o + i * 6 + 1, none⟩ = some (.string s4) ∧ wx.cell? ⟨b, o + i * 6 + 2, none⟩ = some (.int .i64 n4) ∧ wx.cell? ⟨b, o + i * 6 + 3, none⟩ = some (.slice A4 ps4.length c4) ∧ wx.cell? ⟨b, o + i * 6 + 4, none⟩ = some (.slice B4 fs4.length d4) ∧ wx.cell? ⟨b, o + i * 6 + 5, none⟩ = some (.slice C4 vs4.length e4)) ∧ (wx.cell? ⟨w.heap.size + 1, 0, none⟩ = some (.int .i64 k3) ∧ wx.cell? ⟨w.heap.size + 1, 1, none⟩ = some (.string s3) ∧ wx.cell? ⟨w.heap.size + 1, 2, none⟩ = some (.int .i64 n3) ∧ wx.cell? ⟨w.heap.size + 1, 3, none⟩ = some (.slice A3 ps3.length c3) ∧ wx.cell? ⟨w.heap.size + 1, 4, none⟩ = some (.slice B3 fs3.length d3) ∧ wx.cell? ⟨w.heap.size + 1, 5, none⟩ = some (.slice C3 vs3.length e3))) := Lib.hid fun wx hx =>
    ⟨⟨cell_stays hx (hdq 0 _ rfl), cell_stays hx (hdq 1 _ rfl), cell_stays hx (hdq 2 _ rfl), cell_stays hx (hdq 3 _ rfl), cell_stays hx (hdq 4 _ rfl), cell_stays hx (hdq 5 _ rfl)⟩, HYT.out wx hx⟩
   have HS := Lib.hid hd
   clear hat hi hdq hrq hd hz
   go_upto_region 5 with fail
   refine wp_region_held_drew (S := (fun w' => (w'.cell? ⟨b, o + i * 6, none⟩ = some (.int .i64 k4) ∧ w'.cell? ⟨b, o + i * 6 + 1, none⟩ = some (.string s4) ∧ w'.cell? ⟨b, o + i * 6 + 2, none⟩ = some (.int .i64 n4) ∧ w'.cell? ⟨b, o + i * 6 + 3, none⟩ = some (.slice A4 ps4.length c4) ∧ w'.cell? ⟨b, o + i * 6 + 4, none⟩ = some (.slice B4 fs4.length d4) ∧ w'.cell? ⟨b, o + i * 6 + 5, none⟩ = some (.slice C4 vs4.length e4)) ∧ (w'.cell? ⟨w.heap.size + 1, 0, none⟩ = some (.int .i64 k3) ∧ w'.cell? ⟨w.heap.size + 1, 1, none⟩ = some (.string s3) ∧ w'.cell? ⟨w.heap.size + 1, 2, none⟩ = some (.int .i64 n3) ∧ w'.cell? ⟨w.heap.size + 1, 3, none⟩ = some (.slice A3 ps3.length c3) ∧ w'.cell? ⟨w.heap.size + 1, 4, none⟩ = some (.slice B3 fs3.length d3) ∧ w'.cell? ⟨w.heap.size + 1, 5, none⟩ = some (.slice C3 vs3.length e3)))) (by kernel_rfl) (HXO.out _ HB.out.drew) (fun hHeld => ?_)
   refine Plan.start [0, 1, 2, 3, 4] ?_
   iterate 5 ((refine Plan.take (v := ?_) (so rfl) (by kernel_rfl) (by kernel_rfl) (by kernel_rfl) (fun _ _ _ h => h) (Or.inl ⟨by rfl, ?_⟩) hHeld ?_; rotate_left; focus (intro w' hSw; (try dsimp only at hSw); go_simp; try with_reducible rfl)); try simp only [Act.put, List.setIfInBounds_toArray, List.set_cons_zero, List.set_cons_succ])
   refine Plan.done ?_
   refine wpAnyH_ready (rs := [5]) (by kernel_rfl) (by simp) ?_
   refine AllReadyH.cons (sd (some 20) rfl) (fun Kx hK => ?_) AllReadyH.nil
   go_simp
   refine (KS.out _ HB.out.drew).mono ?_
   rintro e w3 ⟨rfl, hb⟩
   have HB3 := Lib.hid (HB.out.drew.trans (hb.mono HB.out.drew.size))
   clear hb
   go_wp2_with fail
   refine hK.out _ _ (HXO.out _ HB3.out) (fun hHeld => ?_)
   clear hK Kx
   try simp only [Act.put, List.setIfInBounds_toArray, List.set_cons_zero, List.set_cons_succ]
   refine wpAnyH_done (by kernel_rfl) ?_ _
   clear hHeld
   cases z with
   | true =>
    go_wp2_with fail
    go_ret
    exact ⟨by rw [HE.out, HS.out]; rfl, HB1.out.trans ((HB2.out.trans (HB3.out.mono HB2.out.size)).mono HB1.out.size)⟩
   | false =>
    go_wp2_with fail
    refine ⟨⟨i + 1, HIn.out, by first | rfl | rw [wr2], by rw [HE.out, HS.out]; rfl, HB3.out⟩, ?_⟩
    first | exact HM.out | (rw [wr2]; exact HM.out)
  ·have t1 : decide ((i : Int) < (l.length : Int)) = false := by simp; omega
   have HE1 : Hid (amB l (.mk k3 s3 n3 ps3 fs3 vs3) = false) := Lib.hid (by rw [HE.out, List.drop_eq_nil_of_le (by omega)]; rfl)
   clear hi
   go_wp2_with fail
   go_ret
   exact ⟨by rw [HE1.out]; rfl, HB1.out.trans ((HB2.out.trans (HB.out.mono HB2.out.size)).mono HB1.out.size)⟩
def losB (l m : List Ty) : Bool := l.any fun p => !amB m p
theorem losB_drop {l : List Ty} {i : Nat} (h : i < l.length) (m : List Ty) : losB (l.drop i) m = (!amB m l[i] || losB (l.drop (i + 1)) m) := by rw [List.drop_eq_getElem_cons h]; rfl
set_option maxRecDepth 100000 in
set_option maxHeartbeats 64000000 in
theorem lost13 {K K2 K3 : Nat → Prop} {w : World} {a b u : Ty} {cs ds us : List Value} (hr : RepT K w a cs) (hp : RepT K2 w b ds) (hu : RepT K3 w u us) (hn : a.ps.length ≤ 1099511627776) (hnb : b.ps.length ≤ 1099511627776) (hnu : u.ps.length ≤ 1099511627776) :
  Calls Tryz.prog 11 #[.agg cs.toArray, .agg ds.toArray, .agg us.toArray] w fun e w' => e = .returned (.bool (losB (prtsT a) (prtsT u) || losB (prtsT b) (prtsT u))) ∧ Below w.heap.size w w' := by
 obtain ⟨k, s, n, ps, fs, vs⟩ := a
 obtain ⟨k3, s3, n3, ps3, fs3, vs3⟩ := b
 obtain ⟨k9, s9, n9, ps9, fs9, vs9⟩ := u
 obtain ⟨A, c, A', c', A'', c'', rfl, -⟩ := hr.inv
 obtain ⟨A3, c3, B3, d3, C3, e3, rfl, -⟩ := hp.inv
 obtain ⟨A9, c9, B9, d9, C9, e9, rfl, -⟩ := hu.inv
 simp only [cells6T] at hr hp hu ⊢
 obtain ⟨w1, hw1⟩ : ∃ x, x = (((w.alloc (.cells #[.int .i64 k, .string s, .int .i64 n, .slice A ps.length c, .slice A' fs.length c', .slice A'' vs.length c''] 26)).alloc (.cells #[.int .i64 k3, .string s3, .int .i64 n3, .slice A3 ps3.length c3, .slice B3 fs3.length d3, .slice C3 vs3.length e3] 26)).alloc (.cells #[.int .i64 k9, .string s9, .int .i64 n9, .slice A9 ps9.length c9, .slice B9 fs9.length d9, .slice C9 vs9.length e9] 26)) := ⟨_, rfl⟩
 have hb1 : Below w.heap.size w w1 := by rw [hw1]; exact (((Below.refl _ _).alloc (Nat.le_refl _) _).alloc (by simp) _).alloc (by simp; omega) _
 have hs1 : w1.heap.size = w.heap.size + 3 := by rw [hw1]; simp
 have hx0 : w1.heap[w.heap.size]? = some (.cells #[.int .i64 k, .string s, .int .i64 n, .slice A ps.length c, .slice A' fs.length c', .slice A'' vs.length c''] 26 (0, 0)) := by rw [hw1, Below.heap_alloc _ _ _ (by simp; omega), Below.heap_alloc _ _ _ (by simp)]; exact heap_alloc_new w _
 have hy0 : w1.heap[w.heap.size + 1]? = some (.cells #[.int .i64 k3, .string s3, .int .i64 n3, .slice A3 ps3.length c3, .slice B3 fs3.length d3, .slice C3 vs3.length e3] 26 (0, 0)) := by
  rw [hw1, Below.heap_alloc _ _ _ (by simp)]
  have h := heap_alloc_new (w.alloc (.cells #[.int .i64 k, .string s, .int .i64 n, .slice A ps.length c, .slice A' fs.length c', .slice A'' vs.length c''] 26)) (.cells #[.int .i64 k3, .string s3, .int .i64 n3, .slice A3 ps3.length c3, .slice B3 fs3.length d3, .slice C3 vs3.length e3] 26)
  rw [World.size_alloc] at h
  exact h
 have hz0 : w1.heap[w.heap.size + 2]? = some (.cells #[.int .i64 k9, .string s9, .int .i64 n9, .slice A9 ps9.length c9, .slice B9 fs9.length d9, .slice C9 vs9.length e9] 26 (0, 0)) := by
  rw [hw1]
  have h := heap_alloc_new ((w.alloc (.cells #[.int .i64 k, .string s, .int .i64 n, .slice A ps.length c, .slice A' fs.length c', .slice A'' vs.length c''] 26)).alloc (.cells #[.int .i64 k3, .string s3, .int .i64 n3, .slice A3 ps3.length c3, .slice B3 fs3.length d3, .slice C3 vs3.length e3] 26)) (.cells #[.int .i64 k9, .string s9, .int .i64 n9, .slice A9 ps9.length c9, .slice B9 fs9.length d9, .slice C9 vs9.length e9] 26)
  rw [World.size_alloc, World.size_alloc] at h
  exact h
 have HBX : Hid (∀ wx, Below w1.heap.size w1 wx → (wx.cell? ⟨w.heap.size, 0, none⟩ = some (.int .i64 k) ∧ wx.cell? ⟨w.heap.size, 1, none⟩ = some (.string s) ∧ wx.cell? ⟨w.heap.size, 2, none⟩ = some (.int .i64 n) ∧ wx.cell? ⟨w.heap.size, 3, none⟩ = some (.slice A ps.length c) ∧ wx.cell? ⟨w.heap.size, 4, none⟩ = some (.slice A' fs.length c') ∧ wx.cell? ⟨w.heap.size, 5, none⟩ = some (.slice A'' vs.length c'')) ∧ (wx.cell? ⟨w.heap.size + 1, 0, none⟩ = some (.int .i64 k3) ∧ wx.cell? ⟨w.heap.size + 1, 1, none⟩ = some (.string s3) ∧ wx.cell? ⟨w.heap.size + 1, 2, none⟩ = some (.int .i64 n3) ∧ wx.cell? ⟨w.heap.size + 1, 3, none⟩ = some (.slice A3 ps3.length c3) ∧ wx.cell? ⟨w.heap.size + 1, 4, none⟩ = some (.slice B3 fs3.length d3) ∧ wx.cell? ⟨w.heap.size + 1, 5, none⟩ = some (.slice C3 vs3.length e3)) ∧ (wx.cell? ⟨w.heap.size + 2, 0, none⟩ = some (.int .i64 k9) ∧ wx.cell? ⟨w.heap.size + 2, 1, none⟩ = some (.string s9) ∧ wx.cell? ⟨w.heap.size + 2, 2, none⟩ = some (.int .i64 n9) ∧ wx.cell? ⟨w.heap.size + 2, 3, none⟩ = some (.slice A9 ps9.length c9) ∧ wx.cell? ⟨w.heap.size + 2, 4, none⟩ = some (.slice B9 fs9.length d9) ∧ wx.cell? ⟨w.heap.size + 2, 5, none⟩ = some (.slice C9 vs9.length e9))) := Lib.hid fun wx hx => by
  have h1 := box_up hx (by omega) hx0
  have h2 := box_up hx (by omega) hy0
  have h3 := box_up hx (by omega) hz0
  exact ⟨⟨Lib.cell_of_heap h1 0, Lib.cell_of_heap h1 1, Lib.cell_of_heap h1 2, Lib.cell_of_heap h1 3, Lib.cell_of_heap h1 4, Lib.cell_of_heap h1 5⟩, ⟨Lib.cell_of_heap h2 0, Lib.cell_of_heap h2 1, Lib.cell_of_heap h2 2, Lib.cell_of_heap h2 3, Lib.cell_of_heap h2 4, Lib.cell_of_heap h2 5⟩, ⟨Lib.cell_of_heap h3 0, Lib.cell_of_heap h3 1, Lib.cell_of_heap h3 2, Lib.cell_of_heap h3 3, Lib.cell_of_heap h3 4, Lib.cell_of_heap h3 5⟩⟩
 have kam := fun (wx : World) (hx : Below w1.heap.size w1 wx) (p : Ty) (dp : List Value) (K' : Nat → Prop) (hd : RepT K' wx p dp) => among13 (RepT.low _ _ (hu.later (hb1.trans (hx.mono hb1.size)))) (RepT.low _ _ hd) (fun _ h => h) hnu
 have kpa := fun (wx : World) (hx : Below w1.heap.size w1 wx) => eparts_any (RepT.low _ _ (hr.later (hb1.trans (hx.mono hb1.size)))) (fun _ h => h) hn
 have kpb := fun (wx : World) (hx : Below w1.heap.size w1 wx) => eparts_any (RepT.low _ _ (hp.later (hb1.trans (hx.mono hb1.size)))) (fun _ h => h) hnb
 generalize prtsT (.mk k s n ps fs vs) = la at kpa ⊢
 generalize prtsT (.mk k3 s3 n3 ps3 fs3 vs3) = lb at kpb ⊢
 generalize prtsT (.mk k9 s9 n9 ps9 fs9 vs9) = lu at kam ⊢
 have KAM := Lib.hid kam
 have KPA := Lib.hid kpa
 have KPB := Lib.hid kpb
 have HB1 := Lib.hid hb1
 have HW1 := Lib.hid hw1
 clear kam kpa kpb hr hp hu hn hnb hnu hb1 hs1 hx0 hy0 hz0 hw1
 go_enter Tryz.func11, Tryz.ntmps11
 go_upto_region 1 with fail
 rw [← HW1.out]
 go_wp2_with fail
 go_loopw [7] (fun v wr => ∃ (i : Nat), i ≤ la.length ∧ v = .int .i64 i ∧ losB la lu = losB (la.drop i) lu ∧ Below w1.heap.size w1 wr) (fun v _ => la.length - (intOf v).toNat)
 case atStart => exact ⟨0, by omega, rfl, by rw [List.drop_zero], Below.refl _ _⟩
 case round =>
  obtain ⟨i, hi, rfl, he, hb⟩ := hrel
  have HE := Lib.hid he
  have HB := Lib.hid hb
  have HI := Lib.hid hi
  clear he hb hi
  obtain ⟨⟨x0, x1, x2, x3, x4, x5⟩, ⟨y0, y1, y2, y3, y4, y5⟩, ⟨u0, u1, u2, u3, u4, u5⟩⟩ := HBX.out _ HB.out
  go_wp2_with fail
  refine (KPA.out _ HB.out).mono ?_
  rintro e w2 ⟨A5, c5, rfl, hl5, hb⟩
  have hll := hl5.short
  have HB2 := Lib.hid (HB.out.trans (hb.mono HB.out.size))
  clear hl5 hb
  clear x0 x1 x2 x3 x4 x5 y0 y1 y2 y3 y4 y5 u0 u1 u2 u3 u4 u5
  obtain ⟨⟨x0, x1, x2, x3, x4, x5⟩, ⟨y0, y1, y2, y3, y4, y5⟩, ⟨u0, u1, u2, u3, u4, u5⟩⟩ := HBX.out _ HB2.out
  by_cases hin : i < la.length
  ·have t1 : decide ((i : Int) < (la.length : Int)) = true := by simp; omega
   have wr2 : wrap64 ((i : Int) + 1) = ((i + 1 : Nat) : Int) := wrap_one (by omega)
   have HD := Lib.hid (losB_drop hin lu)
   have HM := Lib.hid (measI hin)
   have HIn : Hid (i + 1 ≤ la.length) := Lib.hid hin
   have HN : Hid (i < la.length) := Lib.hid hin
   have i1 : (0 : Int) ≤ (i : Int) := by omega
   have i2 : (i : Int) < (la.length : Int) := by omega
   go_upto_region 4 with fail
   clear x0 x1 x2 x3 x4 x5 y0 y1 y2 y3 y4 y5 u0 u1 u2 u3 u4 u5
   refine wp_region_held_drew (S := (fun w' => (w'.cell? ⟨w.heap.size, 0, none⟩ = some (.int .i64 k) ∧ w'.cell? ⟨w.heap.size, 1, none⟩ = some (.string s) ∧ w'.cell? ⟨w.heap.size, 2, none⟩ = some (.int .i64 n) ∧ w'.cell? ⟨w.heap.size, 3, none⟩ = some (.slice A ps.length c) ∧ w'.cell? ⟨w.heap.size, 4, none⟩ = some (.slice A' fs.length c') ∧ w'.cell? ⟨w.heap.size, 5, none⟩ = some (.slice A'' vs.length c'')) ∧ (w'.cell? ⟨w.heap.size + 1, 0, none⟩ = some (.int .i64 k3) ∧ w'.cell? ⟨w.heap.size + 1, 1, none⟩ = some (.string s3) ∧ w'.cell? ⟨w.heap.size + 1, 2, none⟩ = some (.int .i64 n3) ∧ w'.cell? ⟨w.heap.size + 1, 3, none⟩ = some (.slice A3 ps3.length c3) ∧ w'.cell? ⟨w.heap.size + 1, 4, none⟩ = some (.slice B3 fs3.length d3) ∧ w'.cell? ⟨w.heap.size + 1, 5, none⟩ = some (.slice C3 vs3.length e3)) ∧ (w'.cell? ⟨w.heap.size + 2, 0, none⟩ = some (.int .i64 k9) ∧ w'.cell? ⟨w.heap.size + 2, 1, none⟩ = some (.string s9) ∧ w'.cell? ⟨w.heap.size + 2, 2, none⟩ = some (.int .i64 n9) ∧ w'.cell? ⟨w.heap.size + 2, 3, none⟩ = some (.slice A9 ps9.length c9) ∧ w'.cell? ⟨w.heap.size + 2, 4, none⟩ = some (.slice B9 fs9.length d9) ∧ w'.cell? ⟨w.heap.size + 2, 5, none⟩ = some (.slice C9 vs9.length e9)))) (by kernel_rfl) (HBX.out _ HB2.out.drew) (fun hHeld => ?_)
   refine Plan.start [0, 1, 3] ?_
   iterate 3 ((refine Plan.take (v := ?_) (so rfl) (by kernel_rfl) (by kernel_rfl) (by kernel_rfl) (fun _ _ _ h => h) (Or.inl ⟨by rfl, ?_⟩) hHeld ?_; rotate_left; focus (intro w' hSw; (try dsimp only at hSw); go_simp; try with_reducible rfl)); try simp only [Act.put, List.setIfInBounds_toArray, List.set_cons_zero, List.set_cons_succ])
   refine Plan.done ?_
   refine wpAnyH_ready (rs := [2]) (by kernel_rfl) (by simp) ?_
   refine AllReadyH.cons (sd (some 18) rfl) (fun Kx hK => ?_) AllReadyH.nil
   go_simp
   refine (KPA.out _ HB2.out.drew).mono ?_
   rintro e w3 ⟨A6, c6, rfl, hl6, hb⟩
   obtain ⟨b, o, hA, _, hat⟩ := hl6.at (by have := HN.out; omega)
   subst hA
   obtain ⟨dq, hdq, hrq⟩ := hat i HN.out
   have hd := HD.out
   generalize la[i] = p at hrq hd
   obtain ⟨k4, s4, n4, ps4, fs4, vs4⟩ := p
   obtain ⟨A4, c4, B4, d4, C4, e4, rfl, -⟩ := hrq.inv
   simp only [cells6T] at hdq hrq
   have HB3 := Lib.hid (HB2.out.drew.trans (hb.mono HB2.out.drew.size))
   have HEL : Hid (w3.cell? ⟨b, o + i * 6, none⟩ = some (.int .i64 k4) ∧ w3.cell? ⟨b, o + i * 6 + 1, none⟩ = some (.string s4) ∧ w3.cell? ⟨b, o + i * 6 + 2, none⟩ = some (.int .i64 n4) ∧ w3.cell? ⟨b, o + i * 6 + 3, none⟩ = some (.slice A4 ps4.length c4) ∧ w3.cell? ⟨b, o + i * 6 + 4, none⟩ = some (.slice B4 fs4.length d4) ∧ w3.cell? ⟨b, o + i * 6 + 5, none⟩ = some (.slice C4 vs4.length e4)) := Lib.hid ⟨hdq 0 _ rfl, hdq 1 _ rfl, hdq 2 _ rfl, hdq 3 _ rfl, hdq 4 _ rfl, hdq 5 _ rfl⟩
   have HRQ := Lib.hid hrq
   have HD2 := Lib.hid hd
   clear hb hl6 hat hdq hrq hd
   go_wp2_with fail
   refine hK.out _ _ (HBX.out _ HB3.out) (fun hHeld => ?_)
   clear hK Kx
   try simp only [Act.put, List.setIfInBounds_toArray, List.set_cons_zero, List.set_cons_succ]
   refine wpAnyH_take (i := 4) (v := ?_) (sd (some 20) rfl) (by kernel_rfl) (by kernel_rfl) (by kernel_rfl) (fun _ _ _ h => h) (Or.inl ⟨by rfl, ?_⟩) hHeld ?_
   rotate_left
   ·intro w' hSw
    (try dsimp only at hSw)
    go_simp
    try with_reducible rfl
   try simp only [Act.put, List.setIfInBounds_toArray, List.set_cons_zero, List.set_cons_succ]
   refine wpAnyH_ready (rs := [5]) (by kernel_rfl) (by simp) ?_
   refine AllReadyH.cons (sd (some 21) rfl) (fun Kx hK => ?_) AllReadyH.nil
   go_simp
   obtain ⟨z0, z1, z2, z3, z4, z5⟩ := HEL.out
   go_simp
   clear z0 z1 z2 z3 z4 z5
   refine hK.out _ _ (HBX.out _ HB3.out) (fun hHeld => ?_)
   clear hK Kx
   try simp only [Act.put, List.setIfInBounds_toArray, List.set_cons_zero, List.set_cons_succ]
   refine wpAnyH_ready (rs := [6]) (by kernel_rfl) (by simp) ?_
   refine AllReadyH.cons (sd (some 22) rfl) (fun Kx hK => ?_) AllReadyH.nil
   go_simp
   have kz := KAM.out _ HB3.out _ _ _ HRQ.out
   have hd := HD2.out
   generalize hz : amB lu (.mk k4 s4 n4 ps4 fs4 vs4) = z at kz hd
   refine kz.mono ?_
   rintro e w4 ⟨rfl, hb⟩
   have HB4 := Lib.hid (HB3.out.trans (hb.mono HB3.out.size))
   have HD4 := Lib.hid hd
   clear hb kz hd hz
   go_wp2_with fail
   refine hK.out _ _ (HBX.out _ HB4.out) (fun hHeld => ?_)
   clear hK Kx
   try simp only [Act.put, List.setIfInBounds_toArray, List.set_cons_zero, List.set_cons_succ]
   refine wpAnyH_take (i := 7) (v := ?_) (sd (some 23) rfl) (by kernel_rfl) (by kernel_rfl) (by kernel_rfl) (fun _ _ _ h => h) (Or.inl ⟨by rfl, ?_⟩) hHeld ?_
   rotate_left
   ·intro w' hSw
    (try dsimp only at hSw)
    go_simp
    try with_reducible rfl
   try simp only [Act.put, List.setIfInBounds_toArray, List.set_cons_zero, List.set_cons_succ]
   refine wpAnyH_done (by kernel_rfl) ?_ _
   clear hHeld
   cases z with
   | false =>
    go_wp2_with fail
    go_ret
    exact ⟨by rw [HE.out, HD4.out]; rfl, HB1.out.trans (HB4.out.mono HB1.out.size)⟩
   | true =>
    go_wp2_with fail
    refine ⟨⟨i + 1, HIn.out, by first | rfl | rw [wr2], by rw [HE.out, HD4.out]; rfl, HB4.out⟩, ?_⟩
    first | exact HM.out | (rw [wr2]; exact HM.out)
  ·have t1 : decide ((i : Int) < (la.length : Int)) = false := by simp; omega
   have HNla : Hid (losB la lu = false) := Lib.hid (by rw [HE.out, List.drop_eq_nil_of_le (by omega)]; rfl)
   clear HE HI
   clear x0 x1 x2 x3 x4 x5 y0 y1 y2 y3 y4 y5 u0 u1 u2 u3 u4 u5
   go_wp2_with fail
   have HB2a := Lib.hid HB2.out
   clear HB HB2
   go_loopw [8] (fun v wr => ∃ (i : Nat), i ≤ lb.length ∧ v = .int .i64 i ∧ losB lb lu = losB (lb.drop i) lu ∧ Below w1.heap.size w1 wr) (fun v _ => lb.length - (intOf v).toNat)
   case atStart => exact ⟨0, by omega, rfl, by rw [List.drop_zero], HB2a.out⟩
   case round =>
    obtain ⟨i, hi, rfl, he, hb⟩ := hrel
    have HE := Lib.hid he
    have HB := Lib.hid hb
    have HI := Lib.hid hi
    clear he hb hi
    obtain ⟨⟨x0, x1, x2, x3, x4, x5⟩, ⟨y0, y1, y2, y3, y4, y5⟩, ⟨u0, u1, u2, u3, u4, u5⟩⟩ := HBX.out _ HB.out
    go_wp2_with fail
    refine (KPB.out _ HB.out).mono ?_
    rintro e w2 ⟨A5, c5, rfl, hl5, hb⟩
    have hll := hl5.short
    have HB2 := Lib.hid (HB.out.trans (hb.mono HB.out.size))
    clear hl5 hb
    clear x0 x1 x2 x3 x4 x5 y0 y1 y2 y3 y4 y5 u0 u1 u2 u3 u4 u5
    obtain ⟨⟨x0, x1, x2, x3, x4, x5⟩, ⟨y0, y1, y2, y3, y4, y5⟩, ⟨u0, u1, u2, u3, u4, u5⟩⟩ := HBX.out _ HB2.out
    by_cases hin : i < lb.length
    ·have t1 : decide ((i : Int) < (lb.length : Int)) = true := by simp; omega
     have wr2 : wrap64 ((i : Int) + 1) = ((i + 1 : Nat) : Int) := wrap_one (by omega)
     have HD := Lib.hid (losB_drop hin lu)
     have HM := Lib.hid (measI hin)
     have HIn : Hid (i + 1 ≤ lb.length) := Lib.hid hin
     have HN : Hid (i < lb.length) := Lib.hid hin
     have i1 : (0 : Int) ≤ (i : Int) := by omega
     have i2 : (i : Int) < (lb.length : Int) := by omega
     go_upto_region 9 with fail
     clear x0 x1 x2 x3 x4 x5 y0 y1 y2 y3 y4 y5 u0 u1 u2 u3 u4 u5
     refine wp_region_held_drew (S := (fun w' => (w'.cell? ⟨w.heap.size, 0, none⟩ = some (.int .i64 k) ∧ w'.cell? ⟨w.heap.size, 1, none⟩ = some (.string s) ∧ w'.cell? ⟨w.heap.size, 2, none⟩ = some (.int .i64 n) ∧ w'.cell? ⟨w.heap.size, 3, none⟩ = some (.slice A ps.length c) ∧ w'.cell? ⟨w.heap.size, 4, none⟩ = some (.slice A' fs.length c') ∧ w'.cell? ⟨w.heap.size, 5, none⟩ = some (.slice A'' vs.length c'')) ∧ (w'.cell? ⟨w.heap.size + 1, 0, none⟩ = some (.int .i64 k3) ∧ w'.cell? ⟨w.heap.size + 1, 1, none⟩ = some (.string s3) ∧ w'.cell? ⟨w.heap.size + 1, 2, none⟩ = some (.int .i64 n3) ∧ w'.cell? ⟨w.heap.size + 1, 3, none⟩ = some (.slice A3 ps3.length c3) ∧ w'.cell? ⟨w.heap.size + 1, 4, none⟩ = some (.slice B3 fs3.length d3) ∧ w'.cell? ⟨w.heap.size + 1, 5, none⟩ = some (.slice C3 vs3.length e3)) ∧ (w'.cell? ⟨w.heap.size + 2, 0, none⟩ = some (.int .i64 k9) ∧ w'.cell? ⟨w.heap.size + 2, 1, none⟩ = some (.string s9) ∧ w'.cell? ⟨w.heap.size + 2, 2, none⟩ = some (.int .i64 n9) ∧ w'.cell? ⟨w.heap.size + 2, 3, none⟩ = some (.slice A9 ps9.length c9) ∧ w'.cell? ⟨w.heap.size + 2, 4, none⟩ = some (.slice B9 fs9.length d9) ∧ w'.cell? ⟨w.heap.size + 2, 5, none⟩ = some (.slice C9 vs9.length e9)))) (by kernel_rfl) (HBX.out _ HB2.out.drew) (fun hHeld => ?_)
     refine Plan.start [0, 1, 3] ?_
     iterate 3 ((refine Plan.take (v := ?_) (so rfl) (by kernel_rfl) (by kernel_rfl) (by kernel_rfl) (fun _ _ _ h => h) (Or.inl ⟨by rfl, ?_⟩) hHeld ?_; rotate_left; focus (intro w' hSw; (try dsimp only at hSw); go_simp; try with_reducible rfl)); try simp only [Act.put, List.setIfInBounds_toArray, List.set_cons_zero, List.set_cons_succ])
     refine Plan.done ?_
     refine wpAnyH_ready (rs := [2]) (by kernel_rfl) (by simp) ?_
     refine AllReadyH.cons (sd (some 33) rfl) (fun Kx hK => ?_) AllReadyH.nil
     go_simp
     refine (KPB.out _ HB2.out.drew).mono ?_
     rintro e w3 ⟨A6, c6, rfl, hl6, hb⟩
     obtain ⟨b, o, hA, _, hat⟩ := hl6.at (by have := HN.out; omega)
     subst hA
     obtain ⟨dq, hdq, hrq⟩ := hat i HN.out
     have hd := HD.out
     generalize lb[i] = p at hrq hd
     obtain ⟨k4, s4, n4, ps4, fs4, vs4⟩ := p
     obtain ⟨A4, c4, B4, d4, C4, e4, rfl, -⟩ := hrq.inv
     simp only [cells6T] at hdq hrq
     have HB3 := Lib.hid (HB2.out.drew.trans (hb.mono HB2.out.drew.size))
     have HEL : Hid (w3.cell? ⟨b, o + i * 6, none⟩ = some (.int .i64 k4) ∧ w3.cell? ⟨b, o + i * 6 + 1, none⟩ = some (.string s4) ∧ w3.cell? ⟨b, o + i * 6 + 2, none⟩ = some (.int .i64 n4) ∧ w3.cell? ⟨b, o + i * 6 + 3, none⟩ = some (.slice A4 ps4.length c4) ∧ w3.cell? ⟨b, o + i * 6 + 4, none⟩ = some (.slice B4 fs4.length d4) ∧ w3.cell? ⟨b, o + i * 6 + 5, none⟩ = some (.slice C4 vs4.length e4)) := Lib.hid ⟨hdq 0 _ rfl, hdq 1 _ rfl, hdq 2 _ rfl, hdq 3 _ rfl, hdq 4 _ rfl, hdq 5 _ rfl⟩
     have HRQ := Lib.hid hrq
     have HD2 := Lib.hid hd
     clear hb hl6 hat hdq hrq hd
     go_wp2_with fail
     refine hK.out _ _ (HBX.out _ HB3.out) (fun hHeld => ?_)
     clear hK Kx
     try simp only [Act.put, List.setIfInBounds_toArray, List.set_cons_zero, List.set_cons_succ]
     refine wpAnyH_take (i := 4) (v := ?_) (sd (some 35) rfl) (by kernel_rfl) (by kernel_rfl) (by kernel_rfl) (fun _ _ _ h => h) (Or.inl ⟨by rfl, ?_⟩) hHeld ?_
     rotate_left
     ·intro w' hSw
      (try dsimp only at hSw)
      go_simp
      try with_reducible rfl
     try simp only [Act.put, List.setIfInBounds_toArray, List.set_cons_zero, List.set_cons_succ]
     refine wpAnyH_ready (rs := [5]) (by kernel_rfl) (by simp) ?_
     refine AllReadyH.cons (sd (some 36) rfl) (fun Kx hK => ?_) AllReadyH.nil
     go_simp
     obtain ⟨z0, z1, z2, z3, z4, z5⟩ := HEL.out
     go_simp
     clear z0 z1 z2 z3 z4 z5
     refine hK.out _ _ (HBX.out _ HB3.out) (fun hHeld => ?_)
     clear hK Kx
     try simp only [Act.put, List.setIfInBounds_toArray, List.set_cons_zero, List.set_cons_succ]
     refine wpAnyH_ready (rs := [6]) (by kernel_rfl) (by simp) ?_
     refine AllReadyH.cons (sd (some 37) rfl) (fun Kx hK => ?_) AllReadyH.nil
     go_simp
     have kz := KAM.out _ HB3.out _ _ _ HRQ.out
     have hd := HD2.out
     generalize hz : amB lu (.mk k4 s4 n4 ps4 fs4 vs4) = z at kz hd
     refine kz.mono ?_
     rintro e w4 ⟨rfl, hb⟩
     have HB4 := Lib.hid (HB3.out.trans (hb.mono HB3.out.size))
     have HD4 := Lib.hid hd
     clear hb kz hd hz
     go_wp2_with fail
     refine hK.out _ _ (HBX.out _ HB4.out) (fun hHeld => ?_)
     clear hK Kx
     try simp only [Act.put, List.setIfInBounds_toArray, List.set_cons_zero, List.set_cons_succ]
     refine wpAnyH_take (i := 7) (v := ?_) (sd (some 38) rfl) (by kernel_rfl) (by kernel_rfl) (by kernel_rfl) (fun _ _ _ h => h) (Or.inl ⟨by rfl, ?_⟩) hHeld ?_
     rotate_left
     ·intro w' hSw
      (try dsimp only at hSw)
      go_simp
      try with_reducible rfl
     try simp only [Act.put, List.setIfInBounds_toArray, List.set_cons_zero, List.set_cons_succ]
     refine wpAnyH_done (by kernel_rfl) ?_ _
     clear hHeld
     cases z with
     | false =>
      go_wp2_with fail
      go_ret
      exact ⟨by rw [HNla.out, HE.out, HD4.out]; rfl, HB1.out.trans (HB4.out.mono HB1.out.size)⟩
     | true =>
      go_wp2_with fail
      refine ⟨⟨i + 1, HIn.out, by first | rfl | rw [wr2], by rw [HE.out, HD4.out]; rfl, HB4.out⟩, ?_⟩
      first | exact HM.out | (rw [wr2]; exact HM.out)
    ·have t1 : decide ((i : Int) < (lb.length : Int)) = false := by simp; omega
     have HNlb : Hid (losB lb lu = false) := Lib.hid (by rw [HE.out, List.drop_eq_nil_of_le (by omega)]; rfl)
     clear HE HI
     clear x0 x1 x2 x3 x4 x5 y0 y1 y2 y3 y4 y5 u0 u1 u2 u3 u4 u5
     go_wp2_with fail
     go_ret
     exact ⟨by rw [HNla.out, HNlb.out]; rfl, HB1.out.trans (HB2.out.mono HB1.out.size)⟩
end Go.Proofs.YtllhfnpchplibaaGreatDoor
