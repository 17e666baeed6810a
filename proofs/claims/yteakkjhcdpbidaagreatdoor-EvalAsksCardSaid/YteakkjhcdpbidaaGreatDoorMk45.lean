import Derived.Test.YteakkjhcdpbidaaGreatDoorMk41
namespace Go.Proofs.YteakkjhcdpbidaaGreatDoor
set_option maxRecDepth 100000
set_option maxHeartbeats 64000000
open Go.RowKit
theorem filter_next {O : Ty → Bool} {L : List Ty} {i : Nat} (hi : i < L.length) : (L.take (i + 1)).filter O = (L.take i).filter O ++ (if O L[i] then [L[i]] else []) := by
 rw [List.take_succ_eq_append_getElem hi, List.filter_append]
 congr 1
 by_cases h : O L[i] = true
 ·simp [h]
 ·simp [h]
theorem cntL_len : ∀ l : List Ty, l.length ≤ cntL l
 | [] => Nat.le_refl _
 | a :: l => by
  rw [cntL_cons, List.length_cons]
  have := cntL_len l
  have := cntT_pos a
  omega
theorem filter_len {O : Ty → Bool} {L : List Ty} {i : Nat} : ((L.take i).filter O).length ≤ L.length := Nat.le_trans (List.length_filter_le _ _) (by simp; omega)
theorem common_any {K : Nat → Prop} {w : World} {b : Ty} {cs ds : List Value} (s : ByteArray) (n : Int) (ps : List Ty) (fs : FsT) (vs : VsT) (hr : RepT K w (.mk 8 s n ps fs vs) cs) (hp : RepT K w b ds) (hlo : ∀ a, K a → a < w.heap.size) :
  Calls Tryz.prog 31 #[.agg cs.toArray, .agg ds.toArray] w (FdT K w b) := by
 obtain ⟨k3, s3, n3, ps3, fs3, vs3⟩ := b
 refine two_res hr hp fun A c B d C e A3 c3 B3 d3 C3 e3 w1 g h hcs hds => ?_
 subst hcs
 subst hds
 obtain ⟨HX, HY, HB1, HS1, HG, HW1, -, HP⟩ := h
 have HLO := Hd hlo
 clear hr hp hlo
 unfold FdT
 go_enter Tryz.func31, Tryz.ntmps31
 go_upto_region 1 with fail
 rw [← HW1.out, ← HG.out]
 obtain ⟨⟨x0, x1, x2, x3, x4, x5⟩, ⟨y0, y1, y2, y3, y4, y5⟩⟩ := HX.out _ (Below.refl _ _)
 have rb := HY.out
 have HRR : Hid (RepT (fun b => K b ∨ g < b) w1 (.mk k3 s3 n3 ps3 fs3 vs3) [.int .i64 k3, .string s3, .int .i64 n3, .slice A3 ps3.length c3, .slice B3 fs3.length d3, .slice C3 vs3.length e3]) := Hd (HP.out.weak fun b h => .inl h)
 obtain ⟨q0, q1, q2, q3, q4, q5, z0, z1, z2, z3, z4, z5⟩ := qz6 rb
 have RBX := Hd rb
 clear rb
 go_wp2_with fail
 obtain ⟨r0, r1, r2, r3, r4, r5⟩ := cz6 (six_set RBX.out (.int .i64 k3) (.string s3) (.int .i64 n3) (.slice A3 ps3.length c3) (.slice B3 fs3.length d3) (.slice C3 vs3.length e3))
 clear q0 q1 q2 q3 q4 q5 z0 z1 z2 z3 z4 z5 RBX
 refine bodyPost_ret (v := .agg #[.int .i64 k3, .string s3, .int .i64 n3, .slice A3 ps3.length c3, .slice B3 fs3.length d3, .slice C3 vs3.length e3]) (by simp [results, Tryz.results31, go_sem, r0, r1, r2, r3, r4, r5]) rfl ?_
 clear r0 r1 r2 r3 r4 r5
 exact ⟨[.int .i64 k3, .string s3, .int .i64 n3, .slice A3 ps3.length c3, .slice B3 fs3.length d3, .slice C3 vs3.length e3], rfl, ret_box HRR.out (fun b h => by have h1 := HLO.out b h; have h2 := HG.out; omega) (by have := HG.out; omega) _ _ _ _ _ _, set_six_below HB1.out (by have := HG.out; omega) _ _ _ _ _ _⟩
theorem common_some {K : Nat → Prop} {w : World} {a b : Ty} {cs ds : List Value} (hr : RepT K w a cs) (hp : RepT K w b ds) (hlo : ∀ a, K a → a < w.heap.size) (h8 : a.k ≠ 8) (hfa : formT a = true) (hc : cntL (prtsT a) ≤ 1000000000) :
  Calls Tryz.prog 31 #[.agg cs.toArray, .agg ds.toArray] w (FdT K w (unionT ((prtsT a).filter (amongT b)))) := by
 have KP0 := fun wx (hx : Below w.heap.size w wx) => prts_ref (hr.later hx) (fun a h => Nat.lt_of_lt_of_le (hlo a h) hx.size)
 have KA : Hid (∀ (q : Ty) wx es (K2 : Nat → Prop), Below w.heap.size w wx → RepT K2 wx q es → Calls Tryz.prog 66 #[.agg ds.toArray, .agg es.toArray] wx fun e w' => e = .returned (.bool (amongT b q)) ∧ Below wx.heap.size wx w') := Hd fun q wx es K2 hx hq => among_ref (hp.later hx) hq (fun a h => Nat.lt_of_lt_of_le (hlo a h) hx.size)
 have HFA := Hd (form_parts hfa)
 have hcl := cntL_len (prtsT a)
 obtain ⟨k, s, n, ps, fs, vs⟩ := a
 obtain ⟨k3, s3, n3, ps3, fs3, vs3⟩ := b
 have f1 : (k == 8) = false := beq_eq_false_iff_ne.2 h8
 refine two_res hr hp fun A c B d C e A3 c3 B3 d3 C3 e3 w1 g h hcs hds => ?_
 subst hcs
 subst hds
 obtain ⟨HX, HY, HB1, HS1, HG, HW1, -, HP⟩ := h
 have KP := Hd (KP0 w1 HB1.out)
 generalize amongT (.mk k3 s3 n3 ps3 fs3 vs3) = O at KA ⊢
 generalize prtsT (.mk k s n ps fs vs) = L at KP HFA hc hcl ⊢
 have HLO := Hd hlo
 have HCL : Hid (cntL L ≤ 1000000000 ∧ L.length ≤ 1000000000) := Hd ⟨hc, by omega⟩
 clear hr hp hlo KP0 h8 hfa hc hcl
 unfold FdT
 generalize hU : unionT (L.filter O) = u8
 have HU := Hd hU
 clear hU
 go_enter Tryz.func31, Tryz.ntmps31
 go_upto_region 1 with fail
 rw [← HW1.out, ← HG.out]
 obtain ⟨⟨x0, x1, x2, x3, x4, x5⟩, ⟨y0, y1, y2, y3, y4, y5⟩⟩ := HX.out _ (Below.refl _ _)
 go_wp2_with fail
 refine (KP.out).mono ?_
 rintro e w2 ⟨A2, c2, rfl, hl, hb2⟩
 obtain ⟨K2, hK2⟩ : ∃ K2 : Nat → Prop, K2 = fun b => K b ∨ g < b := ⟨_, rfl⟩
 have HK2 := Hd hK2
 have hl2 : ListT K2 w2 L A2 c2 := hl.weak fun b h => by rw [hK2]; exact h.imp id fun h => by have := HS1.out; omega
 have HL := Hd hl2.both
 have HB12 := Hd hb2
 have HB2 := Hd (HB1.out.trans (hb2.mono HB1.out.size))
 clear hl hl2 hb2 hK2 KP x0 x1 x2 x3 x4 x5 y0 y1 y2 y3 y4 y5
 go_wp2_with fail
 go_loopw [5, 7] (fun lv v wr => ∃ i : Nat, i ≤ L.length ∧ v = .int .i64 i ∧ OutT (fun b => K2 b ∧ b < w2.heap.size) w2 wr lv ((L.take i).filter O) ∧ Below w2.heap.size w2 wr) (fun _ v _ => L.length - (intOf v).toNat)
 case atStart => exact ⟨0, by omega, rfl, ⟨⟨[], World.ownsRow_nil _ _ _ _, fun i h => absurd h (by simp)⟩⟩, Below.refl _ _⟩
 case round =>
  obtain ⟨i, hi, rfl, ho, hb⟩ := hrel
  have HO := Hd ho
  have HBR := Hd hb
  obtain ⟨vs0, hvs0, -⟩ := ho
  obtain ⟨A5, c5, rfl, -⟩ := sliceT hvs0
  clear hb hvs0
  have hll := HCL.out.2
  by_cases hin : i < L.length
  ·have t1 : decide ((i : Int) < (L.length : Int)) = true := by simp; omega
   have wr2 : wrap64 ((i : Int) + 1) = ((i + 1 : Nat) : Int) := wrap_one (by omega)
   have HM := Hd (measI hin)
   have HIn : Hid (i + 1 ≤ L.length) := Hd hin
   obtain ⟨tb, tq, hA, -, hat⟩ := HL.out.at (by omega)
   subst hA
   obtain ⟨es, hes, hrq⟩ := hat i hin
   have hnx := filter_next (O := O) hin
   have HLEN : Hid (((L.take i).filter O).length + 1 ≤ 1099511627776) := Hd (by have := filter_len (O := O) (L := L) (i := i); omega)
   have KQ : Hid (∀ wx, Below wr.heap.size wr wx → Calls Tryz.prog 66 #[.agg #[.int .i64 k3, .string s3, .int .i64 n3, .slice A3 ps3.length c3, .slice B3 fs3.length d3, .slice C3 vs3.length e3], .agg es.toArray] wx fun e w' => e = .returned (.bool (O L[i])) ∧ Below wx.heap.size wx w') := Hd fun wx hx => KA.out L[i] wx es _ (HB2.out.trans ((HBR.out.trans (hx.mono HBR.out.size)).mono HB2.out.size)) (hrq.later (HBR.out.trans (hx.mono HBR.out.size)))
   generalize L[i] = u at hrq hnx KQ
   have HNX := Hd hnx
   obtain ⟨k4, s4, n4, ps4, fs4, vs4⟩ := u
   obtain ⟨A4, c4, B4, d4, C4, e4, rfl, -⟩ := hrq.inv
   have HRQ := Hd hrq
   simp only [cells6T] at hes KQ HRQ
   have HC : Hid (∀ wx, Below wr.heap.size wr wx → (wx.cell? ⟨tb, tq + i * 6, none⟩ = some (.int .i64 k4) ∧ wx.cell? ⟨tb, tq + i * 6 + 1, none⟩ = some (.string s4) ∧ wx.cell? ⟨tb, tq + i * 6 + 2, none⟩ = some (.int .i64 n4) ∧ wx.cell? ⟨tb, tq + i * 6 + 3, none⟩ = some (.slice A4 ps4.length c4) ∧ wx.cell? ⟨tb, tq + i * 6 + 4, none⟩ = some (.slice B4 fs4.length d4) ∧ wx.cell? ⟨tb, tq + i * 6 + 5, none⟩ = some (.slice C4 vs4.length e4)) ∧ (wx.cell? ⟨w.heap.size + 1, 0, none⟩ = some (.int .i64 k3) ∧ wx.cell? ⟨w.heap.size + 1, 1, none⟩ = some (.string s3) ∧ wx.cell? ⟨w.heap.size + 1, 2, none⟩ = some (.int .i64 n3) ∧ wx.cell? ⟨w.heap.size + 1, 3, none⟩ = some (.slice A3 ps3.length c3) ∧ wx.cell? ⟨w.heap.size + 1, 4, none⟩ = some (.slice B3 fs3.length d3) ∧ wx.cell? ⟨w.heap.size + 1, 5, none⟩ = some (.slice C3 vs3.length e3))) := Hd fun wx hx => by
    have hxx := HBR.out.trans (hx.mono HBR.out.size)
    exact ⟨⟨cell_stays hxx (hes 0 _ rfl), cell_stays hxx (hes 1 _ rfl), cell_stays hxx (hes 2 _ rfl), cell_stays hxx (hes 3 _ rfl), cell_stays hxx (hes 4 _ rfl), cell_stays hxx (hes 5 _ rfl)⟩, (HX.out wx (HB12.out.trans (hxx.mono HB12.out.size))).2⟩
   generalize O (.mk k4 s4 n4 ps4 fs4 vs4) = ob at HNX KQ
   have i1 : (0 : Int) ≤ (i : Int) := by omega
   have i2 : (i : Int) < (L.length : Int) := by omega
   clear hi hat hes hrq hll hnx
   go_upto_region 8 with fail
   refine wp_region_held_drew (S := (fun w' => (w'.cell? ⟨tb, tq + i * 6, none⟩ = some (.int .i64 k4) ∧ w'.cell? ⟨tb, tq + i * 6 + 1, none⟩ = some (.string s4) ∧ w'.cell? ⟨tb, tq + i * 6 + 2, none⟩ = some (.int .i64 n4) ∧ w'.cell? ⟨tb, tq + i * 6 + 3, none⟩ = some (.slice A4 ps4.length c4) ∧ w'.cell? ⟨tb, tq + i * 6 + 4, none⟩ = some (.slice B4 fs4.length d4) ∧ w'.cell? ⟨tb, tq + i * 6 + 5, none⟩ = some (.slice C4 vs4.length e4)) ∧ (w'.cell? ⟨w.heap.size + 1, 0, none⟩ = some (.int .i64 k3) ∧ w'.cell? ⟨w.heap.size + 1, 1, none⟩ = some (.string s3) ∧ w'.cell? ⟨w.heap.size + 1, 2, none⟩ = some (.int .i64 n3) ∧ w'.cell? ⟨w.heap.size + 1, 3, none⟩ = some (.slice A3 ps3.length c3) ∧ w'.cell? ⟨w.heap.size + 1, 4, none⟩ = some (.slice B3 fs3.length d3) ∧ w'.cell? ⟨w.heap.size + 1, 5, none⟩ = some (.slice C3 vs3.length e3)))) (by kernel_rfl) (HC.out _ (Below.refl _ _).drew) (fun hHeld => ?_)
   refine Plan.start [0, 1, 2, 3, 4] ?_
   iterate 5 (refine Plan.tk (so rfl) hHeld ?_; try simp only [Act.put, pz1, pz2, pz3])
   refine Plan.done ?_
   refine wpAnyH_ready (rs := [5]) (by kernel_rfl) (by simp) ?_
   refine AllReadyH.cons (sd (some 25) rfl) (fun Kx hK => ?_) AllReadyH.nil
   go_simp
   refine (KQ.out _ (Below.refl _ _).drew).mono ?_
   rintro e w5 ⟨rfl, hb5⟩
   have HB5 := Hd ((Below.refl wr.heap.size wr).drew.trans hb5)
   clear hb5
   go_wp2_with fail
   refine hK.out _ _ (HC.out _ HB5.out) (fun hHeld => ?_)
   clear hK Kx
   try simp only [Act.put, pz1, pz2, pz3]
   refine wpAnyH_done (by kernel_rfl) ?_ _
   clear hHeld
   try clear hHeld
   have HZ5 := Hd (HBR.out.trans (HB5.out.mono HBR.out.size))
   have HO5 : Hid (OutT (fun b => K2 b ∧ b < w2.heap.size) w2 w5 (.slice A5 ((L.take i).filter O).length c5) ((L.take i).filter O)) := Hd (HO.out.keep fun b hb => HB5.out.block b (HO.out.block_lt hb))
   rcases Bool.eq_false_or_eq_true ob with hob | hob
   ·subst hob
    obtain ⟨W2, hW2⟩ : ∃ x, x = w5.alloc (.cells #[.int .i64 k4, .string s4, .int .i64 n4, .slice A4 ps4.length c4, .slice B4 fs4.length d4, .slice C4 vs4.length e4] 26) := ⟨_, rfl⟩
    have hbW2 : Below w5.heap.size w5 W2 := by rw [hW2]; exact (Below.refl _ _).alloc (Nat.le_refl _) _
    have HOW : Hid (OutT (fun b => K2 b ∧ b < w2.heap.size) w2 W2 (.slice A5 ((L.take i).filter O).length c5) ((L.take i).filter O)) := Hd (HO5.out.keep fun b hb => hbW2.block b (HO5.out.block_lt hb))
    have HCW : Hid (∀ j u, ([.int .i64 k4, .string s4, .int .i64 n4, .slice A4 ps4.length c4, .slice B4 fs4.length d4, .slice C4 vs4.length e4] : List Value)[j]? = some u → W2.cell? ⟨w5.heap.size, j, none⟩ = some u) := Hd fun j u hj => by rw [hW2, Ch (heap_alloc_new w5 _)]; simpa using hj
    have HBB := Hd (HZ5.out.trans (hbW2.mono HZ5.out.size))
    have HNX2 : Hid ((L.take (i + 1)).filter O = (L.take i).filter O ++ [.mk k4 s4 n4 ps4 fs4 vs4]) := Hd (by rw [HNX.out]; simp)
    have HW2 := Hd hW2
    clear hW2 hbW2 HNX
    obtain ⟨⟨x0, x1, x2, x3, x4, x5⟩, -⟩ := HC.out w5 HB5.out
    go_wp2_with (at_builtin; refine wpList_plain rfl fun Kx hK => ?_; rw [← HW2.out]; go_loud (refine wp_append_one (K := fun b => K2 b ∧ b < w2.heap.size) (w0 := w2) (gg := w5.heap.size) (t := .mk k4 s4 n4 ps4 fs4 vs4) (ts := (L.take i).filter O) _ _ rfl (by rfl) (by rfl) HOW.out HRQ.out HCW.out HBB.out HLEN.out ?_))
    intro v3 w4 ho3 hb3 _
    refine hK _ _ ?_
    clear hK Kx x0 x1 x2 x3 x4 x5
    rw [← HNX2.out] at ho3
    have HO3 := Hd (And.intro ho3 hb3)
    clear ho3 hb3
    go_wp2_with fail
    refine ⟨⟨i + 1, HIn.out, by first | rfl | rw [wr2], HO3.out.1, HO3.out.2⟩, ?_⟩
    first | exact HM.out | (rw [wr2]; exact HM.out)
   ·subst hob
    have HNX2 : Hid ((L.take (i + 1)).filter O = (L.take i).filter O) := Hd (by rw [HNX.out]; simp)
    clear HNX
    go_wp2_with fail
    refine ⟨⟨i + 1, HIn.out, by first | rfl | rw [wr2], ?_, HZ5.out⟩, ?_⟩
    ·rw [HNX2.out]; exact HO5.out
    ·first | exact HM.out | (rw [wr2]; exact HM.out)
  ·have t1 : decide ((i : Int) < (L.length : Int)) = false := by simp; omega
   obtain rfl : i = L.length := by omega
   have ho := HO.out
   rw [List.take_length] at ho ⊢
   obtain ⟨Ar, cr, hv, hl⟩ := ho.list (fun b h => h.2) HBR.out (by have := List.length_filter_le O L; omega)
   have hl2 := hl.both
   have KU := Hd (uniL_any hl2 (fun b h => h.2) (fun x hx => HFA.out x (List.mem_filter.1 hx).1) (by have := cntL_filter O L; have := HCL.out.1; omega))
   unfold FdT at KU
   rw [HU.out] at KU
   injection hv with hv1 hv2 hv3
   subst hv1
   subst hv3
   clear ho hl hl2 hin hi hll hv2
   go_wp2_with fail
   refine KU.out.mono ?_
   rintro e w7 ⟨rs, rfl, hr7, hb7⟩
   have HZ7 := Hd (HB12.out.trans ((HBR.out.trans (hb7.mono HBR.out.size)).mono HB12.out.size))
   have HB7 := Hd (HB1.out.trans (HZ7.out.mono HB1.out.size))
   have rb := box_up HZ7.out (by have := HS1.out; omega) HY.out
   have hr8 : RepT (fun b => K b ∨ g < b) w7 u8 rs := hr7.weak fun b h => by
    have h1 := HS1.out
    have h2 := HB12.out.size
    have h3 := HBR.out.size
    rw [HK2.out] at h
    rcases h with ⟨⟨h, -⟩ | h, -⟩ | h
    ·exact h
    ·exact .inr (by omega)
    ·exact .inr (by omega)
   obtain ⟨k8, s8, n8, ps8, fs8, vs8⟩ := u8
   obtain ⟨A8, c8, B8, d8, C8, e8, rfl, -⟩ := hr8.inv
   have HRR := Hd hr8
   simp only [cells6T] at HRR ⊢
   clear hr7 hr8 hb7 KU
   obtain ⟨q0, q1, q2, q3, q4, q5, z0, z1, z2, z3, z4, z5⟩ := qz6 rb
   have RBX := Hd rb
   clear rb
   go_wp2_with fail
   obtain ⟨r0, r1, r2, r3, r4, r5⟩ := cz6 (six_set RBX.out (.int .i64 k8) (.string s8) (.int .i64 n8) (.slice A8 ps8.length c8) (.slice B8 fs8.length d8) (.slice C8 vs8.length e8))
   clear q0 q1 q2 q3 q4 q5 z0 z1 z2 z3 z4 z5 RBX
   refine bodyPost_ret (v := .agg #[.int .i64 k8, .string s8, .int .i64 n8, .slice A8 ps8.length c8, .slice B8 fs8.length d8, .slice C8 vs8.length e8]) (by simp [results, Tryz.results31, go_sem, r0, r1, r2, r3, r4, r5]) rfl ?_
   clear r0 r1 r2 r3 r4 r5
   exact ⟨[.int .i64 k8, .string s8, .int .i64 n8, .slice A8 ps8.length c8, .slice B8 fs8.length d8, .slice C8 vs8.length e8], rfl, ret_box HRR.out (fun b h => by have h1 := HLO.out b h; have h2 := HG.out; omega) (by have := HG.out; omega) _ _ _ _ _ _, set_six_below HB7.out (by have := HG.out; omega) _ _ _ _ _ _⟩
end Go.Proofs.YteakkjhcdpbidaaGreatDoor
