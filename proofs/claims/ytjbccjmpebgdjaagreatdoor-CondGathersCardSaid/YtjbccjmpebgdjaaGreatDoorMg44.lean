import Derived.Test.YtjbccjmpebgdjaaGreatDoorMg43
namespace Go.Proofs.YtjbccjmpebgdjaaGreatDoor
open Go.RowKit
set_option maxRecDepth 100000
set_option maxHeartbeats 64000000
theorem ListT.pre {K : Nat → Prop} {w : World} {l : List Ty} {A : Option Addr} {c : Nat} (h : ListT K w l A c) (n : Nat) (hn : n ≤ l.length) : ListT K w (l.take n) A c := by
 obtain ⟨b, o, hr, hat⟩ := h
 have hl : (l.take n).length = n := by simp; omega
 refine ⟨b, o, ⟨by rw [hl]; have := hr.le; omega, by rw [hl]; have := hr.big; omega, hr.none, fun h0 => hr.some (by rw [hl] at h0; omega)⟩, fun i hi => ?_⟩
 rw [List.getElem_take]
 exact hat i (by rw [hl] at hi; omega)
theorem ListT.cap {K : Nat → Prop} {w : World} {l : List Ty} {A : Option Addr} {c : Nat} (h : ListT K w l A c) : l.length ≤ c := by
 obtain ⟨b, o, hr, hat⟩ := h
 exact hr.le
theorem six_repG {K : Nat → Prop} {g : Nat} {W : World} {t : Ty} {cs : List Value} (h : RepT K W t cs) (hn : ∀ b, K b → b ≠ g) (y0 y1 y2 y3 y4 y5 : Value) :
  RepT K ((((((W.setCell ⟨g, 0, none⟩ y0).setCell ⟨g, 1, none⟩ y1).setCell ⟨g, 2, none⟩ y2).setCell ⟨g, 3, none⟩ y3).setCell ⟨g, 4, none⟩ y4).setCell ⟨g, 5, none⟩ y5) t cs :=
 RepT.keep (fun _ h => h) (fun b o v hk hc => by
  rw [six_other W y0 y1 y2 y3 y4 y5 (p := ⟨b, o, none⟩) (by show b ≠ _; exact hn b hk)]
  exact hc) t cs h
theorem ButG.set {O : Nat → Prop} {a W : World} (h : ButG O a W) {p : Addr} (hp : a.heap.size ≤ p.block) (y : Value) : ButG O a (W.setCell p y) :=
 h.trans (O' := fun x => x = p.block) ⟨rfl, rfl, rfl, by simp [World.setCell], fun k _ hk => Below.heap_setCell _ _ _ _ hk⟩ fun x hx => .inr (by omega)
theorem Gro.six {v lv : Value} {w W : World} (h : Gro v w lv W) {g : Nat} (hg : w.heap.size ≤ g) (y0 y1 y2 y3 y4 y5 : Value) : Gro v w lv ((((((W.setCell ⟨g, 0, none⟩ y0).setCell ⟨g, 1, none⟩ y1).setCell ⟨g, 2, none⟩ y2).setCell ⟨g, 3, none⟩ y3).setCell ⟨g, 4, none⟩ y4).setCell ⟨g, 5, none⟩ y5) :=
 ⟨(((((h.but.set hg y0).set hg y1).set hg y2).set hg y3).set hg y4).set hg y5, h.own⟩
theorem any_snoc (l : FsT) (j : Nat) (hj : j < l.length) (np : ByteArray) : (l.take (j + 1)).any (fun g => decide (g.1 = np)) = ((l.take j).any (fun g => decide (g.1 = np)) || decide (l[j].1 = np)) := by
 rw [List.take_succ_eq_append_getElem hj, List.any_append]
 simp
theorem wrap_kindG (x : Int) : IntKind.i64.wrap x = wrap64 x := by unfold wrap64; exact IntKind.wrap_i64 x
theorem cntL_takeL (l : List Ty) (n : Nat) : cntL (l.take n) ≤ cntL l := by
 conv => rhs; rw [← List.take_append_drop n l, cntL_app]
 omega
theorem fn_ref (s : ByteArray) (n : Int) (ps : List Ty) (fs : FsT) (vs : VsT) (s2 : ByteArray) (n2 : Int) (ps2 : List Ty) (fs2 : FsT) (vs2 : VsT) (hv : vs = []) (ih : ∀ q ∈ ps2, ∀ u ∈ ps, AgP q u) : FnP 64 (.mk 13 s2 n2 ps2 fs2 vs2) (.mk 13 s n ps fs vs) := by
 refine ag_pre 13 s n ps fs vs 13 s2 n2 ps2 fs2 vs2 fun K K' B0 w v G A c B d C e A2 c2 B2 d2 C2 e2 w1 h => ?_
 obtain ⟨hr, hp, hkT, hkP, hB, hO, hfp, hft, hct, hlen, hLt, hLg, hLp, hLf, hown, hb1, HBX, HO1, HG1, HW1⟩ := h
 have hga : gathT (.mk 13 s2 n2 ps2 fs2 vs2) (.mk 13 s n ps fs vs) = (List.zipWith gathT ps2.dropLast ps.dropLast).flatten ++ (match ps2.getLast?, ps.getLast? with
   | some q, some u => gathT q u
   | _, _ => []) := by
  rw [gathM, if_neg (by show ¬ ((13 : Int) = 22); decide), if_neg (by show ¬ ((13 : Int) = 15); decide), if_neg (by show ¬ (isComp 13 = false); decide), if_neg (by show ¬ ((13 : Int) = 15); decide), if_neg (by show ¬ ((13 : Int) = 11 ∧ (13 : Int) = 12); decide), if_neg (by show ¬ ((13 : Int) ≠ 13); decide), if_neg (by show ¬ ((13 : Int) = 11); decide), if_neg (by show ¬ ((13 : Int) = 12 ∨ ((13 : Int) = 17 ∧ _)); intro h; rcases h with h | ⟨h, _⟩ <;> exact absurd h (by decide)), if_pos (show (13 : Int) = 13 ∧ vs = [] from ⟨rfl, hv⟩)]
  rfl
 rw [hga] at hlen ⊢
 have hc1 := cntT_mk 13 s n ps fs vs
 have hc2 := cntT_mk 13 s2 n2 ps2 fs2 vs2
 have h1 : 0 < ps.length := by have h := fit_lo hft; simp only [Ty.k, Ty.ps] at h; rw [show (shapeK 13).lo = 1 from rfl] at h; omega
 have h2 : 0 < ps2.length := by have h := fit_lo hfp; simp only [Ty.k, Ty.ps] at h; rw [show (shapeK 13).lo = 1 from rfl] at h; omega
 obtain ⟨a, ha⟩ : ∃ a, ps.length = a + 1 := ⟨ps.length - 1, by omega⟩
 obtain ⟨a2, ha2⟩ : ∃ a2, ps2.length = a2 + 1 := ⟨ps2.length - 1, by omega⟩
 have hlt := hLt.short
 have hlp := hLp.short
 have e1 : ps.dropLast = ps.take a := by rw [List.dropLast_eq_take, ha]; rfl
 have e2 : ps2.dropLast = ps2.take a2 := by rw [List.dropLast_eq_take, ha2]; rfl
 have e3 : ps.getLast? = some (ps[a]'(by omega)) := by rw [List.getLast?_eq_getElem?, show ps.length - 1 = a from by omega]; exact List.getElem?_eq_getElem (by omega)
 have e4 : ps2.getLast? = some (ps2[a2]'(by omega)) := by rw [List.getLast?_eq_getElem?, show ps2.length - 1 = a2 from by omega]; exact List.getElem?_eq_getElem (by omega)
 rw [e1, e2, e3, e4] at hlen ⊢
 simp only at hlen ⊢
 rw [List.length_append] at hlen
 have hta : (ps.take a).length = a := by simp; omega
 have hta2 : (ps2.take a2).length = a2 := by simp; omega
 have hm1 := List.getElem_mem (show a < ps.length by omega)
 have hm2 := List.getElem_mem (show a2 < ps2.length by omega)
 have hq1 := cntL_takeL ps a
 have hq2 := cntL_takeL ps2 a2
 have KP := Hd ((rparts (w := w1.drew.drew) ((hLt.pre a (by omega)).later ((Below.refl _ _).drew.drew)) ((hLp.pre a2 (by omega)).later ((Below.refl _ _).drew.drew)) hkT hkP hB (hO.drew.drew) (fun q hq u hu => ih q (List.mem_of_mem_take hq) u (List.mem_of_mem_take hu)) (fun q hq => form_ps hfp q (List.mem_of_mem_take hq)) (fun u hu => form_ps hft u (List.mem_of_mem_take hu)) (by omega) (by omega)).mono fun _ _ h => AgPost.from (Gro.refl v w1).drew.drew h)
 rw [hta, hta2] at KP
 obtain ⟨tb, tq, hA, hKb, hat⟩ := hLt.at (by omega)
 obtain ⟨pb, po, hA2, hKb2, hat2⟩ := hLp.at (by omega)
 subst hA hA2
 obtain ⟨cs3, hcs3, hr3⟩ := hat a (by omega)
 obtain ⟨cs4, hcs4, hr4⟩ := hat2 a2 (by omega)
 have hcu := cntL_mem hm1
 have hcq := cntL_mem hm2
 have KQ := Hd fun wr v' (hg : Gro v w1 v' wr) (ho : FdR B0 wr v' (G ++ (List.zipWith gathT (ps2.take a2) (ps.take a)).flatten)) => AgP.go (ih _ hm2 _ hm1) hr3 hr4 hkT hkP hB hg ho (form_ps hfp _ hm2) (form_ps hft _ hm1) (by omega) (by rw [List.length_append]; omega)
 rw [← List.append_assoc]
 have hkb := (hkT _ hKb).2
 have hkb2 := (hkP _ hKb2).2
 have hcap := hLt.cap
 have hcap2 := hLp.cap
 generalize ps[a] = u at hr3 KQ ⊢
 generalize ps2[a2] = q at hr4 KQ ⊢
 obtain ⟨k3, s3, n3, ps3, fs3, vs3⟩ := u
 obtain ⟨k4, s4, n4, ps4, fs4, vs4⟩ := q
 obtain ⟨A3, c3, B3, d3, C3, e3x, rfl, -⟩ := hr3.inv
 obtain ⟨A4, c4, B4, d4, C4, e4x, rfl, -⟩ := hr4.inv
 simp only [cells6T] at hcs3 hcs4 KQ
 have HSW : Hid (∀ v' wx, Gro v w1 v' wx → (wx.cell? ⟨w.heap.size, 3, none⟩ = some (.slice (some ⟨tb, tq, none⟩) ps.length c) ∧ wx.cell? ⟨w.heap.size + 1, 3, none⟩ = some (.slice (some ⟨pb, po, none⟩) ps2.length c2)) ∧ (wx.cell? ⟨tb, tq + a * 6, none⟩ = some (.int .i64 k3) ∧ wx.cell? ⟨tb, tq + a * 6 + 1, none⟩ = some (.string s3) ∧ wx.cell? ⟨tb, tq + a * 6 + 2, none⟩ = some (.int .i64 n3) ∧ wx.cell? ⟨tb, tq + a * 6 + 3, none⟩ = some (.slice A3 ps3.length c3) ∧ wx.cell? ⟨tb, tq + a * 6 + 4, none⟩ = some (.slice B3 fs3.length d3) ∧ wx.cell? ⟨tb, tq + a * 6 + 5, none⟩ = some (.slice C3 vs3.length e3x)) ∧ (wx.cell? ⟨pb, po + a2 * 6, none⟩ = some (.int .i64 k4) ∧ wx.cell? ⟨pb, po + a2 * 6 + 1, none⟩ = some (.string s4) ∧ wx.cell? ⟨pb, po + a2 * 6 + 2, none⟩ = some (.int .i64 n4) ∧ wx.cell? ⟨pb, po + a2 * 6 + 3, none⟩ = some (.slice A4 ps4.length c4) ∧ wx.cell? ⟨pb, po + a2 * 6 + 4, none⟩ = some (.slice B4 fs4.length d4) ∧ wx.cell? ⟨pb, po + a2 * 6 + 5, none⟩ = some (.slice C4 vs4.length e4x))) := Hd fun v' wx hg => ⟨⟨(HBX.out _ _ hg).1.2.2.2.1, (HBX.out _ _ hg).2.2.2.2.1⟩, ⟨hg.cell hkb (hcs3 0 _ rfl), hg.cell hkb (hcs3 1 _ rfl), hg.cell hkb (hcs3 2 _ rfl), hg.cell hkb (hcs3 3 _ rfl), hg.cell hkb (hcs3 4 _ rfl), hg.cell hkb (hcs3 5 _ rfl)⟩, hg.cell hkb2 (hcs4 0 _ rfl), hg.cell hkb2 (hcs4 1 _ rfl), hg.cell hkb2 (hcs4 2 _ rfl), hg.cell hkb2 (hcs4 3 _ rfl), hg.cell hkb2 (hcs4 4 _ rfl), hg.cell hkb2 (hcs4 5 _ rfl)⟩
 have m1 : IntKind.i64.wrap (((ps.length : Nat) : Int) - 1) = (a : Int) := by rw [wrap_kindG, wrap_in (by omega) (by omega)]; omega
 have m2 : IntKind.i64.wrap (((ps2.length : Nat) : Int) - 1) = (a2 : Int) := by rw [wrap_kindG, wrap_in (by omega) (by omega)]; omega
 have m3 : wrap64 (((ps.length : Nat) : Int) - 1) = (a : Int) := by rw [wrap_in (by omega) (by omega)]; omega
 have m4 : wrap64 (((ps2.length : Nat) : Int) - 1) = (a2 : Int) := by rw [wrap_in (by omega) (by omega)]; omega
 have j1 : (0 : Int) ≤ (a : Int) := by omega
 have j2 : (0 : Int) ≤ (a2 : Int) := by omega
 have j3 : (a : Int) < ((ps.length : Nat) : Int) := by omega
 have j4 : (a2 : Int) < ((ps2.length : Nat) : Int) := by omega
 have j5 : (a : Int) ≤ (c : Int) := by omega
 have j6 : (a2 : Int) ≤ (c2 : Int) := by omega
 have j7 : a ≤ c := by omega
 have j8 : a2 ≤ c2 := by omega
 clear hcs3 hcs4 hr3 hr4 hkb hkb2 hKb hKb2 hat hat2 hc1 hc2 hga ih h1 h2 e1 e2 e3 e4 hta hta2 hm1 hm2 hq1 hq2 hcu hcq hcap hcap2 hlt hlp hv
 clear hr hp hkT hkP hB hO hfp hft hct hlen hLt hLg hLp hLf hb1 hown
 clear ha ha2
 generalize (List.zipWith gathT (ps2.take a2) (ps.take a)).flatten = Z at KP KQ ⊢
 go_enter Tryz.func64, Tryz.ntmps64
 go_upto_region 1 with fail
 rw [← HW1.out]
 obtain ⟨⟨x0, x1, x2, x3, x4, x5⟩, ⟨y0, y1, y2, y3, y4, y5⟩⟩ := HBX.out _ _ (Gro.refl _ _)
 clear x0 x1 x2 x3 x4 x5 y0 y1 y2 y3 y4 y5
 refine wp_region_held_drew (S := (fun w' => (w'.cell? ⟨w.heap.size, 3, none⟩ = some (.slice (some ⟨tb, tq, none⟩) ps.length c) ∧ w'.cell? ⟨w.heap.size + 1, 3, none⟩ = some (.slice (some ⟨pb, po, none⟩) ps2.length c2)) ∧ (w'.cell? ⟨tb, tq + a * 6, none⟩ = some (.int .i64 k3) ∧ w'.cell? ⟨tb, tq + a * 6 + 1, none⟩ = some (.string s3) ∧ w'.cell? ⟨tb, tq + a * 6 + 2, none⟩ = some (.int .i64 n3) ∧ w'.cell? ⟨tb, tq + a * 6 + 3, none⟩ = some (.slice A3 ps3.length c3) ∧ w'.cell? ⟨tb, tq + a * 6 + 4, none⟩ = some (.slice B3 fs3.length d3) ∧ w'.cell? ⟨tb, tq + a * 6 + 5, none⟩ = some (.slice C3 vs3.length e3x)) ∧ (w'.cell? ⟨pb, po + a2 * 6, none⟩ = some (.int .i64 k4) ∧ w'.cell? ⟨pb, po + a2 * 6 + 1, none⟩ = some (.string s4) ∧ w'.cell? ⟨pb, po + a2 * 6 + 2, none⟩ = some (.int .i64 n4) ∧ w'.cell? ⟨pb, po + a2 * 6 + 3, none⟩ = some (.slice A4 ps4.length c4) ∧ w'.cell? ⟨pb, po + a2 * 6 + 4, none⟩ = some (.slice B4 fs4.length d4) ∧ w'.cell? ⟨pb, po + a2 * 6 + 5, none⟩ = some (.slice C4 vs4.length e4x)))) (by kernel_rfl) (HSW.out _ _ (Gro.refl _ _).drew) (fun hHeld => ?_)
 refine Plan.start [0, 1, 2, 3, 4, 5, 6, 7, 8, 9] ?_
 iterate 10 (refine Plan.tk (so rfl) hHeld ?_; try simp only [Act.put, pz1, pz2, pz3])
 refine Plan.done ?_
 refine wpAnyH_done (by kernel_rfl) ?_ _
 clear hHeld
 go_upto_region 2 with fail
 refine wp_region_held_drew (S := (fun w' => (w'.cell? ⟨w.heap.size, 3, none⟩ = some (.slice (some ⟨tb, tq, none⟩) ps.length c) ∧ w'.cell? ⟨w.heap.size + 1, 3, none⟩ = some (.slice (some ⟨pb, po, none⟩) ps2.length c2)) ∧ (w'.cell? ⟨tb, tq + a * 6, none⟩ = some (.int .i64 k3) ∧ w'.cell? ⟨tb, tq + a * 6 + 1, none⟩ = some (.string s3) ∧ w'.cell? ⟨tb, tq + a * 6 + 2, none⟩ = some (.int .i64 n3) ∧ w'.cell? ⟨tb, tq + a * 6 + 3, none⟩ = some (.slice A3 ps3.length c3) ∧ w'.cell? ⟨tb, tq + a * 6 + 4, none⟩ = some (.slice B3 fs3.length d3) ∧ w'.cell? ⟨tb, tq + a * 6 + 5, none⟩ = some (.slice C3 vs3.length e3x)) ∧ (w'.cell? ⟨pb, po + a2 * 6, none⟩ = some (.int .i64 k4) ∧ w'.cell? ⟨pb, po + a2 * 6 + 1, none⟩ = some (.string s4) ∧ w'.cell? ⟨pb, po + a2 * 6 + 2, none⟩ = some (.int .i64 n4) ∧ w'.cell? ⟨pb, po + a2 * 6 + 3, none⟩ = some (.slice A4 ps4.length c4) ∧ w'.cell? ⟨pb, po + a2 * 6 + 4, none⟩ = some (.slice B4 fs4.length d4) ∧ w'.cell? ⟨pb, po + a2 * 6 + 5, none⟩ = some (.slice C4 vs4.length e4x)))) (by kernel_rfl) (HSW.out _ _ ((Gro.refl _ _).drew.drew)) (fun hHeld => ?_)
 refine Plan.start [0, 1, 2, 3, 4, 5, 6, 7, 8] ?_
 iterate 9 (refine Plan.tk (so rfl) hHeld ?_; try simp only [Act.put, pz1, pz2, pz3])
 refine Plan.done ?_
 refine wpAnyH_ready (rs := [9]) (by kernel_rfl) (by simp) ?_
 refine AllReadyH.cons (sd (some 26) rfl) (fun Kx hK => ?_) AllReadyH.nil
 go_simp
 refine (KP.out).mono ?_
 rintro e w5 ⟨v5, rfl, hO5, hg5⟩
 have HO5 := Hd hO5
 have HG5 := Hd hg5
 clear hO5 hg5
 go_wp2_with fail
 refine hK.out _ _ (HSW.out _ _ HG5.out) (fun hHeld => ?_)
 clear hK Kx
 try simp only [Act.put, pz1, pz2, pz3]
 refine Plan.start [10] ?_
 refine Plan.tk (so rfl) hHeld ?_
 try simp only [Act.put, pz1, pz2, pz3]
 refine Plan.done ?_
 refine wpAnyH_done (by kernel_rfl) ?_ _
 clear hHeld
 go_upto_region 3 with fail
 refine wp_region_held_drew (S := (fun w' => (w'.cell? ⟨w.heap.size, 3, none⟩ = some (.slice (some ⟨tb, tq, none⟩) ps.length c) ∧ w'.cell? ⟨w.heap.size + 1, 3, none⟩ = some (.slice (some ⟨pb, po, none⟩) ps2.length c2)) ∧ (w'.cell? ⟨tb, tq + a * 6, none⟩ = some (.int .i64 k3) ∧ w'.cell? ⟨tb, tq + a * 6 + 1, none⟩ = some (.string s3) ∧ w'.cell? ⟨tb, tq + a * 6 + 2, none⟩ = some (.int .i64 n3) ∧ w'.cell? ⟨tb, tq + a * 6 + 3, none⟩ = some (.slice A3 ps3.length c3) ∧ w'.cell? ⟨tb, tq + a * 6 + 4, none⟩ = some (.slice B3 fs3.length d3) ∧ w'.cell? ⟨tb, tq + a * 6 + 5, none⟩ = some (.slice C3 vs3.length e3x)) ∧ (w'.cell? ⟨pb, po + a2 * 6, none⟩ = some (.int .i64 k4) ∧ w'.cell? ⟨pb, po + a2 * 6 + 1, none⟩ = some (.string s4) ∧ w'.cell? ⟨pb, po + a2 * 6 + 2, none⟩ = some (.int .i64 n4) ∧ w'.cell? ⟨pb, po + a2 * 6 + 3, none⟩ = some (.slice A4 ps4.length c4) ∧ w'.cell? ⟨pb, po + a2 * 6 + 4, none⟩ = some (.slice B4 fs4.length d4) ∧ w'.cell? ⟨pb, po + a2 * 6 + 5, none⟩ = some (.slice C4 vs4.length e4x)))) (by kernel_rfl) (HSW.out _ _ HG5.out.drew) (fun hHeld => ?_)
 refine Plan.start [0, 1, 2, 3, 4, 5, 6, 7, 8, 9, 10] ?_
 iterate 11 (refine Plan.tk (so rfl) hHeld ?_; try simp only [Act.put, pz1, pz2, pz3])
 refine Plan.done ?_
 refine wpAnyH_ready (rs := [11]) (by kernel_rfl) (by simp) ?_
 refine AllReadyH.cons (sd (some 38) rfl) (fun Kx hK => ?_) AllReadyH.nil
 go_simp
 refine (KQ.out _ _ HG5.out.drew HO5.out.drew).mono ?_
 rintro e w6 ⟨v6, rfl, hO6, hg6⟩
 have HO6 := Hd hO6
 have HG6 := Hd hg6
 clear hO6 hg6
 go_wp2_with fail
 refine hK.out _ _ (HSW.out _ _ HG6.out) (fun hHeld => ?_)
 clear hK Kx
 try simp only [Act.put, pz1, pz2, pz3]
 refine Plan.start [12] ?_
 refine Plan.tk (so rfl) hHeld ?_
 try simp only [Act.put, pz1, pz2, pz3]
 refine Plan.done ?_
 refine wpAnyH_done (by kernel_rfl) ?_ _
 clear hHeld
 go_wp2_with fail
 go_ret
 exact AgPost.from HG1.out ⟨v6, rfl, HO6.out, HG6.out⟩
theorem obj_ref (s : ByteArray) (n : Int) (ps : List Ty) (fs : FsT) (vs : VsT) (s2 : ByteArray) (n2 : Int) (ps2 : List Ty) (fs2 : FsT) (vs2 : VsT) (ih : ∀ f ∈ fs2, ∀ g ∈ fs, AgP f.2.2 (heldT g)) : FnP 65 (.mk 14 s2 n2 ps2 fs2 vs2) (.mk 14 s n ps fs vs) := by
 refine ag_pre 14 s n ps fs vs 14 s2 n2 ps2 fs2 vs2 fun K K' B0 w v G A c B d C e A2 c2 B2 d2 C2 e2 w1 h => ?_
 obtain ⟨hr, hp, hkT, hkP, hB, hO, hfp, hft, hct, hlen, hLt, hLg, hLp, hLf, hown, hb1, HBX, HO1, HG1, HW1⟩ := h
 have hga : gathT (.mk 14 s2 n2 ps2 fs2 vs2) (.mk 14 s n ps fs vs) = (fs2.map (fun f => ((fs.find? fun g => decide (g.1 = f.1)).map fun g => gathT f.2.2 (heldT g)).getD [])).flatten := by
  rw [gathM, if_neg (by show ¬ ((14 : Int) = 22); decide), if_neg (by show ¬ ((14 : Int) = 15); decide), if_neg (by show ¬ (isComp 14 = false); decide), if_neg (by show ¬ ((14 : Int) = 15); decide), if_neg (by show ¬ ((14 : Int) = 11 ∧ (14 : Int) = 12); decide), if_neg (by show ¬ ((14 : Int) ≠ 14); decide), if_neg (by show ¬ ((14 : Int) = 11); decide), if_neg (by show ¬ ((14 : Int) = 12 ∨ ((14 : Int) = 17 ∧ _)); intro h; rcases h with h | ⟨h, _⟩ <;> exact absurd h (by decide)), if_neg (by show ¬ ((14 : Int) = 13 ∧ _); intro h; exact absurd h.1 (by decide)), if_pos rfl]
 rw [hga] at hlen ⊢
 have hnames := fun i (hi : i < fs.length) j (hj : j < fs.length) (h : (fs[i]'hi).1 = (fs[j]'hj).1) => asc_names (t := (.mk 14 s n ps fs vs)) hft rfl hi hj h
 have hfields := fun (f : ByteArray × Int × Ty) (hf : f ∈ fs) => fieldsB_mem (form_fields (t := (.mk 14 s n ps fs vs)) hft rfl) hf
 have hfat := fun i (hi : i < fs.length) => field_at (t := (.mk 14 s n ps fs vs)) hft rfl hi
 simp only [Ty.fs] at hfat
 have hlg : fs.length ≤ 1000000000000000 := by obtain ⟨_, _, h1, _⟩ := hLg; exact h1.big
 have hlf : fs2.length ≤ 1000000000000000 := by obtain ⟨_, _, h1, _⟩ := hLf; exact h1.big
 have hfs : ∀ f ∈ fs, (formT f.2.2 = true ∧ cntT f.2.2 ≤ 1000000) ∧ 0 ≤ f.2.1 ∧ f.2.1 ≤ 3 := fun f hf => ⟨⟨(hfields f hf).2.2.2, by have := cnt_fs (t := (.mk 14 s n ps fs vs)) hf; omega⟩, (hfields f hf).2.1, (hfields f hf).2.2.1⟩
 have KS0 := Hd fun (np : ByteArray) (v' : Value) (wx : World) (hg : Gro v w1 v' wx) => stands_obj np (hg.rep hkT hr) (fun b h => (hg.off hkT b h).1) hfs
 have KQ0 : Hid (∀ i (hi : i < fs2.length) cs, RepT K' w1 (fs2[i]'hi).2.2 cs → ∀ j (hj : j < fs.length), (fs[j]'hj).1 = (fs2[i]'hi).1 → ∀ (Kx : Nat → Prop) wx rs v' (L : List (ByteArray × Ty)), L = ((fs2.map (fun f => ((fs.find? fun g => decide (g.1 = f.1)).map fun g => gathT f.2.2 (heldT g)).getD [])).take i).flatten → Gro v w1 v' wx → RepT Kx wx (fieldT fs (fs2[i]'hi).1) rs → Off v' wx Kx → FdR B0 wx v' (G ++ L) → Calls Tryz.prog 30 #[.agg rs.toArray, .agg cs.toArray, v'] wx (AgPost B0 wx v' ((G ++ L) ++ gathT (fs2[i]'hi).2.2 (fieldT fs (fs2[i]'hi).1)))) := Hd fun i hi cs hcs j hj hnm Kx wx rs v' L hL hg hrs hok ho => by
  have hm := List.getElem_mem hi
  have hm2 := List.getElem_mem hj
  have hu : fieldT fs (fs2[i]'hi).1 = heldT (fs[j]'hj) := by rw [← hnm]; exact hfat j hj
  have h1 := cnt_fs (t := (.mk 14 s2 n2 ps2 fs2 vs2)) hm
  have h2 := cnt_fs (t := (.mk 14 s n ps fs vs)) hm2
  have h3 := cnt_held (fs[j]'hj)
  have hZ : (fs2.map (fun f => ((fs.find? fun g => decide (g.1 = f.1)).map fun g => gathT f.2.2 (heldT g)).getD []))[i]'(by rw [List.length_map]; exact hi) = gathT (fs2[i]'hi).2.2 (heldT (fs[j]'hj)) := by
   rw [List.getElem_map]
   have hfd : (fs.find? fun g => decide (g.1 = (fs2[i]'hi).1)) = some (fs[j]'hj) := by
    rw [← hnm]
    exact find_first hj fun a ha e => hnames a ha j hj e
   rw [hfd]
   rfl
  have h4 : ((fs2.map (fun f => ((fs.find? fun g => decide (g.1 = f.1)).map fun g => gathT f.2.2 (heldT g)).getD [])).take (i + 1)).flatten.length ≤ (fs2.map (fun f => ((fs.find? fun g => decide (g.1 = f.1)).map fun g => gathT f.2.2 (heldT g)).getD [])).flatten.length := by
   conv => rhs; rw [← List.take_append_drop (i + 1) (fs2.map (fun f => ((fs.find? fun g => decide (g.1 = f.1)).map fun g => gathT f.2.2 (heldT g)).getD [])), List.flatten_append, List.length_append]
   omega
  rw [List.take_succ_eq_append_getElem (by rw [List.length_map]; exact hi), List.flatten_append, List.length_append, hZ] at h4
  simp only [List.flatten_cons, List.flatten_nil, List.append_nil] at h4
  rw [hu] at hrs ⊢
  subst hL
  exact ih (fs2[i]'hi) hm (fs[j]'hj) hm2 Kx K' B0 wx rs cs v' _ hrs (hg.rep hkP hcs) hok (hg.off hkP) (Nat.le_trans hB hg.but.size) ho (form_fs hfp _ hm) (form_held (hfields _ hm2).2.2.2) (by omega) (by rw [List.length_append]; omega)
 have HNM := Hd hnames
 have HZI : Hid (∀ i (hi : i < fs2.length) k4 s4 n4 ps4 fs4 vs4 np, (fs2[i]'hi).2.2 = .mk k4 s4 n4 ps4 fs4 vs4 → (fs2[i]'hi).1 = np → ((fs2.map (fun f => ((fs.find? fun g => decide (g.1 = f.1)).map fun g => gathT f.2.2 (heldT g)).getD [])).take (i + 1)).flatten = ((fs2.map (fun f => ((fs.find? fun g => decide (g.1 = f.1)).map fun g => gathT f.2.2 (heldT g)).getD [])).take i).flatten ++ (if ((fs.take (fs.length)).any fun g => decide (g.1 = np)) = true then gathT (.mk k4 s4 n4 ps4 fs4 vs4) (fieldT fs np) else [])) := Hd fun i hi k4 s4 n4 ps4 fs4 vs4 np e1 e2 => by
  rw [List.take_succ_eq_append_getElem (by rw [List.length_map]; exact hi), List.flatten_append, List.getElem_map, List.take_length]
  simp only [List.flatten_cons, List.flatten_nil, List.append_nil]
  rw [e1, e2]
  congr 1
  cases hf : fs.find? fun g => decide (g.1 = np) with
  | none =>
   have h0 : (fs.any fun g => decide (g.1 = np)) = false := by
    rw [List.any_eq_false]
    intro x hx
    have := List.find?_eq_none.1 hf x hx
    simpa using this
   rw [h0, if_neg (by decide)]; rfl
  | some g =>
   have h0 : (fs.any fun g => decide (g.1 = np)) = true := List.any_eq_true.2 ⟨g, List.mem_of_find?_eq_some hf, by simpa using List.find?_some hf⟩
   rw [h0, if_pos rfl]
   have h1 : fieldT fs np = heldT g := by unfold fieldT; rw [hf]
   rw [h1]; rfl
 have HLG := Hd hLg
 have HLF := Hd hLf
 have HOF := Hd hkT
 have HOFP := Hd hkP
 have HRO0 : Hid (FdR B0 w1 v (G ++ ((fs2.map (fun f => ((fs.find? fun g => decide (g.1 = f.1)).map fun g => gathT f.2.2 (heldT g)).getD [])).take 0).flatten)) := Hd (by rw [List.take_zero, List.flatten_nil, List.append_nil]; exact hO)
 have HZL : Hid ((fs2.map (fun f => ((fs.find? fun g => decide (g.1 = f.1)).map fun g => gathT f.2.2 (heldT g)).getD [])).length = fs2.length) := Hd (by rw [List.length_map])
 clear hga hnames hfields hfat hfs ih
 clear hr hp hkT hkP hB hO hfp hft hct hlen hLt hLg hLp hLf hb1 hown
 generalize (fs2.map (fun f => ((fs.find? fun g => decide (g.1 = f.1)).map fun g => gathT f.2.2 (heldT g)).getD [])) = Z at KQ0 HZI HRO0 HZL ⊢
 go_enter Tryz.func65, Tryz.ntmps65
 go_upto_region 1 with fail
 rw [← HW1.out]
 obtain ⟨⟨x0, x1, x2, x3, x4, x5⟩, ⟨y0, y1, y2, y3, y4, y5⟩⟩ := HBX.out _ _ (Gro.refl _ _)
 clear x0 x1 x2 x3 x4 x5 y0 y1 y2 y3 y4 y5
 go_wp2_with fail
 go_loopw [2, 7] (fun lv iv wr => ∃ (i : Nat) (lx : Value), lx = lv ∧ i ≤ fs2.length ∧ iv = .int .i64 i ∧ FdR B0 wr lx (G ++ (Z.take i).flatten) ∧ Gro v w1 lx wr) (fun _ iv _ => fs2.length - (intOf iv).toNat)
 case atStart => exact ⟨0, _, rfl, by omega, rfl, HRO0.out, Gro.refl _ _⟩
 case round =>
  obtain ⟨i, lx, elx, hi, rfl, hro, hgr⟩ := hrel
  subst elx
  have HROO := Hd hro
  have HGRO := Hd hgr
  obtain ⟨⟨x0, x1, x2, x3, x4, x5⟩, ⟨y0, y1, y2, y3, y4, y5⟩⟩ := HBX.out _ _ hgr
  clear hro hgr
  by_cases hin : i < fs2.length
  ·have t1 : decide ((i : Int) < (fs2.length : Int)) = true := by simp; omega
   have wr2 : wrap64 ((i : Int) + 1) = ((i + 1 : Nat) : Int) := wrap_one (by omega)
   have HM := Hd (measI hin)
   have HIn : Hid (i + 1 ≤ fs2.length) := Hd hin
   have i1 : (0 : Int) ≤ (i : Int) := by omega
   have i2 : (i : Int) < (fs2.length : Int) := by omega
   obtain ⟨pb, po, hA2, hKb2, hatf⟩ := HLF.out.at (by omega)
   subst hA2
   obtain ⟨hp0, -, -, csq, hcsq, hrq⟩ := hatf i hin
   have KQ1 := Hd (KQ0.out i hin csq hrq)
   have HZ1 := Hd (HZI.out i hin)
   have hkb2 := (HOFP.out _ hKb2).2
   generalize fs2[i] = f at hp0 hrq KQ1 HZ1
   obtain ⟨np, flp, q⟩ := f
   obtain ⟨k4, s4, n4, ps4, fs4, vs4⟩ := q
   obtain ⟨A4, c4, B4, d4, C4, e4, rfl, -⟩ := hrq.inv
   simp only [cells6T] at hcsq KQ1
   have HZ2 := Hd (HZ1.out k4 s4 n4 ps4 fs4 vs4 np rfl rfl)
   have HPC : Hid (∀ v' wx, Gro v w1 v' wx → wx.cell? ⟨pb, po + i * 8, none⟩ = some (.string np) ∧ (wx.cell? ⟨pb, po + i * 8 + 2, none⟩ = some (.int .i64 k4) ∧ wx.cell? ⟨pb, po + i * 8 + 3, none⟩ = some (.string s4) ∧ wx.cell? ⟨pb, po + i * 8 + 4, none⟩ = some (.int .i64 n4) ∧ wx.cell? ⟨pb, po + i * 8 + 5, none⟩ = some (.slice A4 ps4.length c4) ∧ wx.cell? ⟨pb, po + i * 8 + 6, none⟩ = some (.slice B4 fs4.length d4) ∧ wx.cell? ⟨pb, po + i * 8 + 7, none⟩ = some (.slice C4 vs4.length e4))) := Hd fun v' wx hg => ⟨hg.cell hkb2 hp0, hg.cell hkb2 (hcsq 0 _ rfl), hg.cell hkb2 (hcsq 1 _ rfl), hg.cell hkb2 (hcsq 2 _ rfl), hg.cell hkb2 (hcsq 3 _ rfl), hg.cell hkb2 (hcsq 4 _ rfl), hg.cell hkb2 (hcsq 5 _ rfl)⟩
   clear hatf hp0 hcsq hrq hkb2 hKb2 HZ1 hi
   go_wp2_with fail
   clear x0 x1 x2 x3 x4 x5 y0 y1 y2 y3 y4 y5
   go_loopw [2, 8] (fun lv kv wr => ∃ (j : Nat) (lx : Value), lx = lv ∧ j ≤ fs.length ∧ kv = .int .i64 j ∧ FdR B0 wr lx (G ++ (Z.take i).flatten ++ (if ((fs.take (j)).any fun g => decide (g.1 = np)) = true then gathT (.mk k4 s4 n4 ps4 fs4 vs4) (fieldT fs np) else [])) ∧ Gro v w1 lx wr) (fun _ kv _ => fs.length - (intOf kv).toNat)
   case atStart => exact ⟨0, _, rfl, by omega, rfl, by rw [List.take_zero]; simpa using HROO.out, HGRO.out⟩
   case round =>
    obtain ⟨j, lx, elx, hj, rfl, hro, hgr⟩ := hrel
    subst elx
    have HRO := Hd hro
    have HGR := Hd hgr
    obtain ⟨⟨x0, x1, x2, x3, x4, x5⟩, ⟨y0, y1, y2, y3, y4, y5⟩⟩ := HBX.out _ _ hgr
    clear hro hgr
    by_cases hjn : j < fs.length
    ·have t2 : decide ((j : Int) < (fs.length : Int)) = true := by simp; omega
     have wr3 : wrap64 ((j : Int) + 1) = ((j + 1 : Nat) : Int) := wrap_one (by omega)
     have HMJ := Hd (measI hjn)
     have HJn : Hid (j + 1 ≤ fs.length) := Hd hjn
     have j1 : (0 : Int) ≤ (j : Int) := by omega
     have j2 : (j : Int) < (fs.length : Int) := by omega
     obtain ⟨tb, tq, hA, hKb, hatg⟩ := HLG.out.at (by omega)
     subst hA
     have ht0 := (hatg j hjn).1
     have hkb := (HOF.out _ hKb).2
     have hsn := any_snoc fs j hjn np
     have hbef : (fs[j]'hjn).1 = np → ((fs.take j).any fun g => decide (g.1 = np)) = false := fun e => by
      rw [List.any_eq_false]
      intro x hx
      obtain ⟨a, ha, rfl⟩ := List.getElem_of_mem hx
      rw [List.length_take] at ha
      rw [List.getElem_take]
      intro h
      have h1 : (fs[a]'(by omega)).1 = np := by simpa using h
      have h2 := HNM.out a (by omega) j hjn (h1.trans e.symm)
      omega
     have KQ2 := Hd (KQ1.out j hjn)
     generalize hnt : (fs[j]'hjn).1 = nt at ht0 hsn hbef KQ2
     have HSW : Hid (∀ v' wx, Gro v w1 v' wx → ((wx.cell? ⟨w.heap.size, 0, none⟩ = some (.int .i64 14) ∧ wx.cell? ⟨w.heap.size, 1, none⟩ = some (.string s) ∧ wx.cell? ⟨w.heap.size, 2, none⟩ = some (.int .i64 n) ∧ wx.cell? ⟨w.heap.size, 3, none⟩ = some (.slice A ps.length c) ∧ wx.cell? ⟨w.heap.size, 4, none⟩ = some (.slice (some ⟨tb, tq, none⟩) fs.length d) ∧ wx.cell? ⟨w.heap.size, 5, none⟩ = some (.slice C vs.length e)) ∧ wx.cell? ⟨w.heap.size + 1, 4, none⟩ = some (.slice (some ⟨pb, po, none⟩) fs2.length d2)) ∧ wx.cell? ⟨tb, tq + j * 8, none⟩ = some (.string nt) ∧ wx.cell? ⟨pb, po + i * 8, none⟩ = some (.string np) ∧ (wx.cell? ⟨pb, po + i * 8 + 2, none⟩ = some (.int .i64 k4) ∧ wx.cell? ⟨pb, po + i * 8 + 3, none⟩ = some (.string s4) ∧ wx.cell? ⟨pb, po + i * 8 + 4, none⟩ = some (.int .i64 n4) ∧ wx.cell? ⟨pb, po + i * 8 + 5, none⟩ = some (.slice A4 ps4.length c4) ∧ wx.cell? ⟨pb, po + i * 8 + 6, none⟩ = some (.slice B4 fs4.length d4) ∧ wx.cell? ⟨pb, po + i * 8 + 7, none⟩ = some (.slice C4 vs4.length e4))) := Hd fun v' wx hg => by
      have hp := HPC.out _ _ hg
      have hbx := HBX.out _ _ hg
      exact ⟨⟨hbx.1, hbx.2.2.2.2.2.1⟩, hg.cell hkb ht0, hp.1, hp.2⟩
     clear hatg ht0 hkb hKb hnt hj
     go_upto_region 7 with fail
     clear x0 x1 x2 x3 x4 x5 y0 y1 y2 y3 y4 y5
     by_cases hnm : nt = np
     ·have g1 : (nt.toList == np.toList) = true := by rw [eqT]; exact decide_eq_true hnm
      have hb0 := hbef hnm
      have HHIT : Hid ((G ++ (Z.take i).flatten ++ (if ((fs.take (j + 1)).any fun g => decide (g.1 = np)) = true then gathT (.mk k4 s4 n4 ps4 fs4 vs4) (fieldT fs np) else [])) = (G ++ (Z.take i).flatten) ++ gathT (.mk k4 s4 n4 ps4 fs4 vs4) (fieldT fs np)) := Hd (by rw [hsn, hb0, decide_eq_true hnm, Bool.false_or, if_pos rfl])
      have HROP : Hid (FdR B0 wr lx (G ++ (Z.take i).flatten)) := Hd (by have h := HRO.out; rw [hb0, if_neg (by decide), List.append_nil] at h; exact h)
      have KQ3 := Hd (KQ2.out hnm)
      have HOWR : Hid (∀ b, lx.ownBlock = some b → b < wr.heap.size) := Hd fun b e => (HROP.out.lt e).2
      have KS1 := Hd (KS0.out np)
      clear hnm hb0 hsn hbef KQ2
      unfold FdT at KS1
      generalize hu8 : fieldT fs np = u8 at KQ3 KS1
      have HU8 := Hd hu8
      clear hu8
      have KS := Hd fun wx hx => KS1.out lx wx hx
      have KQ := Hd fun (Kx : Nat → Prop) wx rs (h1 : RepT Kx wx u8 rs) (h2 : Off lx wx Kx) (hg : Gro v w1 lx wx) (ho : FdR B0 wx lx (G ++ (Z.take i).flatten)) => KQ3.out Kx wx rs lx _ rfl hg h1 h2 ho
      clear KS1 KQ3
      refine wp_region_held_drew (S := (fun w' => ((w'.cell? ⟨w.heap.size, 0, none⟩ = some (.int .i64 14) ∧ w'.cell? ⟨w.heap.size, 1, none⟩ = some (.string s) ∧ w'.cell? ⟨w.heap.size, 2, none⟩ = some (.int .i64 n) ∧ w'.cell? ⟨w.heap.size, 3, none⟩ = some (.slice A ps.length c) ∧ w'.cell? ⟨w.heap.size, 4, none⟩ = some (.slice (some ⟨tb, tq, none⟩) fs.length d) ∧ w'.cell? ⟨w.heap.size, 5, none⟩ = some (.slice C vs.length e)) ∧ w'.cell? ⟨w.heap.size + 1, 4, none⟩ = some (.slice (some ⟨pb, po, none⟩) fs2.length d2)) ∧ w'.cell? ⟨tb, tq + j * 8, none⟩ = some (.string nt) ∧ w'.cell? ⟨pb, po + i * 8, none⟩ = some (.string np) ∧ (w'.cell? ⟨pb, po + i * 8 + 2, none⟩ = some (.int .i64 k4) ∧ w'.cell? ⟨pb, po + i * 8 + 3, none⟩ = some (.string s4) ∧ w'.cell? ⟨pb, po + i * 8 + 4, none⟩ = some (.int .i64 n4) ∧ w'.cell? ⟨pb, po + i * 8 + 5, none⟩ = some (.slice A4 ps4.length c4) ∧ w'.cell? ⟨pb, po + i * 8 + 6, none⟩ = some (.slice B4 fs4.length d4) ∧ w'.cell? ⟨pb, po + i * 8 + 7, none⟩ = some (.slice C4 vs4.length e4)))) (by kernel_rfl) (HSW.out _ _ HGR.out.drew) (fun hHeld => ?_)
      refine Plan.start [0, 1, 2, 3, 4, 5, 6, 7, 8, 9, 10, 11, 12] ?_
      iterate 13 (refine Plan.tk (so rfl) hHeld ?_; try simp only [Act.put, pz1, pz2, pz3])
      refine Plan.done ?_
      refine wpAnyH_done (by kernel_rfl) ?_ _
      clear hHeld
      go_upto_region 8 with fail
      refine wp_region_held_drew (S := (fun w' => ((w'.cell? ⟨w.heap.size, 0, none⟩ = some (.int .i64 14) ∧ w'.cell? ⟨w.heap.size, 1, none⟩ = some (.string s) ∧ w'.cell? ⟨w.heap.size, 2, none⟩ = some (.int .i64 n) ∧ w'.cell? ⟨w.heap.size, 3, none⟩ = some (.slice A ps.length c) ∧ w'.cell? ⟨w.heap.size, 4, none⟩ = some (.slice (some ⟨tb, tq, none⟩) fs.length d) ∧ w'.cell? ⟨w.heap.size, 5, none⟩ = some (.slice C vs.length e)) ∧ w'.cell? ⟨w.heap.size + 1, 4, none⟩ = some (.slice (some ⟨pb, po, none⟩) fs2.length d2)) ∧ w'.cell? ⟨tb, tq + j * 8, none⟩ = some (.string nt) ∧ w'.cell? ⟨pb, po + i * 8, none⟩ = some (.string np) ∧ (w'.cell? ⟨pb, po + i * 8 + 2, none⟩ = some (.int .i64 k4) ∧ w'.cell? ⟨pb, po + i * 8 + 3, none⟩ = some (.string s4) ∧ w'.cell? ⟨pb, po + i * 8 + 4, none⟩ = some (.int .i64 n4) ∧ w'.cell? ⟨pb, po + i * 8 + 5, none⟩ = some (.slice A4 ps4.length c4) ∧ w'.cell? ⟨pb, po + i * 8 + 6, none⟩ = some (.slice B4 fs4.length d4) ∧ w'.cell? ⟨pb, po + i * 8 + 7, none⟩ = some (.slice C4 vs4.length e4)))) (by kernel_rfl) (HSW.out _ _ HGR.out.drew.drew) (fun hHeld => ?_)
      refine Plan.start [0, 1, 2, 3, 4, 5, 6, 7] ?_
      iterate 8 (refine Plan.tk (so rfl) hHeld ?_; try simp only [Act.put, pz1, pz2, pz3])
      refine Plan.done ?_
      refine wpAnyH_ready (rs := [8, 9]) (by kernel_rfl) (by simp) ?_
      refine AllReadyH.cons (sd (some 45) rfl) (fun Kx hK => ?_) (AllReadyH.cons (sd (some 9) rfl) (fun Kx hK => ?_) AllReadyH.nil)
      ·go_simp
       refine (KS.out _ HGR.out.drew.drew).mono ?_
       rintro e w6 ⟨rs, rfl, hr7, hb⟩
       have HGS6 := Hd ((HGR.out.drew.drew).trans (Gro.below (v := lx) hb))
       have HBS6 := Hd ((Below.refl wr.heap.size wr).drew.drew.trans (hb.mono (Below.refl wr.heap.size wr).drew.drew.size))
       obtain ⟨gz, hgz⟩ : ∃ g, g = w6.heap.size := ⟨_, rfl⟩
       have HR6 : Hid (RepT (fun b => (K b ∨ wr.heap.size ≤ b) ∧ b ≠ gz) w6 u8 rs) := Hd (hr7.both.weak fun b h => by
        have h4 := (Below.refl wr.heap.size wr).drew.drew.size
        rcases h.1 with h5 | h5
        ·exact ⟨.inl h5, by omega⟩
        ·exact ⟨.inr (by omega), by omega⟩)
       have HGZ : Hid (gz = w6.heap.size ∧ wr.heap.size ≤ gz) := Hd ⟨hgz, by have := HBS6.out.size; omega⟩
       clear hgz
       obtain ⟨k8, s8, n8, ps8, fs8, vs8⟩ := u8
       obtain ⟨A8, c8, B8, d8, C8, e8, rfl, -⟩ := hr7.inv
       simp only [cells6T] at HR6 ⊢
       clear KS hr7 hb
       go_wp2_with fail
       refine hK.out _ _ (HSW.out _ _ HGS6.out) (fun hHeld => ?_)
       clear hK Kx
       try simp only [Act.put, pz1, pz2, pz3]
       refine wpAnyH_ready (rs := [9]) (by kernel_rfl) (by simp) ?_
       refine AllReadyH.cons (sd (some 9) rfl) (fun Kx hK => ?_) AllReadyH.nil
       go_simp
       generalize hW : World.alloc w6 (.cells #[.int .i64 0, .string ⟨#[]⟩, .int .i64 0, .slice none 0 0, .slice none 0 0, .slice none 0 0] 26) = w7
       have hb : Below w6.heap.size w6 w7 := by rw [← hW]; exact (Below.refl w6.heap.size w6).alloc (Nat.le_refl _) _
       have hx : w7.heap[w6.heap.size]? = some (.cells #[.int .i64 0, .string ⟨#[]⟩, .int .i64 0, .slice none 0 0, .slice none 0 0, .slice none 0 0] 26 (0, 0)) := by rw [← hW]; exact heap_alloc_new (w6) _
       have HGS7 := Hd ((HGS6.out).trans (Gro.below (v := lx) hb))
       have HBS7 := Hd (HBS6.out.trans (hb.mono HBS6.out.size))
       clear hW
       have HX7 : Hid (w7.heap[gz]? = some (.cells #[.int .i64 0, .string ⟨#[]⟩, .int .i64 0, .slice none 0 0, .slice none 0 0, .slice none 0 0] 26 (0, 0))) := Hd (by rw [HGZ.out.1]; exact hx)
       have HR7 := Hd (HR6.out.later hb)
       have hgz := HGZ.out.1
       rw [← hgz]
       clear hgz hb hx
       refine hK.out _ _ (HSW.out _ _ HGS7.out) (fun hHeld => ?_)
       clear hK Kx
       try simp only [Act.put, pz1, pz2, pz3]
       refine wpAnyH_ready (rs := [10]) (by kernel_rfl) (by simp) ?_
       refine AllReadyH.cons (sd none rfl) (fun Kx hK => ?_) AllReadyH.nil
       go_simp
       have rb := HX7.out
       obtain ⟨q0, q1, q2, q3, q4, q5, z0, z1, z2, z3, z4, z5⟩ := qz6 rb
       clear rb
       go_simp
       have hx := six_set HX7.out (.int .i64 k8) (.string s8) (.int .i64 n8) (.slice A8 ps8.length c8) (.slice B8 fs8.length d8) (.slice C8 vs8.length e8)
       have hgs : Gro v w1 lx (World.setCell (World.setCell (World.setCell (World.setCell (World.setCell (World.setCell w7 ⟨gz, 0, none⟩ (.int .i64 k8)) ⟨gz, 1, none⟩ (.string s8)) ⟨gz, 2, none⟩ (.int .i64 n8)) ⟨gz, 3, none⟩ (.slice A8 ps8.length c8)) ⟨gz, 4, none⟩ (.slice B8 fs8.length d8)) ⟨gz, 5, none⟩ (.slice C8 vs8.length e8)) := (HGS7.out).six (by have h1 := HGR.out.but.size; have h2 := HGZ.out.2; omega) (.int .i64 k8) (.string s8) (.int .i64 n8) (.slice A8 ps8.length c8) (.slice B8 fs8.length d8) (.slice C8 vs8.length e8)
       have hrs : RepT (fun b => (K b ∨ wr.heap.size ≤ b) ∧ b ≠ gz) (World.setCell (World.setCell (World.setCell (World.setCell (World.setCell (World.setCell w7 ⟨gz, 0, none⟩ (.int .i64 k8)) ⟨gz, 1, none⟩ (.string s8)) ⟨gz, 2, none⟩ (.int .i64 n8)) ⟨gz, 3, none⟩ (.slice A8 ps8.length c8)) ⟨gz, 4, none⟩ (.slice B8 fs8.length d8)) ⟨gz, 5, none⟩ (.slice C8 vs8.length e8)) _ _ := six_repG HR7.out (fun b h => h.2) (.int .i64 k8) (.string s8) (.int .i64 n8) (.slice A8 ps8.length c8) (.slice B8 fs8.length d8) (.slice C8 vs8.length e8)
       have hbs := set_six_below HBS7.out HGZ.out.2 (.int .i64 k8) (.string s8) (.int .i64 n8) (.slice A8 ps8.length c8) (.slice B8 fs8.length d8) (.slice C8 vs8.length e8)
       generalize hW : (World.setCell (World.setCell (World.setCell (World.setCell (World.setCell (World.setCell w7 ⟨gz, 0, none⟩ (.int .i64 k8)) ⟨gz, 1, none⟩ (.string s8)) ⟨gz, 2, none⟩ (.int .i64 n8)) ⟨gz, 3, none⟩ (.slice A8 ps8.length c8)) ⟨gz, 4, none⟩ (.slice B8 fs8.length d8)) ⟨gz, 5, none⟩ (.slice C8 vs8.length e8)) = w8 at hx hgs hrs hbs
       clear hW q0 q1 q2 q3 q4 q5 z0 z1 z2 z3 z4 z5
       have HX8 := Hd hx
       have HGS8 := Hd hgs
       have HR8 := Hd hrs
       have HBS8 := Hd hbs
       clear hx hgs hrs hbs
       refine hK.out _ _ (HSW.out _ _ HGS8.out) (fun hHeld => ?_)
       clear hK Kx
       try simp only [Act.put, pz1, pz2, pz3]
       refine wpAnyH_done (by kernel_rfl) ?_ _
       clear hHeld
       have HRW : Hid (RepT (fun b => (K b ∨ wr.heap.size ≤ b) ∧ b < w8.heap.size) w8.drew (.mk k8 s8 n8 ps8 fs8 vs8) [.int .i64 k8, .string s8, .int .i64 n8, .slice A8 ps8.length c8, .slice B8 fs8.length d8, .slice C8 vs8.length e8]) := Hd (((RepT.both _ _ HR8.out).weak (fun b h => ⟨h.1.1, h.2⟩)).later (Below.refl _ _).drew)
       have HGW : Hid (Gro v w1 lx w8) := Hd HGS8.out
       have HOK : Hid (Off lx w8.drew (fun b => (K b ∨ wr.heap.size ≤ b) ∧ b < w8.heap.size)) := Hd fun b h => ⟨h.2, by
        rcases h.1 with h1 | h1
        ·exact (HGR.out.off HOF.out b h1).2
        ·intro e; have := HOWR.out b e; omega⟩
       have HOW : Hid (FdR B0 w8.drew lx (G ++ (Z.take i).flatten)) := Hd ((HROP.out).later keepFd (HBS8.out.drew))
       have HSX : Hid (∀ v' wx, Gro lx w8 v' wx → (((wx.cell? ⟨w.heap.size, 0, none⟩ = some (.int .i64 14) ∧ wx.cell? ⟨w.heap.size, 1, none⟩ = some (.string s) ∧ wx.cell? ⟨w.heap.size, 2, none⟩ = some (.int .i64 n) ∧ wx.cell? ⟨w.heap.size, 3, none⟩ = some (.slice A ps.length c) ∧ wx.cell? ⟨w.heap.size, 4, none⟩ = some (.slice (some ⟨tb, tq, none⟩) fs.length d) ∧ wx.cell? ⟨w.heap.size, 5, none⟩ = some (.slice C vs.length e)) ∧ wx.cell? ⟨w.heap.size + 1, 4, none⟩ = some (.slice (some ⟨pb, po, none⟩) fs2.length d2)) ∧ wx.cell? ⟨tb, tq + j * 8, none⟩ = some (.string nt) ∧ wx.cell? ⟨pb, po + i * 8, none⟩ = some (.string np) ∧ (wx.cell? ⟨pb, po + i * 8 + 2, none⟩ = some (.int .i64 k4) ∧ wx.cell? ⟨pb, po + i * 8 + 3, none⟩ = some (.string s4) ∧ wx.cell? ⟨pb, po + i * 8 + 4, none⟩ = some (.int .i64 n4) ∧ wx.cell? ⟨pb, po + i * 8 + 5, none⟩ = some (.slice A4 ps4.length c4) ∧ wx.cell? ⟨pb, po + i * 8 + 6, none⟩ = some (.slice B4 fs4.length d4) ∧ wx.cell? ⟨pb, po + i * 8 + 7, none⟩ = some (.slice C4 vs4.length e4))) ∧ (wx.cell? ⟨gz, 0, none⟩ = some (.int .i64 k8) ∧ wx.cell? ⟨gz, 1, none⟩ = some (.string s8) ∧ wx.cell? ⟨gz, 2, none⟩ = some (.int .i64 n8) ∧ wx.cell? ⟨gz, 3, none⟩ = some (.slice A8 ps8.length c8) ∧ wx.cell? ⟨gz, 4, none⟩ = some (.slice B8 fs8.length d8) ∧ wx.cell? ⟨gz, 5, none⟩ = some (.slice C8 vs8.length e8))) := Hd fun v' wx hg => ⟨HSW.out _ _ (HGW.out.trans hg), hg.cell (fun e => by have h1 := HOWR.out _ e; have h2 := HGZ.out.2; omega) (Ch HX8.out 0), hg.cell (fun e => by have h1 := HOWR.out _ e; have h2 := HGZ.out.2; omega) (Ch HX8.out 1), hg.cell (fun e => by have h1 := HOWR.out _ e; have h2 := HGZ.out.2; omega) (Ch HX8.out 2), hg.cell (fun e => by have h1 := HOWR.out _ e; have h2 := HGZ.out.2; omega) (Ch HX8.out 3), hg.cell (fun e => by have h1 := HOWR.out _ e; have h2 := HGZ.out.2; omega) (Ch HX8.out 4), hg.cell (fun e => by have h1 := HOWR.out _ e; have h2 := HGZ.out.2; omega) (Ch HX8.out 5)⟩
       go_upto_region 9 with fail
       refine wp_region_held_drew (S := (fun w' => (((w'.cell? ⟨w.heap.size, 0, none⟩ = some (.int .i64 14) ∧ w'.cell? ⟨w.heap.size, 1, none⟩ = some (.string s) ∧ w'.cell? ⟨w.heap.size, 2, none⟩ = some (.int .i64 n) ∧ w'.cell? ⟨w.heap.size, 3, none⟩ = some (.slice A ps.length c) ∧ w'.cell? ⟨w.heap.size, 4, none⟩ = some (.slice (some ⟨tb, tq, none⟩) fs.length d) ∧ w'.cell? ⟨w.heap.size, 5, none⟩ = some (.slice C vs.length e)) ∧ w'.cell? ⟨w.heap.size + 1, 4, none⟩ = some (.slice (some ⟨pb, po, none⟩) fs2.length d2)) ∧ w'.cell? ⟨tb, tq + j * 8, none⟩ = some (.string nt) ∧ w'.cell? ⟨pb, po + i * 8, none⟩ = some (.string np) ∧ (w'.cell? ⟨pb, po + i * 8 + 2, none⟩ = some (.int .i64 k4) ∧ w'.cell? ⟨pb, po + i * 8 + 3, none⟩ = some (.string s4) ∧ w'.cell? ⟨pb, po + i * 8 + 4, none⟩ = some (.int .i64 n4) ∧ w'.cell? ⟨pb, po + i * 8 + 5, none⟩ = some (.slice A4 ps4.length c4) ∧ w'.cell? ⟨pb, po + i * 8 + 6, none⟩ = some (.slice B4 fs4.length d4) ∧ w'.cell? ⟨pb, po + i * 8 + 7, none⟩ = some (.slice C4 vs4.length e4))) ∧ (w'.cell? ⟨gz, 0, none⟩ = some (.int .i64 k8) ∧ w'.cell? ⟨gz, 1, none⟩ = some (.string s8) ∧ w'.cell? ⟨gz, 2, none⟩ = some (.int .i64 n8) ∧ w'.cell? ⟨gz, 3, none⟩ = some (.slice A8 ps8.length c8) ∧ w'.cell? ⟨gz, 4, none⟩ = some (.slice B8 fs8.length d8) ∧ w'.cell? ⟨gz, 5, none⟩ = some (.slice C8 vs8.length e8)))) (by kernel_rfl) (HSX.out _ _ (Gro.refl _ _).drew) (fun hHeld => ?_)
       refine Plan.start [0, 1, 2, 3, 4, 5, 6, 7] ?_
       iterate 8 (refine Plan.tk (so rfl) hHeld ?_; try simp only [Act.put, pz1, pz2, pz3])
       refine Plan.done ?_
       refine wpAnyH_ready (rs := [8]) (by kernel_rfl) (by simp) ?_
       refine AllReadyH.cons (sd (some 54) rfl) (fun Kx hK => ?_) AllReadyH.nil
       go_simp
       refine ((KQ.out _ _ _ HRW.out HOK.out HGW.out.drew HOW.out).mono fun _ _ h => AgPost.from (Gro.refl lx w8).drew h).mono ?_
       rintro e wq ⟨vq, rfl, hOq, hgq⟩
       have HOq := Hd hOq
       have HGq := Hd hgq
       clear hOq hgq
       go_wp2_with fail
       refine hK.out _ _ (HSX.out _ _ HGq.out) (fun hHeld => ?_)
       clear hK Kx
       try simp only [Act.put, pz1, pz2, pz3]
       refine Plan.start [9] ?_
       refine Plan.tk (so rfl) hHeld ?_
       try simp only [Act.put, pz1, pz2, pz3]
       refine Plan.done ?_
       refine wpAnyH_done (by kernel_rfl) ?_ _
       clear hHeld
       have HGT : Hid (Gro v w1 vq wq) := Hd (HGW.out.trans HGq.out)
       go_wp2_with fail
       refine ⟨⟨j + 1, vq, by first | rfl | trivial, HJn.out, by first | rfl | rw [wr3], by rw [HHIT.out, HU8.out]; exact HOq.out, HGT.out⟩, ?_⟩
       first | exact HMJ.out | (rw [wr3]; exact HMJ.out)
      ·go_simp
       generalize hW : World.drew (World.drew (World.alloc wr (.cells #[.int .i64 0, .string ⟨#[]⟩, .int .i64 0, .slice none 0 0, .slice none 0 0, .slice none 0 0] 26))) = w6
       have hb : Below wr.drew.drew.heap.size wr.drew.drew w6 := by rw [← hW]; exact (Below.refl wr.drew.drew.heap.size wr.drew.drew).alloc (Nat.le_refl _) _
       have hx : w6.heap[wr.heap.size]? = some (.cells #[.int .i64 0, .string ⟨#[]⟩, .int .i64 0, .slice none 0 0, .slice none 0 0, .slice none 0 0] 26 (0, 0)) := by rw [← hW]; exact heap_alloc_new (wr.drew.drew) _
       have HGS6 := Hd ((HGR.out.drew.drew).trans (Gro.below (v := lx) hb))
       have HBS6 := Hd ((Below.refl wr.heap.size wr).drew.drew.trans (hb.mono (Below.refl wr.heap.size wr).drew.drew.size))
       clear hW
       obtain ⟨gz, hgz⟩ : ∃ g, g = wr.heap.size := ⟨_, rfl⟩
       have HGZ : Hid (gz = wr.heap.size ∧ wr.heap.size ≤ gz) := Hd ⟨hgz, by have := (Below.refl wr.heap.size wr).drew.drew.size; rw [hgz]; exact Nat.le_refl _⟩
       rw [← hgz] at hx ⊢
       have HX6 := Hd hx
       clear hgz hb hx
       refine hK.out _ _ (HSW.out _ _ HGS6.out) (fun hHeld => ?_)
       clear hK Kx
       try simp only [Act.put, pz1, pz2, pz3]
       refine wpAnyH_ready (rs := [8]) (by kernel_rfl) (by simp) ?_
       refine AllReadyH.cons (sd (some 45) rfl) (fun Kx hK => ?_) AllReadyH.nil
       go_simp
       refine (KS.out _ HGS6.out).mono ?_
       rintro e w7 ⟨rs, rfl, hr7, hb⟩
       have HGS7 := Hd ((HGS6.out).trans (Gro.below (v := lx) hb))
       have HBS7 := Hd (HBS6.out.trans (hb.mono HBS6.out.size))
       have HX7 := Hd (box_up hb (Array.getElem?_eq_some_iff.1 HX6.out).1 HX6.out)
       have HR7 : Hid (RepT (fun b => (K b ∨ wr.heap.size ≤ b) ∧ b ≠ gz) w7 u8 rs) := Hd (hr7.weak fun b h => by
        have h1 := (Array.getElem?_eq_some_iff.1 HX6.out).1
        have h2 := HGZ.out
        have h3 := HBS7.out.size
        have h4 := HBS6.out.size
        have h6 := HGR.out.but.size
        rcases h with h | h
        ·have h5 := (HOF.out b h).1; exact ⟨.inl h, by omega⟩
        ·exact ⟨.inr (by omega), by omega⟩)
       obtain ⟨k8, s8, n8, ps8, fs8, vs8⟩ := u8
       obtain ⟨A8, c8, B8, d8, C8, e8, rfl, -⟩ := hr7.inv
       simp only [cells6T] at HR7 ⊢
       clear KS hr7 hb
       go_wp2_with fail
       refine hK.out _ _ (HSW.out _ _ HGS7.out) (fun hHeld => ?_)
       clear hK Kx
       try simp only [Act.put, pz1, pz2, pz3]
       refine wpAnyH_ready (rs := [10]) (by kernel_rfl) (by simp) ?_
       refine AllReadyH.cons (sd none rfl) (fun Kx hK => ?_) AllReadyH.nil
       go_simp
       have rb := HX7.out
       obtain ⟨q0, q1, q2, q3, q4, q5, z0, z1, z2, z3, z4, z5⟩ := qz6 rb
       clear rb
       go_simp
       have hx := six_set HX7.out (.int .i64 k8) (.string s8) (.int .i64 n8) (.slice A8 ps8.length c8) (.slice B8 fs8.length d8) (.slice C8 vs8.length e8)
       have hgs : Gro v w1 lx (World.setCell (World.setCell (World.setCell (World.setCell (World.setCell (World.setCell w7 ⟨gz, 0, none⟩ (.int .i64 k8)) ⟨gz, 1, none⟩ (.string s8)) ⟨gz, 2, none⟩ (.int .i64 n8)) ⟨gz, 3, none⟩ (.slice A8 ps8.length c8)) ⟨gz, 4, none⟩ (.slice B8 fs8.length d8)) ⟨gz, 5, none⟩ (.slice C8 vs8.length e8)) := (HGS7.out).six (by have h1 := HGR.out.but.size; have h2 := HGZ.out.2; omega) (.int .i64 k8) (.string s8) (.int .i64 n8) (.slice A8 ps8.length c8) (.slice B8 fs8.length d8) (.slice C8 vs8.length e8)
       have hrs : RepT (fun b => (K b ∨ wr.heap.size ≤ b) ∧ b ≠ gz) (World.setCell (World.setCell (World.setCell (World.setCell (World.setCell (World.setCell w7 ⟨gz, 0, none⟩ (.int .i64 k8)) ⟨gz, 1, none⟩ (.string s8)) ⟨gz, 2, none⟩ (.int .i64 n8)) ⟨gz, 3, none⟩ (.slice A8 ps8.length c8)) ⟨gz, 4, none⟩ (.slice B8 fs8.length d8)) ⟨gz, 5, none⟩ (.slice C8 vs8.length e8)) _ _ := six_repG HR7.out (fun b h => h.2) (.int .i64 k8) (.string s8) (.int .i64 n8) (.slice A8 ps8.length c8) (.slice B8 fs8.length d8) (.slice C8 vs8.length e8)
       have hbs := set_six_below HBS7.out HGZ.out.2 (.int .i64 k8) (.string s8) (.int .i64 n8) (.slice A8 ps8.length c8) (.slice B8 fs8.length d8) (.slice C8 vs8.length e8)
       generalize hW : (World.setCell (World.setCell (World.setCell (World.setCell (World.setCell (World.setCell w7 ⟨gz, 0, none⟩ (.int .i64 k8)) ⟨gz, 1, none⟩ (.string s8)) ⟨gz, 2, none⟩ (.int .i64 n8)) ⟨gz, 3, none⟩ (.slice A8 ps8.length c8)) ⟨gz, 4, none⟩ (.slice B8 fs8.length d8)) ⟨gz, 5, none⟩ (.slice C8 vs8.length e8)) = w8 at hx hgs hrs hbs
       clear hW q0 q1 q2 q3 q4 q5 z0 z1 z2 z3 z4 z5
       have HX8 := Hd hx
       have HGS8 := Hd hgs
       have HR8 := Hd hrs
       have HBS8 := Hd hbs
       clear hx hgs hrs hbs
       refine hK.out _ _ (HSW.out _ _ HGS8.out) (fun hHeld => ?_)
       clear hK Kx
       try simp only [Act.put, pz1, pz2, pz3]
       refine wpAnyH_done (by kernel_rfl) ?_ _
       clear hHeld
       have HRW : Hid (RepT (fun b => (K b ∨ wr.heap.size ≤ b) ∧ b < w8.heap.size) w8.drew (.mk k8 s8 n8 ps8 fs8 vs8) [.int .i64 k8, .string s8, .int .i64 n8, .slice A8 ps8.length c8, .slice B8 fs8.length d8, .slice C8 vs8.length e8]) := Hd (((RepT.both _ _ HR8.out).weak (fun b h => ⟨h.1.1, h.2⟩)).later (Below.refl _ _).drew)
       have HGW : Hid (Gro v w1 lx w8) := Hd HGS8.out
       have HOK : Hid (Off lx w8.drew (fun b => (K b ∨ wr.heap.size ≤ b) ∧ b < w8.heap.size)) := Hd fun b h => ⟨h.2, by
        rcases h.1 with h1 | h1
        ·exact (HGR.out.off HOF.out b h1).2
        ·intro e; have := HOWR.out b e; omega⟩
       have HOW : Hid (FdR B0 w8.drew lx (G ++ (Z.take i).flatten)) := Hd ((HROP.out).later keepFd (HBS8.out.drew))
       have HSX : Hid (∀ v' wx, Gro lx w8 v' wx → (((wx.cell? ⟨w.heap.size, 0, none⟩ = some (.int .i64 14) ∧ wx.cell? ⟨w.heap.size, 1, none⟩ = some (.string s) ∧ wx.cell? ⟨w.heap.size, 2, none⟩ = some (.int .i64 n) ∧ wx.cell? ⟨w.heap.size, 3, none⟩ = some (.slice A ps.length c) ∧ wx.cell? ⟨w.heap.size, 4, none⟩ = some (.slice (some ⟨tb, tq, none⟩) fs.length d) ∧ wx.cell? ⟨w.heap.size, 5, none⟩ = some (.slice C vs.length e)) ∧ wx.cell? ⟨w.heap.size + 1, 4, none⟩ = some (.slice (some ⟨pb, po, none⟩) fs2.length d2)) ∧ wx.cell? ⟨tb, tq + j * 8, none⟩ = some (.string nt) ∧ wx.cell? ⟨pb, po + i * 8, none⟩ = some (.string np) ∧ (wx.cell? ⟨pb, po + i * 8 + 2, none⟩ = some (.int .i64 k4) ∧ wx.cell? ⟨pb, po + i * 8 + 3, none⟩ = some (.string s4) ∧ wx.cell? ⟨pb, po + i * 8 + 4, none⟩ = some (.int .i64 n4) ∧ wx.cell? ⟨pb, po + i * 8 + 5, none⟩ = some (.slice A4 ps4.length c4) ∧ wx.cell? ⟨pb, po + i * 8 + 6, none⟩ = some (.slice B4 fs4.length d4) ∧ wx.cell? ⟨pb, po + i * 8 + 7, none⟩ = some (.slice C4 vs4.length e4))) ∧ (wx.cell? ⟨gz, 0, none⟩ = some (.int .i64 k8) ∧ wx.cell? ⟨gz, 1, none⟩ = some (.string s8) ∧ wx.cell? ⟨gz, 2, none⟩ = some (.int .i64 n8) ∧ wx.cell? ⟨gz, 3, none⟩ = some (.slice A8 ps8.length c8) ∧ wx.cell? ⟨gz, 4, none⟩ = some (.slice B8 fs8.length d8) ∧ wx.cell? ⟨gz, 5, none⟩ = some (.slice C8 vs8.length e8))) := Hd fun v' wx hg => ⟨HSW.out _ _ (HGW.out.trans hg), hg.cell (fun e => by have h1 := HOWR.out _ e; have h2 := HGZ.out.2; omega) (Ch HX8.out 0), hg.cell (fun e => by have h1 := HOWR.out _ e; have h2 := HGZ.out.2; omega) (Ch HX8.out 1), hg.cell (fun e => by have h1 := HOWR.out _ e; have h2 := HGZ.out.2; omega) (Ch HX8.out 2), hg.cell (fun e => by have h1 := HOWR.out _ e; have h2 := HGZ.out.2; omega) (Ch HX8.out 3), hg.cell (fun e => by have h1 := HOWR.out _ e; have h2 := HGZ.out.2; omega) (Ch HX8.out 4), hg.cell (fun e => by have h1 := HOWR.out _ e; have h2 := HGZ.out.2; omega) (Ch HX8.out 5)⟩
       go_upto_region 9 with fail
       refine wp_region_held_drew (S := (fun w' => (((w'.cell? ⟨w.heap.size, 0, none⟩ = some (.int .i64 14) ∧ w'.cell? ⟨w.heap.size, 1, none⟩ = some (.string s) ∧ w'.cell? ⟨w.heap.size, 2, none⟩ = some (.int .i64 n) ∧ w'.cell? ⟨w.heap.size, 3, none⟩ = some (.slice A ps.length c) ∧ w'.cell? ⟨w.heap.size, 4, none⟩ = some (.slice (some ⟨tb, tq, none⟩) fs.length d) ∧ w'.cell? ⟨w.heap.size, 5, none⟩ = some (.slice C vs.length e)) ∧ w'.cell? ⟨w.heap.size + 1, 4, none⟩ = some (.slice (some ⟨pb, po, none⟩) fs2.length d2)) ∧ w'.cell? ⟨tb, tq + j * 8, none⟩ = some (.string nt) ∧ w'.cell? ⟨pb, po + i * 8, none⟩ = some (.string np) ∧ (w'.cell? ⟨pb, po + i * 8 + 2, none⟩ = some (.int .i64 k4) ∧ w'.cell? ⟨pb, po + i * 8 + 3, none⟩ = some (.string s4) ∧ w'.cell? ⟨pb, po + i * 8 + 4, none⟩ = some (.int .i64 n4) ∧ w'.cell? ⟨pb, po + i * 8 + 5, none⟩ = some (.slice A4 ps4.length c4) ∧ w'.cell? ⟨pb, po + i * 8 + 6, none⟩ = some (.slice B4 fs4.length d4) ∧ w'.cell? ⟨pb, po + i * 8 + 7, none⟩ = some (.slice C4 vs4.length e4))) ∧ (w'.cell? ⟨gz, 0, none⟩ = some (.int .i64 k8) ∧ w'.cell? ⟨gz, 1, none⟩ = some (.string s8) ∧ w'.cell? ⟨gz, 2, none⟩ = some (.int .i64 n8) ∧ w'.cell? ⟨gz, 3, none⟩ = some (.slice A8 ps8.length c8) ∧ w'.cell? ⟨gz, 4, none⟩ = some (.slice B8 fs8.length d8) ∧ w'.cell? ⟨gz, 5, none⟩ = some (.slice C8 vs8.length e8)))) (by kernel_rfl) (HSX.out _ _ (Gro.refl _ _).drew) (fun hHeld => ?_)
       refine Plan.start [0, 1, 2, 3, 4, 5, 6, 7] ?_
       iterate 8 (refine Plan.tk (so rfl) hHeld ?_; try simp only [Act.put, pz1, pz2, pz3])
       refine Plan.done ?_
       refine wpAnyH_ready (rs := [8]) (by kernel_rfl) (by simp) ?_
       refine AllReadyH.cons (sd (some 54) rfl) (fun Kx hK => ?_) AllReadyH.nil
       go_simp
       refine ((KQ.out _ _ _ HRW.out HOK.out HGW.out.drew HOW.out).mono fun _ _ h => AgPost.from (Gro.refl lx w8).drew h).mono ?_
       rintro e wq ⟨vq, rfl, hOq, hgq⟩
       have HOq := Hd hOq
       have HGq := Hd hgq
       clear hOq hgq
       go_wp2_with fail
       refine hK.out _ _ (HSX.out _ _ HGq.out) (fun hHeld => ?_)
       clear hK Kx
       try simp only [Act.put, pz1, pz2, pz3]
       refine Plan.start [9] ?_
       refine Plan.tk (so rfl) hHeld ?_
       try simp only [Act.put, pz1, pz2, pz3]
       refine Plan.done ?_
       refine wpAnyH_done (by kernel_rfl) ?_ _
       clear hHeld
       have HGT : Hid (Gro v w1 vq wq) := Hd (HGW.out.trans HGq.out)
       go_wp2_with fail
       refine ⟨⟨j + 1, vq, by first | rfl | trivial, HJn.out, by first | rfl | rw [wr3], by rw [HHIT.out, HU8.out]; exact HOq.out, HGT.out⟩, ?_⟩
       first | exact HMJ.out | (rw [wr3]; exact HMJ.out)
     ·have g1 : (nt.toList == np.toList) = false := by rw [eqT]; exact decide_eq_false hnm
      have HMS : Hid ((G ++ (Z.take i).flatten ++ (if ((fs.take (j + 1)).any fun g => decide (g.1 = np)) = true then gathT (.mk k4 s4 n4 ps4 fs4 vs4) (fieldT fs np) else [])) = (G ++ (Z.take i).flatten ++ (if ((fs.take (j)).any fun g => decide (g.1 = np)) = true then gathT (.mk k4 s4 n4 ps4 fs4 vs4) (fieldT fs np) else []))) := Hd (by rw [hsn, decide_eq_false hnm, Bool.or_false])
      clear hnm hsn hbef KQ2
      refine wp_region_held_drew (S := (fun w' => ((w'.cell? ⟨w.heap.size, 0, none⟩ = some (.int .i64 14) ∧ w'.cell? ⟨w.heap.size, 1, none⟩ = some (.string s) ∧ w'.cell? ⟨w.heap.size, 2, none⟩ = some (.int .i64 n) ∧ w'.cell? ⟨w.heap.size, 3, none⟩ = some (.slice A ps.length c) ∧ w'.cell? ⟨w.heap.size, 4, none⟩ = some (.slice (some ⟨tb, tq, none⟩) fs.length d) ∧ w'.cell? ⟨w.heap.size, 5, none⟩ = some (.slice C vs.length e)) ∧ w'.cell? ⟨w.heap.size + 1, 4, none⟩ = some (.slice (some ⟨pb, po, none⟩) fs2.length d2)) ∧ w'.cell? ⟨tb, tq + j * 8, none⟩ = some (.string nt) ∧ w'.cell? ⟨pb, po + i * 8, none⟩ = some (.string np) ∧ (w'.cell? ⟨pb, po + i * 8 + 2, none⟩ = some (.int .i64 k4) ∧ w'.cell? ⟨pb, po + i * 8 + 3, none⟩ = some (.string s4) ∧ w'.cell? ⟨pb, po + i * 8 + 4, none⟩ = some (.int .i64 n4) ∧ w'.cell? ⟨pb, po + i * 8 + 5, none⟩ = some (.slice A4 ps4.length c4) ∧ w'.cell? ⟨pb, po + i * 8 + 6, none⟩ = some (.slice B4 fs4.length d4) ∧ w'.cell? ⟨pb, po + i * 8 + 7, none⟩ = some (.slice C4 vs4.length e4)))) (by kernel_rfl) (HSW.out _ _ HGR.out.drew) (fun hHeld => ?_)
      refine Plan.start [0, 1, 2, 3, 4, 5, 6, 7, 8, 9, 10, 11, 12] ?_
      iterate 13 (refine Plan.tk (so rfl) hHeld ?_; try simp only [Act.put, pz1, pz2, pz3])
      refine Plan.done ?_
      refine wpAnyH_done (by kernel_rfl) ?_ _
      clear hHeld
      go_wp2_with fail
      refine ⟨⟨j + 1, lx, by first | rfl | trivial, HJn.out, by first | rfl | rw [wr3], by rw [HMS.out]; exact HRO.out.drew, HGR.out.drew⟩, ?_⟩
      first | exact HMJ.out | (rw [wr3]; exact HMJ.out)
    ·have t2 : decide ((j : Int) < (fs.length : Int)) = false := by simp; omega
     have HE : Hid (FdR B0 wr lx (G ++ (Z.take (i + 1)).flatten)) := Hd (by
      have h := HRO.out
      rw [show fs.take j = fs from List.take_of_length_le (by omega)] at h
      rw [HZ2.out, List.take_length, ← List.append_assoc]
      exact h)
     clear hj
     go_wp2_with fail
     refine ⟨⟨i + 1, lx, by first | rfl | trivial, HIn.out, by first | rfl | rw [wr2], HE.out, HGR.out⟩, ?_⟩
     first | exact HM.out | (rw [wr2]; exact HM.out)
  ·have t1 : decide ((i : Int) < (fs2.length : Int)) = false := by simp; omega
   have HE : Hid (FdR B0 wr lx (G ++ Z.flatten)) := Hd (by have h := HROO.out; rw [List.take_of_length_le (by rw [HZL.out]; omega)] at h; exact h)
   clear hi
   go_wp2_with fail
   go_ret
   exact AgPost.from HG1.out ⟨_, rfl, HE.out, HGRO.out⟩
end Go.Proofs.YtjbccjmpebgdjaaGreatDoor
