import Derived.Test.YtgjblmlibhppiaaGreatDoorMz7
namespace Go.Proofs.YtgjblmlibhppiaaGreatDoor
open Go.RowKit
theorem box_ttv (w : World) (zs bs vs : List Value) : ∃ (w1 : World) (g0 g1 g2 : Nat), ((w.alloc (.cells zs.toArray 26)).alloc (.cells bs.toArray 26)).alloc (.cells vs.toArray 41) = w1 ∧ w.heap.size = g0 ∧ g0 + 1 = g1 ∧ g1 + 1 = g2 ∧ Below w.heap.size w w1 ∧ w1.heap[g0]? = some (.cells zs.toArray 26 (0, 0)) ∧ w1.heap[g1]? = some (.cells bs.toArray 26 (0, 0)) ∧ w1.heap[g2]? = some (.cells vs.toArray 41 (0, 0)) := by
 obtain ⟨w1, g1, g2, h1, h2, h3, h4, h5, h6, h7⟩ := box_two w zs bs
 refine ⟨w1.alloc (.cells vs.toArray 41), g1, g2, w1.heap.size, by rw [h1], h2, h3, by omega, h4.trans ((Below.refl w1.heap.size w1).alloc (Nat.le_refl _) _ |>.mono h4.size), ?_, ?_, heap_alloc_new w1 _⟩
 ·rw [Below.heap_alloc _ _ _ (by omega)]; exact h6
 ·rw [Below.heap_alloc _ _ _ (by omega)]; exact h7
theorem RanPost.yes {fuel : Int} {w : World} {c p : Prop} {e : Ending} {w' : World} (h : RanPost fuel w c p e w') : ∃ (r : Bool) (n ev : Int), e = .returned (.tuple #[.bool r, .int .i64 n, .int .i64 ev]) ∧ (r = true → p) ∧ Below w.heap.size w w' := by
 obtain ⟨⟨r, n, he, hr, -⟩ | ⟨he, -⟩, hb⟩ := h
 ·exact ⟨r, n, 0, he, hr.1, hb⟩
 ·exact ⟨false, fuel, 9, he, fun h => absurd h (by decide), hb⟩
set_option maxRecDepth 100000 in
set_option maxHeartbeats 16000000 in
theorem means_all {K0 K1 : Nat → Prop} {w : World} {t0 t1 : Ty} {v : Val} {cs0 cs1 ds : List Value} (hq0 : RepT K0 w t0 cs0) (hq1 : RepT K1 w t1 cs1) (hv : RepV w v ds) :
  Calls Tryz.prog 5 #[.agg cs0.toArray, .agg cs1.toArray, .agg ds.toArray] w fun e w' => e = .returned (.bool true) ∧ Below w.heap.size w w' := by
 obtain ⟨w1, g0, g1, g2, HW1, HG0, HG1, HG2, hb1, hx0, hx1, hx2⟩ := box_ttv w cs0 cs1 ds
 have hr0 := RepT.low _ _ hq0
 obtain ⟨m0, hm0⟩ : ∃ x, x = capN (cntT t0) := ⟨_, rfl⟩
 have hl0 : m0 ≤ 4097 := by rw [hm0]; unfold capN; omega
 obtain ⟨a0, ha0⟩ : ∃ x, x = smpT t0 := ⟨_, rfl⟩
 obtain ⟨u0, hu0⟩ : ∃ x, x = noF t0 := ⟨_, rfl⟩
 obtain ⟨f0, hf0⟩ : ∃ x, x = formedT t0 := ⟨_, rfl⟩
 have HT0 := Lib.hid (show f0 = true → a0 = true → u0 = true → (GdT t0 ∧ formedT t0 = true) ∧ noF t0 = true from fun h1 h2 h3 => ⟨⟨⟨formed_get (hf0.symm.trans h1), ha0.symm.trans h2⟩, hf0.symm.trans h1⟩, hu0.symm.trans h3⟩)
 have hr1 := RepT.low _ _ hq1
 obtain ⟨m1, hm1⟩ : ∃ x, x = capN (cntT t1) := ⟨_, rfl⟩
 have hl1 : m1 ≤ 4097 := by rw [hm1]; unfold capN; omega
 obtain ⟨a1, ha1⟩ : ∃ x, x = smpT t1 := ⟨_, rfl⟩
 obtain ⟨u1, hu1⟩ : ∃ x, x = noF t1 := ⟨_, rfl⟩
 obtain ⟨f1, hf1⟩ : ∃ x, x = formedT t1 := ⟨_, rfl⟩
 have HT1 := Lib.hid (show f1 = true → a1 = true → u1 = true → (GdT t1 ∧ formedT t1 = true) ∧ noF t1 = true from fun h1 h2 h3 => ⟨⟨⟨formed_get (hf1.symm.trans h1), ha1.symm.trans h2⟩, hf1.symm.trans h1⟩, hu1.symm.trans h3⟩)
 obtain ⟨vv, hvv⟩ : ∃ x, x = v := ⟨_, rfl⟩
 obtain ⟨k0, s0, n0, ps0, fs0, vs0⟩ := t0
 obtain ⟨A0, c0, B0, d0, C0, e0, rfl, -⟩ := hr0.inv
 obtain ⟨k1, s1, n1, ps1, fs1, vs1⟩ := t1
 obtain ⟨A1, c1, B1, d1, C1, e1, rfl, -⟩ := hr1.inv
 obtain ⟨k, s, n, nm, ps⟩ := v
 obtain ⟨A, c, B, d, rfl, -, -⟩ := hv.inv
 simp only [cells6T] at hr0 hr1 hx0 hx1 hx2 HW1 ⊢
 have hlow : ∀ wx : World, Below w1.heap.size w1 wx → ∀ x, x < w.heap.size → x < wx.heap.size := fun wx h x hx => Nat.lt_of_lt_of_le hx (Nat.le_trans hb1.size h.size)
 have KN0 : Hid (∀ wx, Below w1.heap.size w1 wx → Calls Tryz.prog 10 #[.agg #[.int .i64 k0, .string s0, .int .i64 n0, .slice A0 ps0.length c0, .slice B0 fs0.length d0, .slice C0 vs0.length e0]] wx fun e w' => e = .returned (.int .i64 (m0 : Nat)) ∧ Below wx.heap.size wx w') := Lib.hid fun wx h => (nod_any _ _ wx _ (hr0.later (hb1.trans (h.mono hb1.size)))).mono fun e w' h => ⟨by rw [hm0]; exact h.1, h.2.below⟩
 have KS0 : Hid (∀ wx, Below w1.heap.size w1 wx → Calls Tryz.prog 11 #[.agg #[.int .i64 k0, .string s0, .int .i64 n0, .slice A0 ps0.length c0, .slice B0 fs0.length d0, .slice C0 vs0.length e0]] wx fun e w' => e = .returned (.bool a0) ∧ Below wx.heap.size wx w') := Lib.hid fun wx h => by rw [ha0]; exact simple_15 _ _ wx _ (hr0.later (hb1.trans (h.mono hb1.size)))
 have KF0 : Hid (∀ wx, Below w1.heap.size w1 wx → Calls Tryz.prog 12 #[.agg #[.int .i64 k0, .string s0, .int .i64 n0, .slice A0 ps0.length c0, .slice B0 fs0.length d0, .slice C0 vs0.length e0]] wx fun e w' => e = .returned (.bool f0) ∧ Below wx.heap.size wx w') := Lib.hid fun wx h => by rw [hf0]; exact formed_ref (hr0.later (hb1.trans (h.mono hb1.size)))
 have KO0 : Hid (∀ wx, Below w1.heap.size w1 wx → Calls Tryz.prog 16 #[.agg #[.int .i64 k0, .string s0, .int .i64 n0, .slice A0 ps0.length c0, .slice B0 fs0.length d0, .slice C0 vs0.length e0]] wx fun e w' => e = .returned (.bool u0) ∧ Below wx.heap.size wx w') := Lib.hid fun wx h => by rw [hu0]; exact without_15 _ _ wx _ (hr0.later (hb1.trans (h.mono hb1.size)))
 have KI0 : Hid (∀ wx, Below w1.heap.size w1 wx → GdT (.mk k0 s0 n0 ps0 fs0 vs0) → noF (.mk k0 s0 n0 ps0 fs0 vs0) = true → Calls Tryz.prog 17 #[.agg #[.int .i64 k, .string s, .int .i64 n, .slice A nm.length c, .slice B ps.length d], .agg #[.int .i64 k0, .string s0, .int .i64 n0, .slice A0 ps0.length c0, .slice B0 fs0.length d0, .slice C0 vs0.length e0]] wx fun e w' => (∃ r : Bool, e = .returned (.bool r) ∧ (r = true ↔ IsV vv (.mk k0 s0 n0 ps0 fs0 vs0))) ∧ Below wx.heap.size wx w') := Lib.hid fun wx h hg hn => by rw [hvv]; exact is_all _ _ wx _ _ _ (hr0.later (hb1.trans (h.mono hb1.size))) (hv.later (hb1.trans (h.mono hb1.size))) hg hn
 have KN1 : Hid (∀ wx, Below w1.heap.size w1 wx → Calls Tryz.prog 10 #[.agg #[.int .i64 k1, .string s1, .int .i64 n1, .slice A1 ps1.length c1, .slice B1 fs1.length d1, .slice C1 vs1.length e1]] wx fun e w' => e = .returned (.int .i64 (m1 : Nat)) ∧ Below wx.heap.size wx w') := Lib.hid fun wx h => (nod_any _ _ wx _ (hr1.later (hb1.trans (h.mono hb1.size)))).mono fun e w' h => ⟨by rw [hm1]; exact h.1, h.2.below⟩
 have KS1 : Hid (∀ wx, Below w1.heap.size w1 wx → Calls Tryz.prog 11 #[.agg #[.int .i64 k1, .string s1, .int .i64 n1, .slice A1 ps1.length c1, .slice B1 fs1.length d1, .slice C1 vs1.length e1]] wx fun e w' => e = .returned (.bool a1) ∧ Below wx.heap.size wx w') := Lib.hid fun wx h => by rw [ha1]; exact simple_15 _ _ wx _ (hr1.later (hb1.trans (h.mono hb1.size)))
 have KF1 : Hid (∀ wx, Below w1.heap.size w1 wx → Calls Tryz.prog 12 #[.agg #[.int .i64 k1, .string s1, .int .i64 n1, .slice A1 ps1.length c1, .slice B1 fs1.length d1, .slice C1 vs1.length e1]] wx fun e w' => e = .returned (.bool f1) ∧ Below wx.heap.size wx w') := Lib.hid fun wx h => by rw [hf1]; exact formed_ref (hr1.later (hb1.trans (h.mono hb1.size)))
 have KO1 : Hid (∀ wx, Below w1.heap.size w1 wx → Calls Tryz.prog 16 #[.agg #[.int .i64 k1, .string s1, .int .i64 n1, .slice A1 ps1.length c1, .slice B1 fs1.length d1, .slice C1 vs1.length e1]] wx fun e w' => e = .returned (.bool u1) ∧ Below wx.heap.size wx w') := Lib.hid fun wx h => by rw [hu1]; exact without_15 _ _ wx _ (hr1.later (hb1.trans (h.mono hb1.size)))
 have KI1 : Hid (∀ wx, Below w1.heap.size w1 wx → GdT (.mk k1 s1 n1 ps1 fs1 vs1) → noF (.mk k1 s1 n1 ps1 fs1 vs1) = true → Calls Tryz.prog 17 #[.agg #[.int .i64 k, .string s, .int .i64 n, .slice A nm.length c, .slice B ps.length d], .agg #[.int .i64 k1, .string s1, .int .i64 n1, .slice A1 ps1.length c1, .slice B1 fs1.length d1, .slice C1 vs1.length e1]] wx fun e w' => (∃ r : Bool, e = .returned (.bool r) ∧ (r = true ↔ IsV vv (.mk k1 s1 n1 ps1 fs1 vs1))) ∧ Below wx.heap.size wx w') := Lib.hid fun wx h hg hn => by rw [hvv]; exact is_all _ _ wx _ _ _ (hr1.later (hb1.trans (h.mono hb1.size))) (hv.later (hb1.trans (h.mono hb1.size))) hg hn
 have KZ : Hid (∀ wx, Below w1.heap.size w1 wx → Calls Tryz.prog 15 #[.agg #[.int .i64 k, .string s, .int .i64 n, .slice A nm.length c, .slice B ps.length d]] wx fun e w' => (∃ z, e = .returned (.int .i64 z)) ∧ Below wx.heap.size wx w') := Lib.hid fun wx h => size_15 hv wx (hb1.trans (h.mono hb1.size))
 have KT : Hid (∀ wx, Below w1.heap.size w1 wx → GdT (.mk k0 s0 n0 ps0 fs0 vs0) ∧ formedT (.mk k0 s0 n0 ps0 fs0 vs0) = true → GdT (.mk k1 s1 n1 ps1 fs1 vs1) ∧ formedT (.mk k1 s1 n1 ps1 fs1 vs1) = true → Calls Tryz.prog 13 #[.agg #[.slice none 0 0, .slice none 0 0, .int .i64 100000], .agg #[.int .i64 k0, .string s0, .int .i64 n0, .slice A0 ps0.length c0, .slice B0 fs0.length d0, .slice C0 vs0.length e0], .agg #[.int .i64 k1, .string s1, .int .i64 n1, .slice A1 ps1.length c1, .slice B1 fs1.length d1, .slice C1 vs1.length e1]] wx (RanPost 100000 wx (DeepT (.mk k0 s0 n0 ps0 fs0 vs0) (.mk k1 s1 n1 ps1 fs1 vs1) ∨ (100000 : Int) < 3) (Fit (.mk k0 s0 n0 ps0 fs0 vs0) (.mk k1 s1 n1 ps1 fs1 vs1)))) := Lib.hid fun wx h p q => Fits_any (hr0.later (hb1.trans (h.mono hb1.size))) (hr1.later (hb1.trans (h.mono hb1.size))) p.1 q.1 p.2 q.2 (hlow wx h) (hlow wx h) (by omega) (by omega)
 have HC : Hid (∀ wx, Below w1.heap.size w1 wx → (wx.cell? ⟨g0, 0, none⟩ = some (.int .i64 k0) ∧ wx.cell? ⟨g0, 1, none⟩ = some (.string s0) ∧ wx.cell? ⟨g0, 2, none⟩ = some (.int .i64 n0) ∧ wx.cell? ⟨g0, 3, none⟩ = some (.slice A0 ps0.length c0) ∧ wx.cell? ⟨g0, 4, none⟩ = some (.slice B0 fs0.length d0) ∧ wx.cell? ⟨g0, 5, none⟩ = some (.slice C0 vs0.length e0)) ∧ (wx.cell? ⟨g1, 0, none⟩ = some (.int .i64 k1) ∧ wx.cell? ⟨g1, 1, none⟩ = some (.string s1) ∧ wx.cell? ⟨g1, 2, none⟩ = some (.int .i64 n1) ∧ wx.cell? ⟨g1, 3, none⟩ = some (.slice A1 ps1.length c1) ∧ wx.cell? ⟨g1, 4, none⟩ = some (.slice B1 fs1.length d1) ∧ wx.cell? ⟨g1, 5, none⟩ = some (.slice C1 vs1.length e1)) ∧ wx.cell? ⟨g2, 0, none⟩ = some (.int .i64 k) ∧ wx.cell? ⟨g2, 1, none⟩ = some (.string s) ∧ wx.cell? ⟨g2, 2, none⟩ = some (.int .i64 n) ∧ wx.cell? ⟨g2, 3, none⟩ = some (.slice A nm.length c) ∧ wx.cell? ⟨g2, 4, none⟩ = some (.slice B ps.length d)) := Lib.hid fun wx h => ⟨cz6 (box_up h (Array.getElem?_eq_some_iff.1 hx0).1 hx0), cz6 (box_up h (Array.getElem?_eq_some_iff.1 hx1).1 hx1), cz5 (box_up h (Array.getElem?_eq_some_iff.1 hx2).1 hx2)⟩
 have HB1 := Lib.hid hb1
 have HBw1 : Hid (Below w1.heap.size w1 w1.drew) := Lib.hid (Below.refl _ _).drew
 replace HW1 := Lib.hid HW1
 replace HG0 := Lib.hid HG0
 replace HG1 := Lib.hid HG1
 replace HG2 := Lib.hid HG2
 obtain ⟨z1, hz1⟩ : ∃ z : Int, z = (m0 : Int) + (m1 : Int) := ⟨_, rfl⟩
 have y1 : IntKind.i64.wrap ((m0 : Int) + (m1 : Int)) = z1 := by rw [← hz1]; exact wrap_kd (by omega) (by omega)
 clear hz1 hl0 hl1 hq0 hq1 hv hr0 hr1 hb1 hx0 hx1 hx2 hlow hm0 hm1 ha0 ha1 hf0 hf1 hu0 hu1 hvv
 go_enter Tryz.func5, Tryz.ntmps5
 go_upto_region 1 with fail
 rw [HW1.out, HG0.out, HG1.out, HG2.out]
 by_cases hN : 100 < z1
 ·have tn : decide (100 < z1) = true := decide_eq_true hN
  refine wp_region_held_drew (S := (fun w' => (w'.cell? ⟨g0, 0, none⟩ = some (.int .i64 k0) ∧ w'.cell? ⟨g0, 1, none⟩ = some (.string s0) ∧ w'.cell? ⟨g0, 2, none⟩ = some (.int .i64 n0) ∧ w'.cell? ⟨g0, 3, none⟩ = some (.slice A0 ps0.length c0) ∧ w'.cell? ⟨g0, 4, none⟩ = some (.slice B0 fs0.length d0) ∧ w'.cell? ⟨g0, 5, none⟩ = some (.slice C0 vs0.length e0)) ∧ (w'.cell? ⟨g1, 0, none⟩ = some (.int .i64 k1) ∧ w'.cell? ⟨g1, 1, none⟩ = some (.string s1) ∧ w'.cell? ⟨g1, 2, none⟩ = some (.int .i64 n1) ∧ w'.cell? ⟨g1, 3, none⟩ = some (.slice A1 ps1.length c1) ∧ w'.cell? ⟨g1, 4, none⟩ = some (.slice B1 fs1.length d1) ∧ w'.cell? ⟨g1, 5, none⟩ = some (.slice C1 vs1.length e1)) ∧ w'.cell? ⟨g2, 0, none⟩ = some (.int .i64 k) ∧ w'.cell? ⟨g2, 1, none⟩ = some (.string s) ∧ w'.cell? ⟨g2, 2, none⟩ = some (.int .i64 n) ∧ w'.cell? ⟨g2, 3, none⟩ = some (.slice A nm.length c) ∧ w'.cell? ⟨g2, 4, none⟩ = some (.slice B ps.length d))) (by kernel_rfl) (HC.out _ HBw1.out) (fun hHeld => ?_)
  refine wpAnyH_ready (rs := [0]) (by kernel_rfl) (by simp) ?_
  refine AllReadyH.cons (sd (some 10) rfl) (fun Kx hK => ?_) AllReadyH.nil
  go_simp
  refine (awake15 w1.drew).mono ?_
  rintro e5 wb ⟨rfl, hb5⟩
  have HBwb : Hid (Below w1.heap.size w1 wb) := Lib.hid (HBw1.out.trans (hb5.mono HBw1.out.size))
  clear hb5
  go_wp2_with fail
  refine hK.out _ _ (HC.out _ HBwb.out) (fun hHeld => ?_)
  clear hK Kx
  try simp only [Act.put, List.setIfInBounds_toArray, List.set_cons_zero, List.set_cons_succ]
  refine Plan.start [1, 2, 3, 5] ?_
  iterate 4 (refine Plan.tk (so rfl) hHeld ?_; try simp only [Act.put, pz1, pz2, pz3])
  refine Plan.done ?_
  refine wpAnyH_ready (rs := [4]) (by kernel_rfl) (by simp) ?_
  refine AllReadyH.cons (sd (some 14) rfl) (fun Kx hK => ?_) AllReadyH.nil
  go_simp
  refine (KN0.out _ HBwb.out).mono ?_
  rintro e5 wc ⟨rfl, hb5⟩
  have HBwc : Hid (Below w1.heap.size w1 wc) := Lib.hid (HBwb.out.trans (hb5.mono HBwb.out.size))
  clear hb5
  go_wp2_with fail
  refine hK.out _ _ (HC.out _ HBwc.out) (fun hHeld => ?_)
  clear hK Kx
  try simp only [Act.put, List.setIfInBounds_toArray, List.set_cons_zero, List.set_cons_succ]
  refine wpAnyH_ready (rs := [6]) (by kernel_rfl) (by simp) ?_
  refine AllReadyH.cons (sd (some 16) rfl) (fun Kx hK => ?_) AllReadyH.nil
  go_simp
  refine (KN1.out _ HBwc.out).mono ?_
  rintro e5 wd ⟨rfl, hb5⟩
  have HBwd : Hid (Below w1.heap.size w1 wd) := Lib.hid (HBwc.out.trans (hb5.mono HBwc.out.size))
  clear hb5
  go_wp2_with fail
  refine hK.out _ _ (HC.out _ HBwd.out) (fun hHeld => ?_)
  clear hK Kx
  try simp only [Act.put, List.setIfInBounds_toArray, List.set_cons_zero, List.set_cons_succ]
  refine Plan.start [7, 8, 9, 10] ?_
  iterate 4 (refine Plan.tk (so rfl) hHeld ?_; try simp only [Act.put, pz1, pz2, pz3])
  refine Plan.done ?_
  refine Plan.start [11, 12, 13] ?_
  iterate 3 (refine Plan.take (v := undef) (so rfl) (by kernel_rfl) (by kernel_rfl) (by kernel_rfl) (fun _ _ _ h => h) (Or.inr ⟨by rfl, rfl⟩) hHeld ?_; try simp only [Act.put, pz1, pz2, pz3])
  refine Plan.done ?_
  refine Plan.start [14, 15] ?_
  iterate 2 (refine Plan.tk (so rfl) hHeld ?_; try simp only [Act.put, pz1, pz2, pz3])
  refine Plan.done ?_
  refine Plan.start [16, 17, 18] ?_
  iterate 3 (refine Plan.take (v := undef) (so rfl) (by kernel_rfl) (by kernel_rfl) (by kernel_rfl) (fun _ _ _ h => h) (Or.inr ⟨by rfl, rfl⟩) hHeld ?_; try simp only [Act.put, pz1, pz2, pz3])
  refine Plan.done ?_
  refine Plan.start [19, 20] ?_
  iterate 2 (refine Plan.tk (so rfl) hHeld ?_; try simp only [Act.put, pz1, pz2, pz3])
  refine Plan.done ?_
  refine Plan.start [21, 22, 23] ?_
  iterate 3 (refine Plan.take (v := undef) (so rfl) (by kernel_rfl) (by kernel_rfl) (by kernel_rfl) (fun _ _ _ h => h) (Or.inr ⟨by rfl, rfl⟩) hHeld ?_; try simp only [Act.put, pz1, pz2, pz3])
  refine Plan.done ?_
  refine Plan.start [24, 25] ?_
  iterate 2 (refine Plan.tk (so rfl) hHeld ?_; try simp only [Act.put, pz1, pz2, pz3])
  refine Plan.done ?_
  refine Plan.start [26, 27, 28] ?_
  iterate 3 (refine Plan.take (v := undef) (so rfl) (by kernel_rfl) (by kernel_rfl) (by kernel_rfl) (fun _ _ _ h => h) (Or.inr ⟨by rfl, rfl⟩) hHeld ?_; try simp only [Act.put, pz1, pz2, pz3])
  refine Plan.done ?_
  refine Plan.start [29, 30] ?_
  iterate 2 (refine Plan.tk (so rfl) hHeld ?_; try simp only [Act.put, pz1, pz2, pz3])
  refine Plan.done ?_
  refine Plan.start [31, 32, 33] ?_
  iterate 3 (refine Plan.take (v := undef) (so rfl) (by kernel_rfl) (by kernel_rfl) (by kernel_rfl) (fun _ _ _ h => h) (Or.inr ⟨by rfl, rfl⟩) hHeld ?_; try simp only [Act.put, pz1, pz2, pz3])
  refine Plan.done ?_
  refine Plan.start [34, 35] ?_
  iterate 2 (refine Plan.tk (so rfl) hHeld ?_; try simp only [Act.put, pz1, pz2, pz3])
  refine Plan.done ?_
  refine Plan.start [36, 37, 38] ?_
  iterate 3 (refine Plan.take (v := undef) (so rfl) (by kernel_rfl) (by kernel_rfl) (by kernel_rfl) (fun _ _ _ h => h) (Or.inr ⟨by rfl, rfl⟩) hHeld ?_; try simp only [Act.put, pz1, pz2, pz3])
  refine Plan.done ?_
  refine Plan.start [39, 40] ?_
  iterate 2 (refine Plan.tk (so rfl) hHeld ?_; try simp only [Act.put, pz1, pz2, pz3])
  refine Plan.done ?_
  refine Plan.start [41, 42, 43] ?_
  iterate 3 (refine Plan.take (v := undef) (so rfl) (by kernel_rfl) (by kernel_rfl) (by kernel_rfl) (fun _ _ _ h => h) (Or.inr ⟨by rfl, rfl⟩) hHeld ?_; try simp only [Act.put, pz1, pz2, pz3])
  refine Plan.done ?_
  refine Plan.start [44] ?_
  refine Plan.tk (so rfl) hHeld ?_
  try simp only [Act.put, pz1, pz2, pz3]
  refine Plan.done ?_
  refine wpAnyH_done (by kernel_rfl) ?_ _
  clear hHeld
  go_wp2_with fail
  refine (awake15 wd).mono ?_
  rintro e9 w9 ⟨rfl, hb9⟩
  have HB9 : Hid (Below w.heap.size w w9) := Lib.hid (HB1.out.trans ((HBwd.out.trans (hb9.mono HBwd.out.size)).mono HB1.out.size))
  clear hb9
  go_wp2_with fail
  go_ret
  exact ⟨rfl, HB9.out⟩
 ·have tn : decide (100 < z1) = false := decide_eq_false hN
  clear hN
  refine wp_region_held_drew (S := (fun w' => (w'.cell? ⟨g0, 0, none⟩ = some (.int .i64 k0) ∧ w'.cell? ⟨g0, 1, none⟩ = some (.string s0) ∧ w'.cell? ⟨g0, 2, none⟩ = some (.int .i64 n0) ∧ w'.cell? ⟨g0, 3, none⟩ = some (.slice A0 ps0.length c0) ∧ w'.cell? ⟨g0, 4, none⟩ = some (.slice B0 fs0.length d0) ∧ w'.cell? ⟨g0, 5, none⟩ = some (.slice C0 vs0.length e0)) ∧ (w'.cell? ⟨g1, 0, none⟩ = some (.int .i64 k1) ∧ w'.cell? ⟨g1, 1, none⟩ = some (.string s1) ∧ w'.cell? ⟨g1, 2, none⟩ = some (.int .i64 n1) ∧ w'.cell? ⟨g1, 3, none⟩ = some (.slice A1 ps1.length c1) ∧ w'.cell? ⟨g1, 4, none⟩ = some (.slice B1 fs1.length d1) ∧ w'.cell? ⟨g1, 5, none⟩ = some (.slice C1 vs1.length e1)) ∧ w'.cell? ⟨g2, 0, none⟩ = some (.int .i64 k) ∧ w'.cell? ⟨g2, 1, none⟩ = some (.string s) ∧ w'.cell? ⟨g2, 2, none⟩ = some (.int .i64 n) ∧ w'.cell? ⟨g2, 3, none⟩ = some (.slice A nm.length c) ∧ w'.cell? ⟨g2, 4, none⟩ = some (.slice B ps.length d))) (by kernel_rfl) (HC.out _ HBw1.out) (fun hHeld => ?_)
  refine wpAnyH_ready (rs := [0]) (by kernel_rfl) (by simp) ?_
  refine AllReadyH.cons (sd (some 10) rfl) (fun Kx hK => ?_) AllReadyH.nil
  go_simp
  refine (awake15 w1.drew).mono ?_
  rintro e5 wb ⟨rfl, hb5⟩
  have HBwb : Hid (Below w1.heap.size w1 wb) := Lib.hid (HBw1.out.trans (hb5.mono HBw1.out.size))
  clear hb5
  go_wp2_with fail
  refine hK.out _ _ (HC.out _ HBwb.out) (fun hHeld => ?_)
  clear hK Kx
  try simp only [Act.put, List.setIfInBounds_toArray, List.set_cons_zero, List.set_cons_succ]
  refine Plan.start [1, 2, 3, 5] ?_
  iterate 4 (refine Plan.tk (so rfl) hHeld ?_; try simp only [Act.put, pz1, pz2, pz3])
  refine Plan.done ?_
  refine wpAnyH_ready (rs := [4]) (by kernel_rfl) (by simp) ?_
  refine AllReadyH.cons (sd (some 14) rfl) (fun Kx hK => ?_) AllReadyH.nil
  go_simp
  refine (KN0.out _ HBwb.out).mono ?_
  rintro e5 wc ⟨rfl, hb5⟩
  have HBwc : Hid (Below w1.heap.size w1 wc) := Lib.hid (HBwb.out.trans (hb5.mono HBwb.out.size))
  clear hb5
  go_wp2_with fail
  refine hK.out _ _ (HC.out _ HBwc.out) (fun hHeld => ?_)
  clear hK Kx
  try simp only [Act.put, List.setIfInBounds_toArray, List.set_cons_zero, List.set_cons_succ]
  refine wpAnyH_ready (rs := [6]) (by kernel_rfl) (by simp) ?_
  refine AllReadyH.cons (sd (some 16) rfl) (fun Kx hK => ?_) AllReadyH.nil
  go_simp
  refine (KN1.out _ HBwc.out).mono ?_
  rintro e5 wd ⟨rfl, hb5⟩
  have HBwd : Hid (Below w1.heap.size w1 wd) := Lib.hid (HBwc.out.trans (hb5.mono HBwc.out.size))
  clear hb5
  go_wp2_with fail
  refine hK.out _ _ (HC.out _ HBwd.out) (fun hHeld => ?_)
  clear hK Kx
  try simp only [Act.put, List.setIfInBounds_toArray, List.set_cons_zero, List.set_cons_succ]
  refine Plan.start [7, 8, 9, 10, 11] ?_
  iterate 5 (refine Plan.tk (so rfl) hHeld ?_; try simp only [Act.put, pz1, pz2, pz3])
  refine Plan.done ?_
  refine wpAnyH_ready (rs := [12]) (by kernel_rfl) (by simp) ?_
  refine AllReadyH.cons (sd (some 22) rfl) (fun Kx hK => ?_) AllReadyH.nil
  go_simp
  refine (KZ.out _ HBwd.out).mono ?_
  rintro e5 we ⟨⟨z5, rfl⟩, hb5⟩
  have HBwe : Hid (Below w1.heap.size w1 we) := Lib.hid (HBwd.out.trans (hb5.mono HBwd.out.size))
  clear hb5
  by_cases hz : 100 < z5
  ·have tz : decide (100 < z5) = true := decide_eq_true hz
   go_wp2_with fail
   refine hK.out _ _ (HC.out _ HBwe.out) (fun hHeld => ?_)
   clear hK Kx
   try simp only [Act.put, List.setIfInBounds_toArray, List.set_cons_zero, List.set_cons_succ]
   refine Plan.start [13, 14, 15] ?_
   iterate 3 (refine Plan.tk (so rfl) hHeld ?_; try simp only [Act.put, pz1, pz2, pz3])
   refine Plan.done ?_
   refine Plan.start [16, 17, 18] ?_
   iterate 3 (refine Plan.take (v := undef) (so rfl) (by kernel_rfl) (by kernel_rfl) (by kernel_rfl) (fun _ _ _ h => h) (Or.inr ⟨by rfl, rfl⟩) hHeld ?_; try simp only [Act.put, pz1, pz2, pz3])
   refine Plan.done ?_
   refine Plan.start [19, 20] ?_
   iterate 2 (refine Plan.tk (so rfl) hHeld ?_; try simp only [Act.put, pz1, pz2, pz3])
   refine Plan.done ?_
   refine Plan.start [21, 22, 23] ?_
   iterate 3 (refine Plan.take (v := undef) (so rfl) (by kernel_rfl) (by kernel_rfl) (by kernel_rfl) (fun _ _ _ h => h) (Or.inr ⟨by rfl, rfl⟩) hHeld ?_; try simp only [Act.put, pz1, pz2, pz3])
   refine Plan.done ?_
   refine Plan.start [24, 25] ?_
   iterate 2 (refine Plan.tk (so rfl) hHeld ?_; try simp only [Act.put, pz1, pz2, pz3])
   refine Plan.done ?_
   refine Plan.start [26, 27, 28] ?_
   iterate 3 (refine Plan.take (v := undef) (so rfl) (by kernel_rfl) (by kernel_rfl) (by kernel_rfl) (fun _ _ _ h => h) (Or.inr ⟨by rfl, rfl⟩) hHeld ?_; try simp only [Act.put, pz1, pz2, pz3])
   refine Plan.done ?_
   refine Plan.start [29, 30] ?_
   iterate 2 (refine Plan.tk (so rfl) hHeld ?_; try simp only [Act.put, pz1, pz2, pz3])
   refine Plan.done ?_
   refine Plan.start [31, 32, 33] ?_
   iterate 3 (refine Plan.take (v := undef) (so rfl) (by kernel_rfl) (by kernel_rfl) (by kernel_rfl) (fun _ _ _ h => h) (Or.inr ⟨by rfl, rfl⟩) hHeld ?_; try simp only [Act.put, pz1, pz2, pz3])
   refine Plan.done ?_
   refine Plan.start [34, 35] ?_
   iterate 2 (refine Plan.tk (so rfl) hHeld ?_; try simp only [Act.put, pz1, pz2, pz3])
   refine Plan.done ?_
   refine Plan.start [36, 37, 38] ?_
   iterate 3 (refine Plan.take (v := undef) (so rfl) (by kernel_rfl) (by kernel_rfl) (by kernel_rfl) (fun _ _ _ h => h) (Or.inr ⟨by rfl, rfl⟩) hHeld ?_; try simp only [Act.put, pz1, pz2, pz3])
   refine Plan.done ?_
   refine Plan.start [39, 40] ?_
   iterate 2 (refine Plan.tk (so rfl) hHeld ?_; try simp only [Act.put, pz1, pz2, pz3])
   refine Plan.done ?_
   refine Plan.start [41, 42, 43] ?_
   iterate 3 (refine Plan.take (v := undef) (so rfl) (by kernel_rfl) (by kernel_rfl) (by kernel_rfl) (fun _ _ _ h => h) (Or.inr ⟨by rfl, rfl⟩) hHeld ?_; try simp only [Act.put, pz1, pz2, pz3])
   refine Plan.done ?_
   refine Plan.start [44] ?_
   refine Plan.tk (so rfl) hHeld ?_
   try simp only [Act.put, pz1, pz2, pz3]
   refine Plan.done ?_
   refine wpAnyH_done (by kernel_rfl) ?_ _
   clear hHeld
   go_wp2_with fail
   refine (awake15 we).mono ?_
   rintro e9 w9 ⟨rfl, hb9⟩
   have HB9 : Hid (Below w.heap.size w w9) := Lib.hid (HB1.out.trans ((HBwe.out.trans (hb9.mono HBwe.out.size)).mono HB1.out.size))
   clear hb9
   go_wp2_with fail
   go_ret
   exact ⟨rfl, HB9.out⟩
  ·have tz : decide (100 < z5) = false := decide_eq_false hz
   go_wp2_with fail
   refine hK.out _ _ (HC.out _ HBwe.out) (fun hHeld => ?_)
   clear hK Kx
   try simp only [Act.put, List.setIfInBounds_toArray, List.set_cons_zero, List.set_cons_succ]
   refine Plan.start [13, 14, 15, 16] ?_
   iterate 4 (refine Plan.tk (so rfl) hHeld ?_; try simp only [Act.put, pz1, pz2, pz3])
   refine Plan.done ?_
   refine wpAnyH_ready (rs := [17]) (by kernel_rfl) (by simp) ?_
   refine AllReadyH.cons (sd (some 27) rfl) (fun Kx hK => ?_) AllReadyH.nil
   go_simp
   refine (KS0.out _ HBwe.out).mono ?_
   rintro e5 wf ⟨rfl, hb5⟩
   have HBwf : Hid (Below w1.heap.size w1 wf) := Lib.hid (HBwe.out.trans (hb5.mono HBwe.out.size))
   clear hb5
   cases a0 with
   | false =>
    go_wp2_with fail
    refine hK.out _ _ (HC.out _ HBwf.out) (fun hHeld => ?_)
    clear hK Kx
    try simp only [Act.put, List.setIfInBounds_toArray, List.set_cons_zero, List.set_cons_succ]
    refine Plan.start [18, 19, 20] ?_
    iterate 3 (refine Plan.tk (so rfl) hHeld ?_; try simp only [Act.put, pz1, pz2, pz3])
    refine Plan.done ?_
    refine Plan.start [21, 22, 23] ?_
    iterate 3 (refine Plan.take (v := undef) (so rfl) (by kernel_rfl) (by kernel_rfl) (by kernel_rfl) (fun _ _ _ h => h) (Or.inr ⟨by rfl, rfl⟩) hHeld ?_; try simp only [Act.put, pz1, pz2, pz3])
    refine Plan.done ?_
    refine Plan.start [24, 25] ?_
    iterate 2 (refine Plan.tk (so rfl) hHeld ?_; try simp only [Act.put, pz1, pz2, pz3])
    refine Plan.done ?_
    refine Plan.start [26, 27, 28] ?_
    iterate 3 (refine Plan.take (v := undef) (so rfl) (by kernel_rfl) (by kernel_rfl) (by kernel_rfl) (fun _ _ _ h => h) (Or.inr ⟨by rfl, rfl⟩) hHeld ?_; try simp only [Act.put, pz1, pz2, pz3])
    refine Plan.done ?_
    refine Plan.start [29, 30] ?_
    iterate 2 (refine Plan.tk (so rfl) hHeld ?_; try simp only [Act.put, pz1, pz2, pz3])
    refine Plan.done ?_
    refine Plan.start [31, 32, 33] ?_
    iterate 3 (refine Plan.take (v := undef) (so rfl) (by kernel_rfl) (by kernel_rfl) (by kernel_rfl) (fun _ _ _ h => h) (Or.inr ⟨by rfl, rfl⟩) hHeld ?_; try simp only [Act.put, pz1, pz2, pz3])
    refine Plan.done ?_
    refine Plan.start [34, 35] ?_
    iterate 2 (refine Plan.tk (so rfl) hHeld ?_; try simp only [Act.put, pz1, pz2, pz3])
    refine Plan.done ?_
    refine Plan.start [36, 37, 38] ?_
    iterate 3 (refine Plan.take (v := undef) (so rfl) (by kernel_rfl) (by kernel_rfl) (by kernel_rfl) (fun _ _ _ h => h) (Or.inr ⟨by rfl, rfl⟩) hHeld ?_; try simp only [Act.put, pz1, pz2, pz3])
    refine Plan.done ?_
    refine Plan.start [39, 40] ?_
    iterate 2 (refine Plan.tk (so rfl) hHeld ?_; try simp only [Act.put, pz1, pz2, pz3])
    refine Plan.done ?_
    refine Plan.start [41, 42, 43] ?_
    iterate 3 (refine Plan.take (v := undef) (so rfl) (by kernel_rfl) (by kernel_rfl) (by kernel_rfl) (fun _ _ _ h => h) (Or.inr ⟨by rfl, rfl⟩) hHeld ?_; try simp only [Act.put, pz1, pz2, pz3])
    refine Plan.done ?_
    refine Plan.start [44] ?_
    refine Plan.tk (so rfl) hHeld ?_
    try simp only [Act.put, pz1, pz2, pz3]
    refine Plan.done ?_
    refine wpAnyH_done (by kernel_rfl) ?_ _
    clear hHeld
    go_wp2_with fail
    refine (awake15 wf).mono ?_
    rintro e9 w9 ⟨rfl, hb9⟩
    have HB9 : Hid (Below w.heap.size w w9) := Lib.hid (HB1.out.trans ((HBwf.out.trans (hb9.mono HBwf.out.size)).mono HB1.out.size))
    clear hb9
    go_wp2_with fail
    go_ret
    exact ⟨rfl, HB9.out⟩
   | true =>
    go_wp2_with fail
    refine hK.out _ _ (HC.out _ HBwf.out) (fun hHeld => ?_)
    clear hK Kx
    try simp only [Act.put, List.setIfInBounds_toArray, List.set_cons_zero, List.set_cons_succ]
    refine Plan.start [18, 19, 20, 21] ?_
    iterate 4 (refine Plan.tk (so rfl) hHeld ?_; try simp only [Act.put, pz1, pz2, pz3])
    refine Plan.done ?_
    refine wpAnyH_ready (rs := [22]) (by kernel_rfl) (by simp) ?_
    refine AllReadyH.cons (sd (some 32) rfl) (fun Kx hK => ?_) AllReadyH.nil
    go_simp
    refine (KS1.out _ HBwf.out).mono ?_
    rintro e5 wg ⟨rfl, hb5⟩
    have HBwg : Hid (Below w1.heap.size w1 wg) := Lib.hid (HBwf.out.trans (hb5.mono HBwf.out.size))
    clear hb5
    cases a1 with
    | false =>
     go_wp2_with fail
     refine hK.out _ _ (HC.out _ HBwg.out) (fun hHeld => ?_)
     clear hK Kx
     try simp only [Act.put, List.setIfInBounds_toArray, List.set_cons_zero, List.set_cons_succ]
     refine Plan.start [23, 24, 25] ?_
     iterate 3 (refine Plan.tk (so rfl) hHeld ?_; try simp only [Act.put, pz1, pz2, pz3])
     refine Plan.done ?_
     refine Plan.start [26, 27, 28] ?_
     iterate 3 (refine Plan.take (v := undef) (so rfl) (by kernel_rfl) (by kernel_rfl) (by kernel_rfl) (fun _ _ _ h => h) (Or.inr ⟨by rfl, rfl⟩) hHeld ?_; try simp only [Act.put, pz1, pz2, pz3])
     refine Plan.done ?_
     refine Plan.start [29, 30] ?_
     iterate 2 (refine Plan.tk (so rfl) hHeld ?_; try simp only [Act.put, pz1, pz2, pz3])
     refine Plan.done ?_
     refine Plan.start [31, 32, 33] ?_
     iterate 3 (refine Plan.take (v := undef) (so rfl) (by kernel_rfl) (by kernel_rfl) (by kernel_rfl) (fun _ _ _ h => h) (Or.inr ⟨by rfl, rfl⟩) hHeld ?_; try simp only [Act.put, pz1, pz2, pz3])
     refine Plan.done ?_
     refine Plan.start [34, 35] ?_
     iterate 2 (refine Plan.tk (so rfl) hHeld ?_; try simp only [Act.put, pz1, pz2, pz3])
     refine Plan.done ?_
     refine Plan.start [36, 37, 38] ?_
     iterate 3 (refine Plan.take (v := undef) (so rfl) (by kernel_rfl) (by kernel_rfl) (by kernel_rfl) (fun _ _ _ h => h) (Or.inr ⟨by rfl, rfl⟩) hHeld ?_; try simp only [Act.put, pz1, pz2, pz3])
     refine Plan.done ?_
     refine Plan.start [39, 40] ?_
     iterate 2 (refine Plan.tk (so rfl) hHeld ?_; try simp only [Act.put, pz1, pz2, pz3])
     refine Plan.done ?_
     refine Plan.start [41, 42, 43] ?_
     iterate 3 (refine Plan.take (v := undef) (so rfl) (by kernel_rfl) (by kernel_rfl) (by kernel_rfl) (fun _ _ _ h => h) (Or.inr ⟨by rfl, rfl⟩) hHeld ?_; try simp only [Act.put, pz1, pz2, pz3])
     refine Plan.done ?_
     refine Plan.start [44] ?_
     refine Plan.tk (so rfl) hHeld ?_
     try simp only [Act.put, pz1, pz2, pz3]
     refine Plan.done ?_
     refine wpAnyH_done (by kernel_rfl) ?_ _
     clear hHeld
     go_wp2_with fail
     refine (awake15 wg).mono ?_
     rintro e9 w9 ⟨rfl, hb9⟩
     have HB9 : Hid (Below w.heap.size w w9) := Lib.hid (HB1.out.trans ((HBwg.out.trans (hb9.mono HBwg.out.size)).mono HB1.out.size))
     clear hb9
     go_wp2_with fail
     go_ret
     exact ⟨rfl, HB9.out⟩
    | true =>
     go_wp2_with fail
     refine hK.out _ _ (HC.out _ HBwg.out) (fun hHeld => ?_)
     clear hK Kx
     try simp only [Act.put, List.setIfInBounds_toArray, List.set_cons_zero, List.set_cons_succ]
     refine Plan.start [23, 24, 25, 26] ?_
     iterate 4 (refine Plan.tk (so rfl) hHeld ?_; try simp only [Act.put, pz1, pz2, pz3])
     refine Plan.done ?_
     refine wpAnyH_ready (rs := [27]) (by kernel_rfl) (by simp) ?_
     refine AllReadyH.cons (sd (some 37) rfl) (fun Kx hK => ?_) AllReadyH.nil
     go_simp
     refine (KO0.out _ HBwg.out).mono ?_
     rintro e5 wh ⟨rfl, hb5⟩
     have HBwh : Hid (Below w1.heap.size w1 wh) := Lib.hid (HBwg.out.trans (hb5.mono HBwg.out.size))
     clear hb5
     cases u0 with
     | false =>
      go_wp2_with fail
      refine hK.out _ _ (HC.out _ HBwh.out) (fun hHeld => ?_)
      clear hK Kx
      try simp only [Act.put, List.setIfInBounds_toArray, List.set_cons_zero, List.set_cons_succ]
      refine Plan.start [28, 29, 30] ?_
      iterate 3 (refine Plan.tk (so rfl) hHeld ?_; try simp only [Act.put, pz1, pz2, pz3])
      refine Plan.done ?_
      refine Plan.start [31, 32, 33] ?_
      iterate 3 (refine Plan.take (v := undef) (so rfl) (by kernel_rfl) (by kernel_rfl) (by kernel_rfl) (fun _ _ _ h => h) (Or.inr ⟨by rfl, rfl⟩) hHeld ?_; try simp only [Act.put, pz1, pz2, pz3])
      refine Plan.done ?_
      refine Plan.start [34, 35] ?_
      iterate 2 (refine Plan.tk (so rfl) hHeld ?_; try simp only [Act.put, pz1, pz2, pz3])
      refine Plan.done ?_
      refine Plan.start [36, 37, 38] ?_
      iterate 3 (refine Plan.take (v := undef) (so rfl) (by kernel_rfl) (by kernel_rfl) (by kernel_rfl) (fun _ _ _ h => h) (Or.inr ⟨by rfl, rfl⟩) hHeld ?_; try simp only [Act.put, pz1, pz2, pz3])
      refine Plan.done ?_
      refine Plan.start [39, 40] ?_
      iterate 2 (refine Plan.tk (so rfl) hHeld ?_; try simp only [Act.put, pz1, pz2, pz3])
      refine Plan.done ?_
      refine Plan.start [41, 42, 43] ?_
      iterate 3 (refine Plan.take (v := undef) (so rfl) (by kernel_rfl) (by kernel_rfl) (by kernel_rfl) (fun _ _ _ h => h) (Or.inr ⟨by rfl, rfl⟩) hHeld ?_; try simp only [Act.put, pz1, pz2, pz3])
      refine Plan.done ?_
      refine Plan.start [44] ?_
      refine Plan.tk (so rfl) hHeld ?_
      try simp only [Act.put, pz1, pz2, pz3]
      refine Plan.done ?_
      refine wpAnyH_done (by kernel_rfl) ?_ _
      clear hHeld
      go_wp2_with fail
      refine (awake15 wh).mono ?_
      rintro e9 w9 ⟨rfl, hb9⟩
      have HB9 : Hid (Below w.heap.size w w9) := Lib.hid (HB1.out.trans ((HBwh.out.trans (hb9.mono HBwh.out.size)).mono HB1.out.size))
      clear hb9
      go_wp2_with fail
      go_ret
      exact ⟨rfl, HB9.out⟩
     | true =>
      go_wp2_with fail
      refine hK.out _ _ (HC.out _ HBwh.out) (fun hHeld => ?_)
      clear hK Kx
      try simp only [Act.put, List.setIfInBounds_toArray, List.set_cons_zero, List.set_cons_succ]
      refine Plan.start [28, 29, 30, 31] ?_
      iterate 4 (refine Plan.tk (so rfl) hHeld ?_; try simp only [Act.put, pz1, pz2, pz3])
      refine Plan.done ?_
      refine wpAnyH_ready (rs := [32]) (by kernel_rfl) (by simp) ?_
      refine AllReadyH.cons (sd (some 42) rfl) (fun Kx hK => ?_) AllReadyH.nil
      go_simp
      refine (KO1.out _ HBwh.out).mono ?_
      rintro e5 wi ⟨rfl, hb5⟩
      have HBwi : Hid (Below w1.heap.size w1 wi) := Lib.hid (HBwh.out.trans (hb5.mono HBwh.out.size))
      clear hb5
      cases u1 with
      | false =>
       go_wp2_with fail
       refine hK.out _ _ (HC.out _ HBwi.out) (fun hHeld => ?_)
       clear hK Kx
       try simp only [Act.put, List.setIfInBounds_toArray, List.set_cons_zero, List.set_cons_succ]
       refine Plan.start [33, 34, 35] ?_
       iterate 3 (refine Plan.tk (so rfl) hHeld ?_; try simp only [Act.put, pz1, pz2, pz3])
       refine Plan.done ?_
       refine Plan.start [36, 37, 38] ?_
       iterate 3 (refine Plan.take (v := undef) (so rfl) (by kernel_rfl) (by kernel_rfl) (by kernel_rfl) (fun _ _ _ h => h) (Or.inr ⟨by rfl, rfl⟩) hHeld ?_; try simp only [Act.put, pz1, pz2, pz3])
       refine Plan.done ?_
       refine Plan.start [39, 40] ?_
       iterate 2 (refine Plan.tk (so rfl) hHeld ?_; try simp only [Act.put, pz1, pz2, pz3])
       refine Plan.done ?_
       refine Plan.start [41, 42, 43] ?_
       iterate 3 (refine Plan.take (v := undef) (so rfl) (by kernel_rfl) (by kernel_rfl) (by kernel_rfl) (fun _ _ _ h => h) (Or.inr ⟨by rfl, rfl⟩) hHeld ?_; try simp only [Act.put, pz1, pz2, pz3])
       refine Plan.done ?_
       refine Plan.start [44] ?_
       refine Plan.tk (so rfl) hHeld ?_
       try simp only [Act.put, pz1, pz2, pz3]
       refine Plan.done ?_
       refine wpAnyH_done (by kernel_rfl) ?_ _
       clear hHeld
       go_wp2_with fail
       refine (awake15 wi).mono ?_
       rintro e9 w9 ⟨rfl, hb9⟩
       have HB9 : Hid (Below w.heap.size w w9) := Lib.hid (HB1.out.trans ((HBwi.out.trans (hb9.mono HBwi.out.size)).mono HB1.out.size))
       clear hb9
       go_wp2_with fail
       go_ret
       exact ⟨rfl, HB9.out⟩
      | true =>
       go_wp2_with fail
       refine hK.out _ _ (HC.out _ HBwi.out) (fun hHeld => ?_)
       clear hK Kx
       try simp only [Act.put, List.setIfInBounds_toArray, List.set_cons_zero, List.set_cons_succ]
       refine Plan.start [33, 34, 35, 36] ?_
       iterate 4 (refine Plan.tk (so rfl) hHeld ?_; try simp only [Act.put, pz1, pz2, pz3])
       refine Plan.done ?_
       refine wpAnyH_ready (rs := [37]) (by kernel_rfl) (by simp) ?_
       refine AllReadyH.cons (sd (some 47) rfl) (fun Kx hK => ?_) AllReadyH.nil
       go_simp
       refine (KF0.out _ HBwi.out).mono ?_
       rintro e5 wj ⟨rfl, hb5⟩
       have HBwj : Hid (Below w1.heap.size w1 wj) := Lib.hid (HBwi.out.trans (hb5.mono HBwi.out.size))
       clear hb5
       cases f0 with
       | false =>
        go_wp2_with fail
        refine hK.out _ _ (HC.out _ HBwj.out) (fun hHeld => ?_)
        clear hK Kx
        try simp only [Act.put, List.setIfInBounds_toArray, List.set_cons_zero, List.set_cons_succ]
        refine Plan.start [38, 39, 40] ?_
        iterate 3 (refine Plan.tk (so rfl) hHeld ?_; try simp only [Act.put, pz1, pz2, pz3])
        refine Plan.done ?_
        refine Plan.start [41, 42, 43] ?_
        iterate 3 (refine Plan.take (v := undef) (so rfl) (by kernel_rfl) (by kernel_rfl) (by kernel_rfl) (fun _ _ _ h => h) (Or.inr ⟨by rfl, rfl⟩) hHeld ?_; try simp only [Act.put, pz1, pz2, pz3])
        refine Plan.done ?_
        refine Plan.start [44] ?_
        refine Plan.tk (so rfl) hHeld ?_
        try simp only [Act.put, pz1, pz2, pz3]
        refine Plan.done ?_
        refine wpAnyH_done (by kernel_rfl) ?_ _
        clear hHeld
        go_wp2_with fail
        refine (awake15 wj).mono ?_
        rintro e9 w9 ⟨rfl, hb9⟩
        have HB9 : Hid (Below w.heap.size w w9) := Lib.hid (HB1.out.trans ((HBwj.out.trans (hb9.mono HBwj.out.size)).mono HB1.out.size))
        clear hb9
        go_wp2_with fail
        go_ret
        exact ⟨rfl, HB9.out⟩
       | true =>
        go_wp2_with fail
        refine hK.out _ _ (HC.out _ HBwj.out) (fun hHeld => ?_)
        clear hK Kx
        try simp only [Act.put, List.setIfInBounds_toArray, List.set_cons_zero, List.set_cons_succ]
        refine Plan.start [38, 39, 40, 41] ?_
        iterate 4 (refine Plan.tk (so rfl) hHeld ?_; try simp only [Act.put, pz1, pz2, pz3])
        refine Plan.done ?_
        refine wpAnyH_ready (rs := [42]) (by kernel_rfl) (by simp) ?_
        refine AllReadyH.cons (sd (some 52) rfl) (fun Kx hK => ?_) AllReadyH.nil
        go_simp
        refine (KF1.out _ HBwj.out).mono ?_
        rintro e5 wk ⟨rfl, hb5⟩
        have HBwk : Hid (Below w1.heap.size w1 wk) := Lib.hid (HBwj.out.trans (hb5.mono HBwj.out.size))
        clear hb5
        cases f1 with
        | false =>
         go_wp2_with fail
         refine hK.out _ _ (HC.out _ HBwk.out) (fun hHeld => ?_)
         clear hK Kx
         try simp only [Act.put, List.setIfInBounds_toArray, List.set_cons_zero, List.set_cons_succ]
         refine Plan.start [43, 44] ?_
         iterate 2 (refine Plan.tk (so rfl) hHeld ?_; try simp only [Act.put, pz1, pz2, pz3])
         refine Plan.done ?_
         refine wpAnyH_done (by kernel_rfl) ?_ _
         clear hHeld
         go_wp2_with fail
         refine (awake15 wk).mono ?_
         rintro e9 w9 ⟨rfl, hb9⟩
         have HB9 : Hid (Below w.heap.size w w9) := Lib.hid (HB1.out.trans ((HBwk.out.trans (hb9.mono HBwk.out.size)).mono HB1.out.size))
         clear hb9
         go_wp2_with fail
         go_ret
         exact ⟨rfl, HB9.out⟩
        | true =>
         go_wp2_with fail
         refine hK.out _ _ (HC.out _ HBwk.out) (fun hHeld => ?_)
         clear hK Kx
         try simp only [Act.put, List.setIfInBounds_toArray, List.set_cons_zero, List.set_cons_succ]
         refine Plan.start [43, 44] ?_
         iterate 2 (refine Plan.tk (so rfl) hHeld ?_; try simp only [Act.put, pz1, pz2, pz3])
         refine Plan.done ?_
         refine wpAnyH_done (by kernel_rfl) ?_ _
         clear hHeld
         have G0 := Lib.hid (HT0.out (by trivial) (by trivial) (by trivial))
         have G1 := Lib.hid (HT1.out (by trivial) (by trivial) (by trivial))
         clear y1 tn tz
         obtain ⟨⟨x00, x01, x02, x03, x04, x05⟩, ⟨x10, x11, x12, x13, x14, x15⟩, v0, v1, v2, v3, v4⟩ := HC.out _ HBwk.out
         go_wp2_with fail
         refine (KT.out _ HBwk.out G0.out.1 G1.out.1).mono ?_
         intro e5 wz h5
         obtain ⟨b0, q0, ev0, rfl, hv0, hb5⟩ := h5.yes
         have HBz : Hid (Below w1.heap.size w1 wz) := Lib.hid (HBwk.out.trans (hb5.mono HBwk.out.size))
         have HV0 := Lib.hid hv0
         clear h5 hb5 hv0 x00 x01 x02 x03 x04 x05 x10 x11 x12 x13 x14 x15 v0 v1 v2 v3 v4
         cases b0 with
         | false =>
          go_wp2_with fail
          go_ret
          exact ⟨rfl, HB1.out.trans (HBz.out.mono HB1.out.size)⟩
         | true =>
          have HFT := Lib.hid (HV0.out (by trivial))
          obtain ⟨⟨x00, x01, x02, x03, x04, x05⟩, ⟨x10, x11, x12, x13, x14, x15⟩, v0, v1, v2, v3, v4⟩ := HC.out _ HBz.out
          go_wp2_with fail
          refine (KI0.out _ HBz.out G0.out.1.1 G0.out.2).mono ?_
          rintro e6 wy ⟨⟨r6, rfl, hr6⟩, hb6⟩
          have HBy : Hid (Below w1.heap.size w1 wy) := Lib.hid (HBz.out.trans (hb6.mono HBz.out.size))
          have HR6 := Lib.hid hr6
          clear hb6 hr6 x00 x01 x02 x03 x04 x05 x10 x11 x12 x13 x14 x15 v0 v1 v2 v3 v4
          cases r6 with
          | false =>
           go_wp2_with fail
           go_ret
           exact ⟨rfl, HB1.out.trans (HBy.out.mono HB1.out.size)⟩
          | true =>
           have HIS := Lib.hid (fit_means HFT.out G0.out.2 G1.out.2 vv (HR6.out.1 (by trivial)))
           obtain ⟨⟨x00, x01, x02, x03, x04, x05⟩, ⟨x10, x11, x12, x13, x14, x15⟩, v0, v1, v2, v3, v4⟩ := HC.out _ HBy.out
           go_wp2_with fail
           refine (KI1.out _ HBy.out G1.out.1.1 G1.out.2).mono ?_
           rintro e7 wx ⟨⟨r7, rfl, hr7⟩, hb7⟩
           have HBx : Hid (Below w1.heap.size w1 wx) := Lib.hid (HBy.out.trans (hb7.mono HBy.out.size))
           obtain rfl : r7 = true := hr7.2 HIS.out
           clear hb7 hr7 x00 x01 x02 x03 x04 x05 x10 x11 x12 x13 x14 x15 v0 v1 v2 v3 v4
           go_wp2_with fail
           go_ret
           exact ⟨rfl, HB1.out.trans (HBx.out.mono HB1.out.size)⟩
end Go.Proofs.YtgjblmlibhppiaaGreatDoor
