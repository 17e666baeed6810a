import Derived.Test.YtgjblmlibhppiaaGreatDoorMy27
namespace Go.Proofs.YtgjblmlibhppiaaGreatDoor
set_option maxRecDepth 100000
set_option maxHeartbeats 64000000
open Go.RowKit
theorem order_all {K0 K1 K2 : Nat → Prop} {w : World} {t0 t1 t2 : Ty} {cs0 cs1 cs2 : List Value} (hq0 : RepT K0 w t0 cs0) (hq1 : RepT K1 w t1 cs1) (hq2 : RepT K2 w t2 cs2) :
  Calls Tryz.prog 3 #[.agg cs0.toArray, .agg cs1.toArray, .agg cs2.toArray] w fun e w' => e = .returned (.bool true) ∧ Below w.heap.size w w' := by
 obtain ⟨w1, g0, g1, g2, HW1, HG0, HG1, HG2, hb1, hs1, hx0, hx1, hx2⟩ := box_three_t w cs0 cs1 cs2
 have hr0 := RepT.low _ _ hq0
 obtain ⟨m0, hm0⟩ : ∃ x, x = capN (cntT t0) := ⟨_, rfl⟩
 have hl0 : m0 ≤ 4097 := by rw [hm0]; unfold capN; omega
 obtain ⟨a0, ha0⟩ : ∃ x, x = smpT t0 := ⟨_, rfl⟩
 obtain ⟨f0, hf0⟩ : ∃ x, x = formedT t0 := ⟨_, rfl⟩
 have HT0 := Hd (show f0 = true → a0 = true → GdT t0 ∧ formedT t0 = true from fun h1 h2 => ⟨⟨formed_get (hf0.symm.trans h1), ha0.symm.trans h2⟩, hf0.symm.trans h1⟩)
 have hr1 := RepT.low _ _ hq1
 obtain ⟨m1, hm1⟩ : ∃ x, x = capN (cntT t1) := ⟨_, rfl⟩
 have hl1 : m1 ≤ 4097 := by rw [hm1]; unfold capN; omega
 obtain ⟨a1, ha1⟩ : ∃ x, x = smpT t1 := ⟨_, rfl⟩
 obtain ⟨f1, hf1⟩ : ∃ x, x = formedT t1 := ⟨_, rfl⟩
 have HT1 := Hd (show f1 = true → a1 = true → GdT t1 ∧ formedT t1 = true from fun h1 h2 => ⟨⟨formed_get (hf1.symm.trans h1), ha1.symm.trans h2⟩, hf1.symm.trans h1⟩)
 have hr2 := RepT.low _ _ hq2
 obtain ⟨m2, hm2⟩ : ∃ x, x = capN (cntT t2) := ⟨_, rfl⟩
 have hl2 : m2 ≤ 4097 := by rw [hm2]; unfold capN; omega
 obtain ⟨a2, ha2⟩ : ∃ x, x = smpT t2 := ⟨_, rfl⟩
 obtain ⟨f2, hf2⟩ : ∃ x, x = formedT t2 := ⟨_, rfl⟩
 have HT2 := Hd (show f2 = true → a2 = true → GdT t2 ∧ formedT t2 = true from fun h1 h2 => ⟨⟨formed_get (hf2.symm.trans h1), ha2.symm.trans h2⟩, hf2.symm.trans h1⟩)
 obtain ⟨k0, s0, n0, ps0, fs0, vs0⟩ := t0
 obtain ⟨A0, c0, B0, d0, C0, e0, rfl, -⟩ := hr0.inv
 obtain ⟨k1, s1, n1, ps1, fs1, vs1⟩ := t1
 obtain ⟨A1, c1, B1, d1, C1, e1, rfl, -⟩ := hr1.inv
 obtain ⟨k2, s2, n2, ps2, fs2, vs2⟩ := t2
 obtain ⟨A2, c2, B2, d2, C2, e2, rfl, -⟩ := hr2.inv
 simp only [cells6T] at hr0 hr1 hr2 hx0 hx1 hx2 HW1 ⊢
 have hlow : ∀ wx : World, Below w1.heap.size w1 wx → ∀ x, x < w.heap.size → x < wx.heap.size := fun wx h x hx => Nat.lt_of_lt_of_le hx (Nat.le_trans hb1.size h.size)
 have KN0 : Hid (∀ wx, Below w1.heap.size w1 wx → Calls Tryz.prog 10 #[.agg #[.int .i64 k0, .string s0, .int .i64 n0, .slice A0 ps0.length c0, .slice B0 fs0.length d0, .slice C0 vs0.length e0]] wx fun e w' => e = .returned (.int .i64 (m0 : Nat)) ∧ Below wx.heap.size wx w') := Hd fun wx h => (nod_any _ _ wx _ (hr0.later (hb1.trans (h.mono hb1.size)))).mono fun e w' h => ⟨by rw [hm0]; exact h.1, h.2.below⟩
 have KS0 : Hid (∀ wx, Below w1.heap.size w1 wx → Calls Tryz.prog 11 #[.agg #[.int .i64 k0, .string s0, .int .i64 n0, .slice A0 ps0.length c0, .slice B0 fs0.length d0, .slice C0 vs0.length e0]] wx fun e w' => e = .returned (.bool a0) ∧ Below wx.heap.size wx w') := Hd fun wx h => by rw [ha0]; exact simple_15 _ _ wx _ (hr0.later (hb1.trans (h.mono hb1.size)))
 have KF0 : Hid (∀ wx, Below w1.heap.size w1 wx → Calls Tryz.prog 12 #[.agg #[.int .i64 k0, .string s0, .int .i64 n0, .slice A0 ps0.length c0, .slice B0 fs0.length d0, .slice C0 vs0.length e0]] wx fun e w' => e = .returned (.bool f0) ∧ Below wx.heap.size wx w') := Hd fun wx h => by rw [hf0]; exact formed_ref (hr0.later (hb1.trans (h.mono hb1.size)))
 have KN1 : Hid (∀ wx, Below w1.heap.size w1 wx → Calls Tryz.prog 10 #[.agg #[.int .i64 k1, .string s1, .int .i64 n1, .slice A1 ps1.length c1, .slice B1 fs1.length d1, .slice C1 vs1.length e1]] wx fun e w' => e = .returned (.int .i64 (m1 : Nat)) ∧ Below wx.heap.size wx w') := Hd fun wx h => (nod_any _ _ wx _ (hr1.later (hb1.trans (h.mono hb1.size)))).mono fun e w' h => ⟨by rw [hm1]; exact h.1, h.2.below⟩
 have KS1 : Hid (∀ wx, Below w1.heap.size w1 wx → Calls Tryz.prog 11 #[.agg #[.int .i64 k1, .string s1, .int .i64 n1, .slice A1 ps1.length c1, .slice B1 fs1.length d1, .slice C1 vs1.length e1]] wx fun e w' => e = .returned (.bool a1) ∧ Below wx.heap.size wx w') := Hd fun wx h => by rw [ha1]; exact simple_15 _ _ wx _ (hr1.later (hb1.trans (h.mono hb1.size)))
 have KF1 : Hid (∀ wx, Below w1.heap.size w1 wx → Calls Tryz.prog 12 #[.agg #[.int .i64 k1, .string s1, .int .i64 n1, .slice A1 ps1.length c1, .slice B1 fs1.length d1, .slice C1 vs1.length e1]] wx fun e w' => e = .returned (.bool f1) ∧ Below wx.heap.size wx w') := Hd fun wx h => by rw [hf1]; exact formed_ref (hr1.later (hb1.trans (h.mono hb1.size)))
 have KN2 : Hid (∀ wx, Below w1.heap.size w1 wx → Calls Tryz.prog 10 #[.agg #[.int .i64 k2, .string s2, .int .i64 n2, .slice A2 ps2.length c2, .slice B2 fs2.length d2, .slice C2 vs2.length e2]] wx fun e w' => e = .returned (.int .i64 (m2 : Nat)) ∧ Below wx.heap.size wx w') := Hd fun wx h => (nod_any _ _ wx _ (hr2.later (hb1.trans (h.mono hb1.size)))).mono fun e w' h => ⟨by rw [hm2]; exact h.1, h.2.below⟩
 have KS2 : Hid (∀ wx, Below w1.heap.size w1 wx → Calls Tryz.prog 11 #[.agg #[.int .i64 k2, .string s2, .int .i64 n2, .slice A2 ps2.length c2, .slice B2 fs2.length d2, .slice C2 vs2.length e2]] wx fun e w' => e = .returned (.bool a2) ∧ Below wx.heap.size wx w') := Hd fun wx h => by rw [ha2]; exact simple_15 _ _ wx _ (hr2.later (hb1.trans (h.mono hb1.size)))
 have KF2 : Hid (∀ wx, Below w1.heap.size w1 wx → Calls Tryz.prog 12 #[.agg #[.int .i64 k2, .string s2, .int .i64 n2, .slice A2 ps2.length c2, .slice B2 fs2.length d2, .slice C2 vs2.length e2]] wx fun e w' => e = .returned (.bool f2) ∧ Below wx.heap.size wx w') := Hd fun wx h => by rw [hf2]; exact formed_ref (hr2.later (hb1.trans (h.mono hb1.size)))
 have KT00 : Hid (∀ wx, Below w1.heap.size w1 wx → GdT (.mk k0 s0 n0 ps0 fs0 vs0) ∧ formedT (.mk k0 s0 n0 ps0 fs0 vs0) = true → GdT (.mk k0 s0 n0 ps0 fs0 vs0) ∧ formedT (.mk k0 s0 n0 ps0 fs0 vs0) = true → Calls Tryz.prog 13 #[.agg #[.slice none 0 0, .slice none 0 0, .int .i64 100000], .agg #[.int .i64 k0, .string s0, .int .i64 n0, .slice A0 ps0.length c0, .slice B0 fs0.length d0, .slice C0 vs0.length e0], .agg #[.int .i64 k0, .string s0, .int .i64 n0, .slice A0 ps0.length c0, .slice B0 fs0.length d0, .slice C0 vs0.length e0]] wx (RanPost 100000 wx (DeepT (.mk k0 s0 n0 ps0 fs0 vs0) (.mk k0 s0 n0 ps0 fs0 vs0) ∨ (100000 : Int) < 3) (Fit (.mk k0 s0 n0 ps0 fs0 vs0) (.mk k0 s0 n0 ps0 fs0 vs0)))) := Hd fun wx h p q => Fits_any (hr0.later (hb1.trans (h.mono hb1.size))) (hr0.later (hb1.trans (h.mono hb1.size))) p.1 q.1 p.2 q.2 (hlow wx h) (hlow wx h) (by omega) (by omega)
 have KT01 : Hid (∀ wx, Below w1.heap.size w1 wx → GdT (.mk k0 s0 n0 ps0 fs0 vs0) ∧ formedT (.mk k0 s0 n0 ps0 fs0 vs0) = true → GdT (.mk k1 s1 n1 ps1 fs1 vs1) ∧ formedT (.mk k1 s1 n1 ps1 fs1 vs1) = true → Calls Tryz.prog 13 #[.agg #[.slice none 0 0, .slice none 0 0, .int .i64 100000], .agg #[.int .i64 k0, .string s0, .int .i64 n0, .slice A0 ps0.length c0, .slice B0 fs0.length d0, .slice C0 vs0.length e0], .agg #[.int .i64 k1, .string s1, .int .i64 n1, .slice A1 ps1.length c1, .slice B1 fs1.length d1, .slice C1 vs1.length e1]] wx (RanPost 100000 wx (DeepT (.mk k0 s0 n0 ps0 fs0 vs0) (.mk k1 s1 n1 ps1 fs1 vs1) ∨ (100000 : Int) < 3) (Fit (.mk k0 s0 n0 ps0 fs0 vs0) (.mk k1 s1 n1 ps1 fs1 vs1)))) := Hd fun wx h p q => Fits_any (hr0.later (hb1.trans (h.mono hb1.size))) (hr1.later (hb1.trans (h.mono hb1.size))) p.1 q.1 p.2 q.2 (hlow wx h) (hlow wx h) (by omega) (by omega)
 have KT12 : Hid (∀ wx, Below w1.heap.size w1 wx → GdT (.mk k1 s1 n1 ps1 fs1 vs1) ∧ formedT (.mk k1 s1 n1 ps1 fs1 vs1) = true → GdT (.mk k2 s2 n2 ps2 fs2 vs2) ∧ formedT (.mk k2 s2 n2 ps2 fs2 vs2) = true → Calls Tryz.prog 13 #[.agg #[.slice none 0 0, .slice none 0 0, .int .i64 100000], .agg #[.int .i64 k1, .string s1, .int .i64 n1, .slice A1 ps1.length c1, .slice B1 fs1.length d1, .slice C1 vs1.length e1], .agg #[.int .i64 k2, .string s2, .int .i64 n2, .slice A2 ps2.length c2, .slice B2 fs2.length d2, .slice C2 vs2.length e2]] wx (RanPost 100000 wx (DeepT (.mk k1 s1 n1 ps1 fs1 vs1) (.mk k2 s2 n2 ps2 fs2 vs2) ∨ (100000 : Int) < 3) (Fit (.mk k1 s1 n1 ps1 fs1 vs1) (.mk k2 s2 n2 ps2 fs2 vs2)))) := Hd fun wx h p q => Fits_any (hr1.later (hb1.trans (h.mono hb1.size))) (hr2.later (hb1.trans (h.mono hb1.size))) p.1 q.1 p.2 q.2 (hlow wx h) (hlow wx h) (by omega) (by omega)
 have KT02 : Hid (∀ wx, Below w1.heap.size w1 wx → GdT (.mk k0 s0 n0 ps0 fs0 vs0) ∧ formedT (.mk k0 s0 n0 ps0 fs0 vs0) = true → GdT (.mk k2 s2 n2 ps2 fs2 vs2) ∧ formedT (.mk k2 s2 n2 ps2 fs2 vs2) = true → Calls Tryz.prog 13 #[.agg #[.slice none 0 0, .slice none 0 0, .int .i64 100000], .agg #[.int .i64 k0, .string s0, .int .i64 n0, .slice A0 ps0.length c0, .slice B0 fs0.length d0, .slice C0 vs0.length e0], .agg #[.int .i64 k2, .string s2, .int .i64 n2, .slice A2 ps2.length c2, .slice B2 fs2.length d2, .slice C2 vs2.length e2]] wx (RanPost 100000 wx (DeepT (.mk k0 s0 n0 ps0 fs0 vs0) (.mk k2 s2 n2 ps2 fs2 vs2) ∨ (100000 : Int) < 3) (Fit (.mk k0 s0 n0 ps0 fs0 vs0) (.mk k2 s2 n2 ps2 fs2 vs2)))) := Hd fun wx h p q => Fits_any (hr0.later (hb1.trans (h.mono hb1.size))) (hr2.later (hb1.trans (h.mono hb1.size))) p.1 q.1 p.2 q.2 (hlow wx h) (hlow wx h) (by omega) (by omega)
 have HC : Hid (∀ wx, Below w1.heap.size w1 wx → (wx.cell? ⟨g0, 0, none⟩ = some (.int .i64 k0) ∧ wx.cell? ⟨g0, 1, none⟩ = some (.string s0) ∧ wx.cell? ⟨g0, 2, none⟩ = some (.int .i64 n0) ∧ wx.cell? ⟨g0, 3, none⟩ = some (.slice A0 ps0.length c0) ∧ wx.cell? ⟨g0, 4, none⟩ = some (.slice B0 fs0.length d0) ∧ wx.cell? ⟨g0, 5, none⟩ = some (.slice C0 vs0.length e0)) ∧ (wx.cell? ⟨g1, 0, none⟩ = some (.int .i64 k1) ∧ wx.cell? ⟨g1, 1, none⟩ = some (.string s1) ∧ wx.cell? ⟨g1, 2, none⟩ = some (.int .i64 n1) ∧ wx.cell? ⟨g1, 3, none⟩ = some (.slice A1 ps1.length c1) ∧ wx.cell? ⟨g1, 4, none⟩ = some (.slice B1 fs1.length d1) ∧ wx.cell? ⟨g1, 5, none⟩ = some (.slice C1 vs1.length e1)) ∧ (wx.cell? ⟨g2, 0, none⟩ = some (.int .i64 k2) ∧ wx.cell? ⟨g2, 1, none⟩ = some (.string s2) ∧ wx.cell? ⟨g2, 2, none⟩ = some (.int .i64 n2) ∧ wx.cell? ⟨g2, 3, none⟩ = some (.slice A2 ps2.length c2) ∧ wx.cell? ⟨g2, 4, none⟩ = some (.slice B2 fs2.length d2) ∧ wx.cell? ⟨g2, 5, none⟩ = some (.slice C2 vs2.length e2))) := Hd fun wx h => ⟨cz6 (box_up h (Array.getElem?_eq_some_iff.1 hx0).1 hx0), cz6 (box_up h (Array.getElem?_eq_some_iff.1 hx1).1 hx1), cz6 (box_up h (Array.getElem?_eq_some_iff.1 hx2).1 hx2)⟩
 have HB1 := Hd hb1
 have HBw1 : Hid (Below w1.heap.size w1 w1.drew) := Hd (Below.refl _ _).drew
 replace HW1 := Hd HW1
 replace HG0 := Hd HG0
 replace HG1 := Hd HG1
 replace HG2 := Hd HG2
 obtain ⟨z1, hz1⟩ : ∃ z : Int, z = (m0 : Int) + (m1 : Int) := ⟨_, rfl⟩
 obtain ⟨z2, hz2⟩ : ∃ z : Int, z = z1 + (m2 : Int) := ⟨_, rfl⟩
 have v1 : IntKind.i64.wrap ((m0 : Int) + (m1 : Int)) = z1 := by rw [← hz1]; exact wrap_kd (by omega) (by omega)
 have v2 : IntKind.i64.wrap (z1 + (m2 : Int)) = z2 := by rw [← hz2]; exact wrap_kd (by omega) (by omega)
 clear hz1 hz2 hl0 hl1 hl2 hq0 hq1 hq2 hr0 hr1 hr2 hb1 hs1 hx0 hx1 hx2 hlow hm0 hm1 hm2 ha0 ha1 ha2 hf0 hf1 hf2
 go_enter Tryz.func3, Tryz.ntmps3
 go_upto_region 1 with fail
 rw [HW1.out, HG0.out, HG1.out, HG2.out]
 by_cases hN : 60 < z2
 ·have t1 : decide (60 < z2) = true := decide_eq_true hN
  refine wp_region_held_drew (S := (fun w' => (w'.cell? ⟨g0, 0, none⟩ = some (.int .i64 k0) ∧ w'.cell? ⟨g0, 1, none⟩ = some (.string s0) ∧ w'.cell? ⟨g0, 2, none⟩ = some (.int .i64 n0) ∧ w'.cell? ⟨g0, 3, none⟩ = some (.slice A0 ps0.length c0) ∧ w'.cell? ⟨g0, 4, none⟩ = some (.slice B0 fs0.length d0) ∧ w'.cell? ⟨g0, 5, none⟩ = some (.slice C0 vs0.length e0)) ∧ (w'.cell? ⟨g1, 0, none⟩ = some (.int .i64 k1) ∧ w'.cell? ⟨g1, 1, none⟩ = some (.string s1) ∧ w'.cell? ⟨g1, 2, none⟩ = some (.int .i64 n1) ∧ w'.cell? ⟨g1, 3, none⟩ = some (.slice A1 ps1.length c1) ∧ w'.cell? ⟨g1, 4, none⟩ = some (.slice B1 fs1.length d1) ∧ w'.cell? ⟨g1, 5, none⟩ = some (.slice C1 vs1.length e1)) ∧ (w'.cell? ⟨g2, 0, none⟩ = some (.int .i64 k2) ∧ w'.cell? ⟨g2, 1, none⟩ = some (.string s2) ∧ w'.cell? ⟨g2, 2, none⟩ = some (.int .i64 n2) ∧ w'.cell? ⟨g2, 3, none⟩ = some (.slice A2 ps2.length c2) ∧ w'.cell? ⟨g2, 4, none⟩ = some (.slice B2 fs2.length d2) ∧ w'.cell? ⟨g2, 5, none⟩ = some (.slice C2 vs2.length e2)))) (by kernel_rfl) (HC.out _ HBw1.out) (fun hHeld => ?_)
  refine wpAnyH_ready (rs := [0]) (by kernel_rfl) (by simp) ?_
  refine AllReadyH.cons (sd (some 20) rfl) (fun Kx hK => ?_) AllReadyH.nil
  go_simp
  refine (awake15 w1.drew).mono ?_
  rintro e5 wb ⟨rfl, hb5⟩
  have HBwb : Hid (Below w1.heap.size w1 wb) := Hd (HBw1.out.trans (hb5.mono HBw1.out.size))
  clear hb5
  go_wp2_with fail
  refine hK.out _ _ (HC.out _ HBwb.out) (fun hHeld => ?_)
  clear hK Kx
  try simp only [Act.put, pz1, pz2, pz3]
  refine Plan.start [1, 2, 3, 5, 8] ?_
  iterate 5 (refine Plan.tk (so rfl) hHeld ?_; try simp only [Act.put, pz1, pz2, pz3])
  refine Plan.done ?_
  refine wpAnyH_ready (rs := [4]) (by kernel_rfl) (by simp) ?_
  refine AllReadyH.cons (sd (some 24) rfl) (fun Kx hK => ?_) AllReadyH.nil
  go_simp
  refine (KN0.out _ HBwb.out).mono ?_
  rintro e5 wc ⟨rfl, hb5⟩
  have HBwc : Hid (Below w1.heap.size w1 wc) := Hd (HBwb.out.trans (hb5.mono HBwb.out.size))
  clear hb5
  go_wp2_with fail
  refine hK.out _ _ (HC.out _ HBwc.out) (fun hHeld => ?_)
  clear hK Kx
  try simp only [Act.put, pz1, pz2, pz3]
  refine wpAnyH_ready (rs := [6]) (by kernel_rfl) (by simp) ?_
  refine AllReadyH.cons (sd (some 26) rfl) (fun Kx hK => ?_) AllReadyH.nil
  go_simp
  refine (KN1.out _ HBwc.out).mono ?_
  rintro e5 wd ⟨rfl, hb5⟩
  have HBwd : Hid (Below w1.heap.size w1 wd) := Hd (HBwc.out.trans (hb5.mono HBwc.out.size))
  clear hb5
  go_wp2_with fail
  refine hK.out _ _ (HC.out _ HBwd.out) (fun hHeld => ?_)
  clear hK Kx
  try simp only [Act.put, pz1, pz2, pz3]
  refine Plan.start [7] ?_
  refine Plan.tk (so rfl) hHeld ?_
  try simp only [Act.put, pz1, pz2, pz3]
  refine Plan.done ?_
  refine wpAnyH_ready (rs := [9]) (by kernel_rfl) (by simp) ?_
  refine AllReadyH.cons (sd (some 29) rfl) (fun Kx hK => ?_) AllReadyH.nil
  go_simp
  refine (KN2.out _ HBwd.out).mono ?_
  rintro e5 we ⟨rfl, hb5⟩
  have HBwe : Hid (Below w1.heap.size w1 we) := Hd (HBwd.out.trans (hb5.mono HBwd.out.size))
  clear hb5
  go_wp2_with fail
  refine hK.out _ _ (HC.out _ HBwe.out) (fun hHeld => ?_)
  clear hK Kx
  try simp only [Act.put, pz1, pz2, pz3]
  refine Plan.start [10, 11, 12, 13] ?_
  iterate 4 (refine Plan.tk (so rfl) hHeld ?_; try simp only [Act.put, pz1, pz2, pz3])
  refine Plan.done ?_
  refine Plan.start [14, 15, 16] ?_
  iterate 3 (refine Plan.take (v := undef) (so rfl) (by kernel_rfl) (by kernel_rfl) (by kernel_rfl) (fun _ _ _ h => h) (Or.inr ⟨by rfl, rfl⟩) hHeld ?_; try simp only [Act.put, pz1, pz2, pz3])
  refine Plan.done ?_
  refine Plan.start [17, 18] ?_
  iterate 2 (refine Plan.tk (so rfl) hHeld ?_; try simp only [Act.put, pz1, pz2, pz3])
  refine Plan.done ?_
  refine Plan.start [19, 20, 21] ?_
  iterate 3 (refine Plan.take (v := undef) (so rfl) (by kernel_rfl) (by kernel_rfl) (by kernel_rfl) (fun _ _ _ h => h) (Or.inr ⟨by rfl, rfl⟩) hHeld ?_; try simp only [Act.put, pz1, pz2, pz3])
  refine Plan.done ?_
  refine Plan.start [22, 23] ?_
  iterate 2 (refine Plan.tk (so rfl) hHeld ?_; try simp only [Act.put, pz1, pz2, pz3])
  refine Plan.done ?_
  refine Plan.start [24, 25, 26] ?_
  iterate 3 (refine Plan.take (v := undef) (so rfl) (by kernel_rfl) (by kernel_rfl) (by kernel_rfl) (fun _ _ _ h => h) (Or.inr ⟨by rfl, rfl⟩) hHeld ?_; try simp only [Act.put, pz1, pz2, pz3])
  refine Plan.done ?_
  refine Plan.start [27, 28] ?_
  iterate 2 (refine Plan.tk (so rfl) hHeld ?_; try simp only [Act.put, pz1, pz2, pz3])
  refine Plan.done ?_
  refine Plan.start [29, 30, 31] ?_
  iterate 3 (refine Plan.take (v := undef) (so rfl) (by kernel_rfl) (by kernel_rfl) (by kernel_rfl) (fun _ _ _ h => h) (Or.inr ⟨by rfl, rfl⟩) hHeld ?_; try simp only [Act.put, pz1, pz2, pz3])
  refine Plan.done ?_
  refine Plan.start [32, 33] ?_
  iterate 2 (refine Plan.tk (so rfl) hHeld ?_; try simp only [Act.put, pz1, pz2, pz3])
  refine Plan.done ?_
  refine Plan.start [34, 35, 36] ?_
  iterate 3 (refine Plan.take (v := undef) (so rfl) (by kernel_rfl) (by kernel_rfl) (by kernel_rfl) (fun _ _ _ h => h) (Or.inr ⟨by rfl, rfl⟩) hHeld ?_; try simp only [Act.put, pz1, pz2, pz3])
  refine Plan.done ?_
  refine Plan.start [37, 38] ?_
  iterate 2 (refine Plan.tk (so rfl) hHeld ?_; try simp only [Act.put, pz1, pz2, pz3])
  refine Plan.done ?_
  refine Plan.start [39, 40, 41] ?_
  iterate 3 (refine Plan.take (v := undef) (so rfl) (by kernel_rfl) (by kernel_rfl) (by kernel_rfl) (fun _ _ _ h => h) (Or.inr ⟨by rfl, rfl⟩) hHeld ?_; try simp only [Act.put, pz1, pz2, pz3])
  refine Plan.done ?_
  refine Plan.start [42] ?_
  refine Plan.tk (so rfl) hHeld ?_
  try simp only [Act.put, pz1, pz2, pz3]
  refine Plan.done ?_
  refine wpAnyH_done (by kernel_rfl) ?_ _
  clear hHeld
  go_wp2_with fail
  refine (awake15 we).mono ?_
  rintro e9 w9 ⟨rfl, hb9⟩
  have HB9 : Hid (Below w.heap.size w w9) := Hd (HB1.out.trans ((HBwe.out.trans (hb9.mono HBwe.out.size)).mono HB1.out.size))
  clear hb9
  go_wp2_with fail
  go_ret
  exact ⟨rfl, HB9.out⟩
 ·have t1 : decide (60 < z2) = false := decide_eq_false hN
  refine wp_region_held_drew (S := (fun w' => (w'.cell? ⟨g0, 0, none⟩ = some (.int .i64 k0) ∧ w'.cell? ⟨g0, 1, none⟩ = some (.string s0) ∧ w'.cell? ⟨g0, 2, none⟩ = some (.int .i64 n0) ∧ w'.cell? ⟨g0, 3, none⟩ = some (.slice A0 ps0.length c0) ∧ w'.cell? ⟨g0, 4, none⟩ = some (.slice B0 fs0.length d0) ∧ w'.cell? ⟨g0, 5, none⟩ = some (.slice C0 vs0.length e0)) ∧ (w'.cell? ⟨g1, 0, none⟩ = some (.int .i64 k1) ∧ w'.cell? ⟨g1, 1, none⟩ = some (.string s1) ∧ w'.cell? ⟨g1, 2, none⟩ = some (.int .i64 n1) ∧ w'.cell? ⟨g1, 3, none⟩ = some (.slice A1 ps1.length c1) ∧ w'.cell? ⟨g1, 4, none⟩ = some (.slice B1 fs1.length d1) ∧ w'.cell? ⟨g1, 5, none⟩ = some (.slice C1 vs1.length e1)) ∧ (w'.cell? ⟨g2, 0, none⟩ = some (.int .i64 k2) ∧ w'.cell? ⟨g2, 1, none⟩ = some (.string s2) ∧ w'.cell? ⟨g2, 2, none⟩ = some (.int .i64 n2) ∧ w'.cell? ⟨g2, 3, none⟩ = some (.slice A2 ps2.length c2) ∧ w'.cell? ⟨g2, 4, none⟩ = some (.slice B2 fs2.length d2) ∧ w'.cell? ⟨g2, 5, none⟩ = some (.slice C2 vs2.length e2)))) (by kernel_rfl) (HC.out _ HBw1.out) (fun hHeld => ?_)
  refine wpAnyH_ready (rs := [0]) (by kernel_rfl) (by simp) ?_
  refine AllReadyH.cons (sd (some 20) rfl) (fun Kx hK => ?_) AllReadyH.nil
  go_simp
  refine (awake15 w1.drew).mono ?_
  rintro e5 wb ⟨rfl, hb5⟩
  have HBwb : Hid (Below w1.heap.size w1 wb) := Hd (HBw1.out.trans (hb5.mono HBw1.out.size))
  clear hb5
  go_wp2_with fail
  refine hK.out _ _ (HC.out _ HBwb.out) (fun hHeld => ?_)
  clear hK Kx
  try simp only [Act.put, pz1, pz2, pz3]
  refine Plan.start [1, 2, 3, 5, 8] ?_
  iterate 5 (refine Plan.tk (so rfl) hHeld ?_; try simp only [Act.put, pz1, pz2, pz3])
  refine Plan.done ?_
  refine wpAnyH_ready (rs := [4]) (by kernel_rfl) (by simp) ?_
  refine AllReadyH.cons (sd (some 24) rfl) (fun Kx hK => ?_) AllReadyH.nil
  go_simp
  refine (KN0.out _ HBwb.out).mono ?_
  rintro e5 wc ⟨rfl, hb5⟩
  have HBwc : Hid (Below w1.heap.size w1 wc) := Hd (HBwb.out.trans (hb5.mono HBwb.out.size))
  clear hb5
  go_wp2_with fail
  refine hK.out _ _ (HC.out _ HBwc.out) (fun hHeld => ?_)
  clear hK Kx
  try simp only [Act.put, pz1, pz2, pz3]
  refine wpAnyH_ready (rs := [6]) (by kernel_rfl) (by simp) ?_
  refine AllReadyH.cons (sd (some 26) rfl) (fun Kx hK => ?_) AllReadyH.nil
  go_simp
  refine (KN1.out _ HBwc.out).mono ?_
  rintro e5 wd ⟨rfl, hb5⟩
  have HBwd : Hid (Below w1.heap.size w1 wd) := Hd (HBwc.out.trans (hb5.mono HBwc.out.size))
  clear hb5
  go_wp2_with fail
  refine hK.out _ _ (HC.out _ HBwd.out) (fun hHeld => ?_)
  clear hK Kx
  try simp only [Act.put, pz1, pz2, pz3]
  refine Plan.start [7] ?_
  refine Plan.tk (so rfl) hHeld ?_
  try simp only [Act.put, pz1, pz2, pz3]
  refine Plan.done ?_
  refine wpAnyH_ready (rs := [9]) (by kernel_rfl) (by simp) ?_
  refine AllReadyH.cons (sd (some 29) rfl) (fun Kx hK => ?_) AllReadyH.nil
  go_simp
  refine (KN2.out _ HBwd.out).mono ?_
  rintro e5 we ⟨rfl, hb5⟩
  have HBwe : Hid (Below w1.heap.size w1 we) := Hd (HBwd.out.trans (hb5.mono HBwd.out.size))
  clear hb5
  go_wp2_with fail
  refine hK.out _ _ (HC.out _ HBwe.out) (fun hHeld => ?_)
  clear hK Kx
  try simp only [Act.put, pz1, pz2, pz3]
  refine Plan.start [10, 11, 12, 13, 14] ?_
  iterate 5 (refine Plan.tk (so rfl) hHeld ?_; try simp only [Act.put, pz1, pz2, pz3])
  refine Plan.done ?_
  refine wpAnyH_ready (rs := [15]) (by kernel_rfl) (by simp) ?_
  refine AllReadyH.cons (sd (some 35) rfl) (fun Kx hK => ?_) AllReadyH.nil
  go_simp
  refine (KS0.out _ HBwe.out).mono ?_
  rintro e5 wf ⟨rfl, hb5⟩
  have HBwf : Hid (Below w1.heap.size w1 wf) := Hd (HBwe.out.trans (hb5.mono HBwe.out.size))
  clear hb5
  cases a0 with
  | false =>
   go_wp2_with fail
   refine hK.out _ _ (HC.out _ HBwf.out) (fun hHeld => ?_)
   clear hK Kx
   try simp only [Act.put, pz1, pz2, pz3]
   refine Plan.start [16, 17, 18] ?_
   iterate 3 (refine Plan.tk (so rfl) hHeld ?_; try simp only [Act.put, pz1, pz2, pz3])
   refine Plan.done ?_
   refine Plan.start [19, 20, 21] ?_
   iterate 3 (refine Plan.take (v := undef) (so rfl) (by kernel_rfl) (by kernel_rfl) (by kernel_rfl) (fun _ _ _ h => h) (Or.inr ⟨by rfl, rfl⟩) hHeld ?_; try simp only [Act.put, pz1, pz2, pz3])
   refine Plan.done ?_
   refine Plan.start [22, 23] ?_
   iterate 2 (refine Plan.tk (so rfl) hHeld ?_; try simp only [Act.put, pz1, pz2, pz3])
   refine Plan.done ?_
   refine Plan.start [24, 25, 26] ?_
   iterate 3 (refine Plan.take (v := undef) (so rfl) (by kernel_rfl) (by kernel_rfl) (by kernel_rfl) (fun _ _ _ h => h) (Or.inr ⟨by rfl, rfl⟩) hHeld ?_; try simp only [Act.put, pz1, pz2, pz3])
   refine Plan.done ?_
   refine Plan.start [27, 28] ?_
   iterate 2 (refine Plan.tk (so rfl) hHeld ?_; try simp only [Act.put, pz1, pz2, pz3])
   refine Plan.done ?_
   refine Plan.start [29, 30, 31] ?_
   iterate 3 (refine Plan.take (v := undef) (so rfl) (by kernel_rfl) (by kernel_rfl) (by kernel_rfl) (fun _ _ _ h => h) (Or.inr ⟨by rfl, rfl⟩) hHeld ?_; try simp only [Act.put, pz1, pz2, pz3])
   refine Plan.done ?_
   refine Plan.start [32, 33] ?_
   iterate 2 (refine Plan.tk (so rfl) hHeld ?_; try simp only [Act.put, pz1, pz2, pz3])
   refine Plan.done ?_
   refine Plan.start [34, 35, 36] ?_
   iterate 3 (refine Plan.take (v := undef) (so rfl) (by kernel_rfl) (by kernel_rfl) (by kernel_rfl) (fun _ _ _ h => h) (Or.inr ⟨by rfl, rfl⟩) hHeld ?_; try simp only [Act.put, pz1, pz2, pz3])
   refine Plan.done ?_
   refine Plan.start [37, 38] ?_
   iterate 2 (refine Plan.tk (so rfl) hHeld ?_; try simp only [Act.put, pz1, pz2, pz3])
   refine Plan.done ?_
   refine Plan.start [39, 40, 41] ?_
   iterate 3 (refine Plan.take (v := undef) (so rfl) (by kernel_rfl) (by kernel_rfl) (by kernel_rfl) (fun _ _ _ h => h) (Or.inr ⟨by rfl, rfl⟩) hHeld ?_; try simp only [Act.put, pz1, pz2, pz3])
   refine Plan.done ?_
   refine Plan.start [42] ?_
   refine Plan.tk (so rfl) hHeld ?_
   try simp only [Act.put, pz1, pz2, pz3]
   refine Plan.done ?_
   refine wpAnyH_done (by kernel_rfl) ?_ _
   clear hHeld
   go_wp2_with fail
   refine (awake15 wf).mono ?_
   rintro e9 w9 ⟨rfl, hb9⟩
   have HB9 : Hid (Below w.heap.size w w9) := Hd (HB1.out.trans ((HBwf.out.trans (hb9.mono HBwf.out.size)).mono HB1.out.size))
   clear hb9
   go_wp2_with fail
   go_ret
   exact ⟨rfl, HB9.out⟩
  | true =>
   go_wp2_with fail
   refine hK.out _ _ (HC.out _ HBwf.out) (fun hHeld => ?_)
   clear hK Kx
   try simp only [Act.put, pz1, pz2, pz3]
   refine Plan.start [16, 17, 18, 19] ?_
   iterate 4 (refine Plan.tk (so rfl) hHeld ?_; try simp only [Act.put, pz1, pz2, pz3])
   refine Plan.done ?_
   refine wpAnyH_ready (rs := [20]) (by kernel_rfl) (by simp) ?_
   refine AllReadyH.cons (sd (some 40) rfl) (fun Kx hK => ?_) AllReadyH.nil
   go_simp
   refine (KS1.out _ HBwf.out).mono ?_
   rintro e5 wg ⟨rfl, hb5⟩
   have HBwg : Hid (Below w1.heap.size w1 wg) := Hd (HBwf.out.trans (hb5.mono HBwf.out.size))
   clear hb5
   cases a1 with
   | false =>
    go_wp2_with fail
    refine hK.out _ _ (HC.out _ HBwg.out) (fun hHeld => ?_)
    clear hK Kx
    try simp only [Act.put, pz1, pz2, pz3]
    refine Plan.start [21, 22, 23] ?_
    iterate 3 (refine Plan.tk (so rfl) hHeld ?_; try simp only [Act.put, pz1, pz2, pz3])
    refine Plan.done ?_
    refine Plan.start [24, 25, 26] ?_
    iterate 3 (refine Plan.take (v := undef) (so rfl) (by kernel_rfl) (by kernel_rfl) (by kernel_rfl) (fun _ _ _ h => h) (Or.inr ⟨by rfl, rfl⟩) hHeld ?_; try simp only [Act.put, pz1, pz2, pz3])
    refine Plan.done ?_
    refine Plan.start [27, 28] ?_
    iterate 2 (refine Plan.tk (so rfl) hHeld ?_; try simp only [Act.put, pz1, pz2, pz3])
    refine Plan.done ?_
    refine Plan.start [29, 30, 31] ?_
    iterate 3 (refine Plan.take (v := undef) (so rfl) (by kernel_rfl) (by kernel_rfl) (by kernel_rfl) (fun _ _ _ h => h) (Or.inr ⟨by rfl, rfl⟩) hHeld ?_; try simp only [Act.put, pz1, pz2, pz3])
    refine Plan.done ?_
    refine Plan.start [32, 33] ?_
    iterate 2 (refine Plan.tk (so rfl) hHeld ?_; try simp only [Act.put, pz1, pz2, pz3])
    refine Plan.done ?_
    refine Plan.start [34, 35, 36] ?_
    iterate 3 (refine Plan.take (v := undef) (so rfl) (by kernel_rfl) (by kernel_rfl) (by kernel_rfl) (fun _ _ _ h => h) (Or.inr ⟨by rfl, rfl⟩) hHeld ?_; try simp only [Act.put, pz1, pz2, pz3])
    refine Plan.done ?_
    refine Plan.start [37, 38] ?_
    iterate 2 (refine Plan.tk (so rfl) hHeld ?_; try simp only [Act.put, pz1, pz2, pz3])
    refine Plan.done ?_
    refine Plan.start [39, 40, 41] ?_
    iterate 3 (refine Plan.take (v := undef) (so rfl) (by kernel_rfl) (by kernel_rfl) (by kernel_rfl) (fun _ _ _ h => h) (Or.inr ⟨by rfl, rfl⟩) hHeld ?_; try simp only [Act.put, pz1, pz2, pz3])
    refine Plan.done ?_
    refine Plan.start [42] ?_
    refine Plan.tk (so rfl) hHeld ?_
    try simp only [Act.put, pz1, pz2, pz3]
    refine Plan.done ?_
    refine wpAnyH_done (by kernel_rfl) ?_ _
    clear hHeld
    go_wp2_with fail
    refine (awake15 wg).mono ?_
    rintro e9 w9 ⟨rfl, hb9⟩
    have HB9 : Hid (Below w.heap.size w w9) := Hd (HB1.out.trans ((HBwg.out.trans (hb9.mono HBwg.out.size)).mono HB1.out.size))
    clear hb9
    go_wp2_with fail
    go_ret
    exact ⟨rfl, HB9.out⟩
   | true =>
    go_wp2_with fail
    refine hK.out _ _ (HC.out _ HBwg.out) (fun hHeld => ?_)
    clear hK Kx
    try simp only [Act.put, pz1, pz2, pz3]
    refine Plan.start [21, 22, 23, 24] ?_
    iterate 4 (refine Plan.tk (so rfl) hHeld ?_; try simp only [Act.put, pz1, pz2, pz3])
    refine Plan.done ?_
    refine wpAnyH_ready (rs := [25]) (by kernel_rfl) (by simp) ?_
    refine AllReadyH.cons (sd (some 45) rfl) (fun Kx hK => ?_) AllReadyH.nil
    go_simp
    refine (KS2.out _ HBwg.out).mono ?_
    rintro e5 wh ⟨rfl, hb5⟩
    have HBwh : Hid (Below w1.heap.size w1 wh) := Hd (HBwg.out.trans (hb5.mono HBwg.out.size))
    clear hb5
    cases a2 with
    | false =>
     go_wp2_with fail
     refine hK.out _ _ (HC.out _ HBwh.out) (fun hHeld => ?_)
     clear hK Kx
     try simp only [Act.put, pz1, pz2, pz3]
     refine Plan.start [26, 27, 28] ?_
     iterate 3 (refine Plan.tk (so rfl) hHeld ?_; try simp only [Act.put, pz1, pz2, pz3])
     refine Plan.done ?_
     refine Plan.start [29, 30, 31] ?_
     iterate 3 (refine Plan.take (v := undef) (so rfl) (by kernel_rfl) (by kernel_rfl) (by kernel_rfl) (fun _ _ _ h => h) (Or.inr ⟨by rfl, rfl⟩) hHeld ?_; try simp only [Act.put, pz1, pz2, pz3])
     refine Plan.done ?_
     refine Plan.start [32, 33] ?_
     iterate 2 (refine Plan.tk (so rfl) hHeld ?_; try simp only [Act.put, pz1, pz2, pz3])
     refine Plan.done ?_
     refine Plan.start [34, 35, 36] ?_
     iterate 3 (refine Plan.take (v := undef) (so rfl) (by kernel_rfl) (by kernel_rfl) (by kernel_rfl) (fun _ _ _ h => h) (Or.inr ⟨by rfl, rfl⟩) hHeld ?_; try simp only [Act.put, pz1, pz2, pz3])
     refine Plan.done ?_
     refine Plan.start [37, 38] ?_
     iterate 2 (refine Plan.tk (so rfl) hHeld ?_; try simp only [Act.put, pz1, pz2, pz3])
     refine Plan.done ?_
     refine Plan.start [39, 40, 41] ?_
     iterate 3 (refine Plan.take (v := undef) (so rfl) (by kernel_rfl) (by kernel_rfl) (by kernel_rfl) (fun _ _ _ h => h) (Or.inr ⟨by rfl, rfl⟩) hHeld ?_; try simp only [Act.put, pz1, pz2, pz3])
     refine Plan.done ?_
     refine Plan.start [42] ?_
     refine Plan.tk (so rfl) hHeld ?_
     try simp only [Act.put, pz1, pz2, pz3]
     refine Plan.done ?_
     refine wpAnyH_done (by kernel_rfl) ?_ _
     clear hHeld
     go_wp2_with fail
     refine (awake15 wh).mono ?_
     rintro e9 w9 ⟨rfl, hb9⟩
     have HB9 : Hid (Below w.heap.size w w9) := Hd (HB1.out.trans ((HBwh.out.trans (hb9.mono HBwh.out.size)).mono HB1.out.size))
     clear hb9
     go_wp2_with fail
     go_ret
     exact ⟨rfl, HB9.out⟩
    | true =>
     go_wp2_with fail
     refine hK.out _ _ (HC.out _ HBwh.out) (fun hHeld => ?_)
     clear hK Kx
     try simp only [Act.put, pz1, pz2, pz3]
     refine Plan.start [26, 27, 28, 29] ?_
     iterate 4 (refine Plan.tk (so rfl) hHeld ?_; try simp only [Act.put, pz1, pz2, pz3])
     refine Plan.done ?_
     refine wpAnyH_ready (rs := [30]) (by kernel_rfl) (by simp) ?_
     refine AllReadyH.cons (sd (some 50) rfl) (fun Kx hK => ?_) AllReadyH.nil
     go_simp
     refine (KF0.out _ HBwh.out).mono ?_
     rintro e5 wi ⟨rfl, hb5⟩
     have HBwi : Hid (Below w1.heap.size w1 wi) := Hd (HBwh.out.trans (hb5.mono HBwh.out.size))
     clear hb5
     cases f0 with
     | false =>
      go_wp2_with fail
      refine hK.out _ _ (HC.out _ HBwi.out) (fun hHeld => ?_)
      clear hK Kx
      try simp only [Act.put, pz1, pz2, pz3]
      refine Plan.start [31, 32, 33] ?_
      iterate 3 (refine Plan.tk (so rfl) hHeld ?_; try simp only [Act.put, pz1, pz2, pz3])
      refine Plan.done ?_
      refine Plan.start [34, 35, 36] ?_
      iterate 3 (refine Plan.take (v := undef) (so rfl) (by kernel_rfl) (by kernel_rfl) (by kernel_rfl) (fun _ _ _ h => h) (Or.inr ⟨by rfl, rfl⟩) hHeld ?_; try simp only [Act.put, pz1, pz2, pz3])
      refine Plan.done ?_
      refine Plan.start [37, 38] ?_
      iterate 2 (refine Plan.tk (so rfl) hHeld ?_; try simp only [Act.put, pz1, pz2, pz3])
      refine Plan.done ?_
      refine Plan.start [39, 40, 41] ?_
      iterate 3 (refine Plan.take (v := undef) (so rfl) (by kernel_rfl) (by kernel_rfl) (by kernel_rfl) (fun _ _ _ h => h) (Or.inr ⟨by rfl, rfl⟩) hHeld ?_; try simp only [Act.put, pz1, pz2, pz3])
      refine Plan.done ?_
      refine Plan.start [42] ?_
      refine Plan.tk (so rfl) hHeld ?_
      try simp only [Act.put, pz1, pz2, pz3]
      refine Plan.done ?_
      refine wpAnyH_done (by kernel_rfl) ?_ _
      clear hHeld
      go_wp2_with fail
      refine (awake15 wi).mono ?_
      rintro e9 w9 ⟨rfl, hb9⟩
      have HB9 : Hid (Below w.heap.size w w9) := Hd (HB1.out.trans ((HBwi.out.trans (hb9.mono HBwi.out.size)).mono HB1.out.size))
      clear hb9
      go_wp2_with fail
      go_ret
      exact ⟨rfl, HB9.out⟩
     | true =>
      go_wp2_with fail
      refine hK.out _ _ (HC.out _ HBwi.out) (fun hHeld => ?_)
      clear hK Kx
      try simp only [Act.put, pz1, pz2, pz3]
      refine Plan.start [31, 32, 33, 34] ?_
      iterate 4 (refine Plan.tk (so rfl) hHeld ?_; try simp only [Act.put, pz1, pz2, pz3])
      refine Plan.done ?_
      refine wpAnyH_ready (rs := [35]) (by kernel_rfl) (by simp) ?_
      refine AllReadyH.cons (sd (some 55) rfl) (fun Kx hK => ?_) AllReadyH.nil
      go_simp
      refine (KF1.out _ HBwi.out).mono ?_
      rintro e5 wj ⟨rfl, hb5⟩
      have HBwj : Hid (Below w1.heap.size w1 wj) := Hd (HBwi.out.trans (hb5.mono HBwi.out.size))
      clear hb5
      cases f1 with
      | false =>
       go_wp2_with fail
       refine hK.out _ _ (HC.out _ HBwj.out) (fun hHeld => ?_)
       clear hK Kx
       try simp only [Act.put, pz1, pz2, pz3]
       refine Plan.start [36, 37, 38] ?_
       iterate 3 (refine Plan.tk (so rfl) hHeld ?_; try simp only [Act.put, pz1, pz2, pz3])
       refine Plan.done ?_
       refine Plan.start [39, 40, 41] ?_
       iterate 3 (refine Plan.take (v := undef) (so rfl) (by kernel_rfl) (by kernel_rfl) (by kernel_rfl) (fun _ _ _ h => h) (Or.inr ⟨by rfl, rfl⟩) hHeld ?_; try simp only [Act.put, pz1, pz2, pz3])
       refine Plan.done ?_
       refine Plan.start [42] ?_
       refine Plan.tk (so rfl) hHeld ?_
       try simp only [Act.put, pz1, pz2, pz3]
       refine Plan.done ?_
       refine wpAnyH_done (by kernel_rfl) ?_ _
       clear hHeld
       go_wp2_with fail
       refine (awake15 wj).mono ?_
       rintro e9 w9 ⟨rfl, hb9⟩
       have HB9 : Hid (Below w.heap.size w w9) := Hd (HB1.out.trans ((HBwj.out.trans (hb9.mono HBwj.out.size)).mono HB1.out.size))
       clear hb9
       go_wp2_with fail
       go_ret
       exact ⟨rfl, HB9.out⟩
      | true =>
       go_wp2_with fail
       refine hK.out _ _ (HC.out _ HBwj.out) (fun hHeld => ?_)
       clear hK Kx
       try simp only [Act.put, pz1, pz2, pz3]
       refine Plan.start [36, 37, 38, 39] ?_
       iterate 4 (refine Plan.tk (so rfl) hHeld ?_; try simp only [Act.put, pz1, pz2, pz3])
       refine Plan.done ?_
       refine wpAnyH_ready (rs := [40]) (by kernel_rfl) (by simp) ?_
       refine AllReadyH.cons (sd (some 60) rfl) (fun Kx hK => ?_) AllReadyH.nil
       go_simp
       refine (KF2.out _ HBwj.out).mono ?_
       rintro e5 wk ⟨rfl, hb5⟩
       have HBwk : Hid (Below w1.heap.size w1 wk) := Hd (HBwj.out.trans (hb5.mono HBwj.out.size))
       clear hb5
       cases f2 with
       | false =>
        go_wp2_with fail
        refine hK.out _ _ (HC.out _ HBwk.out) (fun hHeld => ?_)
        clear hK Kx
        try simp only [Act.put, pz1, pz2, pz3]
        refine Plan.start [41, 42] ?_
        iterate 2 (refine Plan.tk (so rfl) hHeld ?_; try simp only [Act.put, pz1, pz2, pz3])
        refine Plan.done ?_
        refine wpAnyH_done (by kernel_rfl) ?_ _
        clear hHeld
        go_wp2_with fail
        refine (awake15 wk).mono ?_
        rintro e9 w9 ⟨rfl, hb9⟩
        have HB9 : Hid (Below w.heap.size w w9) := Hd (HB1.out.trans ((HBwk.out.trans (hb9.mono HBwk.out.size)).mono HB1.out.size))
        clear hb9
        go_wp2_with fail
        go_ret
        exact ⟨rfl, HB9.out⟩
       | true =>
        go_wp2_with fail
        refine hK.out _ _ (HC.out _ HBwk.out) (fun hHeld => ?_)
        clear hK Kx
        try simp only [Act.put, pz1, pz2, pz3]
        refine Plan.start [41, 42] ?_
        iterate 2 (refine Plan.tk (so rfl) hHeld ?_; try simp only [Act.put, pz1, pz2, pz3])
        refine Plan.done ?_
        refine wpAnyH_done (by kernel_rfl) ?_ _
        clear hHeld
        have G0 := Hd (HT0.out (by trivial) (by trivial))
        have G1 := Hd (HT1.out (by trivial) (by trivial))
        have G2 := Hd (HT2.out (by trivial) (by trivial))
        obtain ⟨wa, hwa⟩ : ∃ x, x = wk.alloc (.cells #[.slice none 0 0, .slice none 0 0, .int .i64 100000] 32) := ⟨_, rfl⟩
        obtain ⟨gw, hgw⟩ : ∃ x, x = wk.heap.size := ⟨_, rfl⟩
        have hba : Below wk.heap.size wk wa := by rw [hwa]; exact (Below.refl _ _).alloc (Nat.le_refl _) _
        have hxa : wa.heap[gw]? = some (.cells #[.slice none 0 0, .slice none 0 0, .int .i64 100000] 32 (0, 0)) := by rw [hwa, hgw]; exact heap_alloc_new wk _
        have HCA : Hid (∀ wx, Below wa.heap.size wa wx → wx.cell? ⟨gw, 0, none⟩ = some (.slice none 0 0) ∧ wx.cell? ⟨gw, 1, none⟩ = some (.slice none 0 0) ∧ wx.cell? ⟨gw, 2, none⟩ = some (.int .i64 100000)) := Hd fun wx h => by
         have e := box_up h (Array.getElem?_eq_some_iff.1 hxa).1 hxa
         exact ⟨Ch e 0, Ch e 1, Ch e 2⟩
        have HBwa : Hid (Below w1.heap.size w1 wa) := Hd (HBwk.out.trans (hba.mono HBwk.out.size))
        have HAwa : Hid (Below wa.heap.size wa wa) := Hd (Below.refl _ _)
        have HWA := Hd hwa
        have HGW := Hd hgw
        clear hwa hgw hba hxa v1 v2 t1
        go_upto_region 4 with fail
        rw [← HWA.out, ← HGW.out]
        obtain ⟨r0, r1, r2⟩ := HCA.out _ HAwa.out
        obtain ⟨⟨x00, x01, x02, x03, x04, x05⟩, ⟨x10, x11, x12, x13, x14, x15⟩, ⟨x20, x21, x22, x23, x24, x25⟩⟩ := HC.out _ HBwa.out
        go_wp2_with fail
        refine (KT00.out _ HBwa.out G0.out G0.out).mono ?_
        intro e5 wf0 h5
        obtain ⟨b0, q0, ev0, rfl, hv0, hb5⟩ := h5.any
        have HV0 := Hd hv0
        have HBwf0 : Hid (Below w1.heap.size w1 wf0) := Hd (HBwa.out.trans (hb5.mono HBwa.out.size))
        have HAwf0 : Hid (Below wa.heap.size wa wf0) := Hd (HAwa.out.trans (hb5.mono HAwa.out.size))
        clear h5 hb5 hv0 r0 r1 r2 x00 x01 x02 x03 x04 x05 x10 x11 x12 x13 x14 x15 x20 x21 x22 x23 x24 x25
        go_upto_region 5 with fail
        obtain ⟨r0, r1, r2⟩ := HCA.out _ HAwf0.out
        obtain ⟨⟨x00, x01, x02, x03, x04, x05⟩, ⟨x10, x11, x12, x13, x14, x15⟩, ⟨x20, x21, x22, x23, x24, x25⟩⟩ := HC.out _ HBwf0.out
        go_wp2_with fail
        refine (KT01.out _ HBwf0.out G0.out G1.out).mono ?_
        intro e5 wf1 h5
        obtain ⟨b1, q1, ev1, rfl, hv1, hb5⟩ := h5.any
        have HV1 := Hd hv1
        have HBwf1 : Hid (Below w1.heap.size w1 wf1) := Hd (HBwf0.out.trans (hb5.mono HBwf0.out.size))
        have HAwf1 : Hid (Below wa.heap.size wa wf1) := Hd (HAwf0.out.trans (hb5.mono HAwf0.out.size))
        clear h5 hb5 hv1 r0 r1 r2 x00 x01 x02 x03 x04 x05 x10 x11 x12 x13 x14 x15 x20 x21 x22 x23 x24 x25
        go_upto_region 6 with fail
        obtain ⟨r0, r1, r2⟩ := HCA.out _ HAwf1.out
        obtain ⟨⟨x00, x01, x02, x03, x04, x05⟩, ⟨x10, x11, x12, x13, x14, x15⟩, ⟨x20, x21, x22, x23, x24, x25⟩⟩ := HC.out _ HBwf1.out
        go_wp2_with fail
        refine (KT12.out _ HBwf1.out G1.out G2.out).mono ?_
        intro e5 wf2 h5
        obtain ⟨b2, q2, ev2, rfl, hv2, hb5⟩ := h5.any
        have HV2 := Hd hv2
        have HBwf2 : Hid (Below w1.heap.size w1 wf2) := Hd (HBwf1.out.trans (hb5.mono HBwf1.out.size))
        have HAwf2 : Hid (Below wa.heap.size wa wf2) := Hd (HAwf1.out.trans (hb5.mono HAwf1.out.size))
        clear h5 hb5 hv2 r0 r1 r2 x00 x01 x02 x03 x04 x05 x10 x11 x12 x13 x14 x15 x20 x21 x22 x23 x24 x25
        go_upto_region 7 with fail
        obtain ⟨r0, r1, r2⟩ := HCA.out _ HAwf2.out
        obtain ⟨⟨x00, x01, x02, x03, x04, x05⟩, ⟨x10, x11, x12, x13, x14, x15⟩, ⟨x20, x21, x22, x23, x24, x25⟩⟩ := HC.out _ HBwf2.out
        go_wp2_with fail
        refine (KT02.out _ HBwf2.out G0.out G2.out).mono ?_
        intro e5 wf3 h5
        obtain ⟨b3, q3, ev3, rfl, hv3, hb5⟩ := h5.any
        have HV3 := Hd hv3
        have HBwf3 : Hid (Below w1.heap.size w1 wf3) := Hd (HBwf2.out.trans (hb5.mono HBwf2.out.size))
        have HAwf3 : Hid (Below wa.heap.size wa wf3) := Hd (HAwf2.out.trans (hb5.mono HAwf2.out.size))
        clear h5 hb5 hv3 r0 r1 r2 x00 x01 x02 x03 x04 x05 x10 x11 x12 x13 x14 x15 x20 x21 x22 x23 x24 x25
        go_upto_region 8 with fail
        have HFI : Hid (Below w.heap.size w wf3) := Hd (HB1.out.trans (HBwf3.out.mono HB1.out.size))
        by_cases h0 : ev0 = 9
        ·have te0 : (ev0 == 9) = true := by simp [h0]
         clear h0
         go_wp2_with fail
         go_ret
         exact ⟨rfl, HFI.out⟩
        have te0 : (ev0 == 9) = false := by simp [h0]
        have HE0 := Hd (HV0.out.resolve_right h0).2
        clear h0
        by_cases h1 : ev1 = 9
        ·have te1 : (ev1 == 9) = true := by simp [h1]
         clear h1
         go_wp2_with fail
         go_ret
         exact ⟨rfl, HFI.out⟩
        have te1 : (ev1 == 9) = false := by simp [h1]
        have HE1 := Hd (HV1.out.resolve_right h1).2
        clear h1
        by_cases h2 : ev2 = 9
        ·have te2 : (ev2 == 9) = true := by simp [h2]
         clear h2
         go_wp2_with fail
         go_ret
         exact ⟨rfl, HFI.out⟩
        have te2 : (ev2 == 9) = false := by simp [h2]
        have HE2 := Hd (HV2.out.resolve_right h2).2
        clear h2
        by_cases h3 : ev3 = 9
        ·have te3 : (ev3 == 9) = true := by simp [h3]
         clear h3
         go_wp2_with fail
         go_ret
         exact ⟨rfl, HFI.out⟩
        have te3 : (ev3 == 9) = false := by simp [h3]
        have HE3 := Hd (HV3.out.resolve_right h3).2
        clear h3
        obtain rfl : b0 = true := HE0.out.2 (.same _)
        cases b1 with
        | false =>
         go_wp2_with fail
         go_ret
         exact ⟨rfl, HFI.out⟩
        | true =>
        cases b2 with
        | false =>
         go_wp2_with fail
         go_ret
         exact ⟨rfl, HFI.out⟩
        | true =>
        obtain rfl : b3 = true := HE3.out.2 (fit_trans _ _ _ _ (Nat.le_refl _) G0.out.1 G1.out.1 G2.out.1 (HE1.out.1 (by trivial)) (HE2.out.1 (by trivial)))
        go_wp2_with fail
        go_ret
        exact ⟨rfl, HFI.out⟩
end Go.Proofs.YtgjblmlibhppiaaGreatDoor
