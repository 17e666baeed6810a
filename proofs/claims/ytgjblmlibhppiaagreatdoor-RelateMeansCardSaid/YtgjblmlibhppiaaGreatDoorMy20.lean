import Derived.Test.YtgjblmlibhppiaaGreatDoorMy19
namespace Go.Proofs.YtgjblmlibhppiaaGreatDoor
set_option maxRecDepth 100000
set_option maxHeartbeats 64000000
open Go.RowKit
theorem shape_f {k : Int} (h : k ≠ 14) : (shapeK k).f = false := by
 unfold shapeK
 repeat' split
 all_goals first | rfl | (exfalso; omega)
theorem shape_v {k : Int} (h : k ≠ 13) : (shapeK k).v = false := by
 unfold shapeK
 repeat' split
 all_goals first | rfl | (exfalso; omega)
theorem form_nf (k : Int) (t : ByteArray) (n : Int) (ps : List Ty) (fs : FsT) (vs : VsT) (hp : ∀ p ∈ ps, FormR p) (hf : ∀ f ∈ fs, FormR f.2.2) (hv : ∀ v ∈ vs, ∀ b ∈ v.2, FormR b) (h14 : k ≠ 14) (hnf : 0 < fs.length) : FormR (.mk k t n ps fs vs) := by
 refine form_pre k t n ps fs vs hp hf hv fun K w A c A' c' A'' c'' w1 h => ?_
 obtain ⟨HXC, KAll, KPl, KNm, KOb, KBi, KOv, HREP, HCN, HBZ, HB, HS1, HX0, HW1, hlp, hlf, hlv⟩ := h
 clear hp hf hv
 have HVal : Hid (formT (.mk k t n ps fs vs) = false) := Hd (by
  rw [formT_mk]
  unfold fitsB
  rw [shape_f h14]
  have h0 : decide (0 < fs.length) = true := decide_eq_true hnf
  simp [h0])
 have g1 : (k == 14) = false := by simpa using h14
 have f1 : decide ((0 : Int) < (fs.length : Int)) = true := decide_eq_true (by omega)
 have f2 : decide (0 < fs.length) = true := decide_eq_true (by omega)
 clear hnf
 go_enter Tryz.func23, Tryz.ntmps23
 go_upto_region 1 with fail
 rw [← HW1.out]
 obtain ⟨x0, x1, x2, x3, x4, x5⟩ := HXC.out _ HB.out
 go_wp2_with fail
 go_ret
 exact ⟨by rw [HVal.out]; rfl, HBZ.out.trans (HB.out.mono HBZ.out.size)⟩
theorem form_nv (k : Int) (t : ByteArray) (n : Int) (ps : List Ty) (fs : FsT) (vs : VsT) (hp : ∀ p ∈ ps, FormR p) (hf : ∀ f ∈ fs, FormR f.2.2) (hv : ∀ v ∈ vs, ∀ b ∈ v.2, FormR b) (h14 : k ≠ 14) (hnf : fs.length = 0) (h13 : k ≠ 13) (hnv : 0 < vs.length) : FormR (.mk k t n ps fs vs) := by
 refine form_pre k t n ps fs vs hp hf hv fun K w A c A' c' A'' c'' w1 h => ?_
 obtain ⟨HXC, KAll, KPl, KNm, KOb, KBi, KOv, HREP, HCN, HBZ, HB, HS1, HX0, HW1, hlp, hlf, hlv⟩ := h
 clear hp hf hv
 have HVal : Hid (formT (.mk k t n ps fs vs) = false) := Hd (by
  rw [formT_mk]
  unfold fitsB
  rw [shape_v h13]
  have h0 : decide (0 < vs.length) = true := decide_eq_true hnv
  simp [h0])
 have g1 : (k == 14) = false := by simpa using h14
 have f1 : decide ((0 : Int) < (fs.length : Int)) = false := decide_eq_false (by omega)
 have f2 : decide (0 < fs.length) = false := decide_eq_false (by omega)
 have g2 : (k == 13) = false := by simpa using h13
 have f3 : decide ((0 : Int) < (vs.length : Int)) = true := decide_eq_true (by omega)
 have f4 : decide (0 < vs.length) = true := decide_eq_true (by omega)
 clear hnf hnv
 go_enter Tryz.func23, Tryz.ntmps23
 go_upto_region 1 with fail
 rw [← HW1.out]
 obtain ⟨x0, x1, x2, x3, x4, x5⟩ := HXC.out _ HB.out
 go_wp2_with fail
 go_ret
 exact ⟨by rw [HVal.out]; rfl, HBZ.out.trans (HB.out.mono HBZ.out.size)⟩
theorem form_nv14 (t : ByteArray) (n : Int) (ps : List Ty) (fs : FsT) (vs : VsT) (hp : ∀ p ∈ ps, FormR p) (hf : ∀ f ∈ fs, FormR f.2.2) (hv : ∀ v ∈ vs, ∀ b ∈ v.2, FormR b) (hnv : 0 < vs.length) : FormR (.mk 14 t n ps fs vs) := by
 refine form_pre 14 t n ps fs vs hp hf hv fun K w A c A' c' A'' c'' w1 h => ?_
 obtain ⟨HXC, KAll, KPl, KNm, KOb, KBi, KOv, HREP, HCN, HBZ, HB, HS1, HX0, HW1, hlp, hlf, hlv⟩ := h
 clear hp hf hv
 have HVal : Hid (formT (.mk 14 t n ps fs vs) = false) := Hd (by
  have h13 : (14 : Int) ≠ 13 := by decide
  rw [formT_mk]
  unfold fitsB
  rw [shape_v h13]
  have h0 : decide (0 < vs.length) = true := decide_eq_true hnv
  simp [h0])
 have f3 : decide ((0 : Int) < (vs.length : Int)) = true := decide_eq_true (by omega)
 have f4 : decide (0 < vs.length) = true := decide_eq_true (by omega)
 clear hnv
 go_enter Tryz.func23, Tryz.ntmps23
 go_upto_region 1 with fail
 rw [← HW1.out]
 obtain ⟨x0, x1, x2, x3, x4, x5⟩ := HXC.out _ HB.out
 go_wp2_with fail
 go_ret
 exact ⟨by rw [HVal.out]; rfl, HBZ.out.trans (HB.out.mono HBZ.out.size)⟩
theorem form_pa (k : Int) (t : ByteArray) (n : Int) (ps : List Ty) (fs : FsT) (vs : VsT) (hp : ∀ p ∈ ps, FormR p) (hf : ∀ f ∈ fs, FormR f.2.2) (hv : ∀ v ∈ vs, ∀ b ∈ v.2, FormR b) (h14 : k ≠ 14) (hnf : fs.length = 0) (h13 : k ≠ 13) (hnv : vs.length = 0) (hpa : ps.all formT = false) : FormR (.mk k t n ps fs vs) := by
 refine form_pre k t n ps fs vs hp hf hv fun K w A c A' c' A'' c'' w1 h => ?_
 obtain ⟨HXC, KAll, KPl, KNm, KOb, KBi, KOv, HREP, HCN, HBZ, HB, HS1, HX0, HW1, hlp, hlf, hlv⟩ := h
 clear hp hf hv
 have HVal : Hid (formT (.mk k t n ps fs vs) = false) := Hd (by
  rw [formT_mk, hpa, Bool.and_false])
 have g1 : (k == 14) = false := by simpa using h14
 have f1 : decide ((0 : Int) < (fs.length : Int)) = false := decide_eq_false (by omega)
 have f2 : decide (0 < fs.length) = false := decide_eq_false (by omega)
 have g2 : (k == 13) = false := by simpa using h13
 have f3 : decide ((0 : Int) < (vs.length : Int)) = false := decide_eq_false (by omega)
 have f4 : decide (0 < vs.length) = false := decide_eq_false (by omega)
 rw [hpa] at KAll
 clear hnf hnv hpa
 go_enter Tryz.func23, Tryz.ntmps23
 go_upto_region 1 with fail
 rw [← HW1.out]
 obtain ⟨x0, x1, x2, x3, x4, x5⟩ := HXC.out _ HB.out
 go_wp2_with fail
 refine (KAll.out _ HB.out).mono ?_
 rintro e w2 ⟨rfl, hb⟩
 have HB1 := Hd (HB.out.trans (hb.mono HB.out.size))
 clear hb
 clear x0 x1 x2 x3 x4 x5
 obtain ⟨x0, x1, x2, x3, x4, x5⟩ := HXC.out _ HB1.out
 go_wp2_with fail
 go_ret
 exact ⟨by rw [HVal.out]; rfl, HBZ.out.trans (HB1.out.mono HBZ.out.size)⟩
theorem form_pa14 (t : ByteArray) (n : Int) (ps : List Ty) (fs : FsT) (vs : VsT) (hp : ∀ p ∈ ps, FormR p) (hf : ∀ f ∈ fs, FormR f.2.2) (hv : ∀ v ∈ vs, ∀ b ∈ v.2, FormR b) (hnv : vs.length = 0) (hpa : ps.all formT = false) : FormR (.mk 14 t n ps fs vs) := by
 refine form_pre 14 t n ps fs vs hp hf hv fun K w A c A' c' A'' c'' w1 h => ?_
 obtain ⟨HXC, KAll, KPl, KNm, KOb, KBi, KOv, HREP, HCN, HBZ, HB, HS1, HX0, HW1, hlp, hlf, hlv⟩ := h
 clear hp hf hv
 have HVal : Hid (formT (.mk 14 t n ps fs vs) = false) := Hd (by
  rw [formT_mk, hpa, Bool.and_false])
 have f3 : decide ((0 : Int) < (vs.length : Int)) = false := decide_eq_false (by omega)
 have f4 : decide (0 < vs.length) = false := decide_eq_false (by omega)
 rw [hpa] at KAll
 clear hnv hpa
 go_enter Tryz.func23, Tryz.ntmps23
 go_upto_region 1 with fail
 rw [← HW1.out]
 obtain ⟨x0, x1, x2, x3, x4, x5⟩ := HXC.out _ HB.out
 go_wp2_with fail
 refine (KAll.out _ HB.out).mono ?_
 rintro e w2 ⟨rfl, hb⟩
 have HB1 := Hd (HB.out.trans (hb.mono HB.out.size))
 clear hb
 clear x0 x1 x2 x3 x4 x5
 obtain ⟨x0, x1, x2, x3, x4, x5⟩ := HXC.out _ HB1.out
 go_wp2_with fail
 go_ret
 exact ⟨by rw [HVal.out]; rfl, HBZ.out.trans (HB1.out.mono HBZ.out.size)⟩
theorem form_pa13 (t : ByteArray) (n : Int) (ps : List Ty) (fs : FsT) (vs : VsT) (hp : ∀ p ∈ ps, FormR p) (hf : ∀ f ∈ fs, FormR f.2.2) (hv : ∀ v ∈ vs, ∀ b ∈ v.2, FormR b) (hnf : fs.length = 0) (hpa : ps.all formT = false) : FormR (.mk 13 t n ps fs vs) := by
 refine form_pre 13 t n ps fs vs hp hf hv fun K w A c A' c' A'' c'' w1 h => ?_
 obtain ⟨HXC, KAll, KPl, KNm, KOb, KBi, KOv, HREP, HCN, HBZ, HB, HS1, HX0, HW1, hlp, hlf, hlv⟩ := h
 clear hp hf hv
 have HVal : Hid (formT (.mk 13 t n ps fs vs) = false) := Hd (by
  rw [formT_mk, hpa, Bool.and_false])
 have f1 : decide ((0 : Int) < (fs.length : Int)) = false := decide_eq_false (by omega)
 have f2 : decide (0 < fs.length) = false := decide_eq_false (by omega)
 rw [hpa] at KAll
 clear hnf hpa
 go_enter Tryz.func23, Tryz.ntmps23
 go_upto_region 1 with fail
 rw [← HW1.out]
 obtain ⟨x0, x1, x2, x3, x4, x5⟩ := HXC.out _ HB.out
 go_wp2_with fail
 refine (KAll.out _ HB.out).mono ?_
 rintro e w2 ⟨rfl, hb⟩
 have HB1 := Hd (HB.out.trans (hb.mono HB.out.size))
 clear hb
 clear x0 x1 x2 x3 x4 x5
 obtain ⟨x0, x1, x2, x3, x4, x5⟩ := HXC.out _ HB1.out
 go_wp2_with fail
 go_ret
 exact ⟨by rw [HVal.out]; rfl, HBZ.out.trans (HB1.out.mono HBZ.out.size)⟩
theorem form_no (k : Int) (t : ByteArray) (n : Int) (ps : List Ty) (fs : FsT) (vs : VsT) (hp : ∀ p ∈ ps, FormR p) (hf : ∀ f ∈ fs, FormR f.2.2) (hv : ∀ v ∈ vs, ∀ b ∈ v.2, FormR b) (h1 : k ≠ 1) (h2 : k ≠ 2) (h3 : k ≠ 3) (h4 : k ≠ 4) (h5 : k ≠ 5) (h6 : k ≠ 6) (h7 : k ≠ 7) (h8 : k ≠ 8) (h9 : k ≠ 9) (h10 : k ≠ 10) (h11 : k ≠ 11) (h12 : k ≠ 12) (h13 : k ≠ 13) (h14 : k ≠ 14) (h15 : k ≠ 15) (h16 : k ≠ 16) (h17 : k ≠ 17) (h18 : k ≠ 18) (h19 : k ≠ 19) (h20 : k ≠ 20) (h21 : k ≠ 21) (h22 : k ≠ 22) (h23 : k ≠ 23) (hnf : fs.length = 0) (hnv : vs.length = 0) (hpa : ps.all formT = true) : FormR (.mk k t n ps fs vs) := by
 refine form_pre k t n ps fs vs hp hf hv fun K w A c A' c' A'' c'' w1 h => ?_
 obtain ⟨HXC, KAll, KPl, KNm, KOb, KBi, KOv, HREP, HCN, HBZ, HB, HS1, HX0, HW1, hlp, hlf, hlv⟩ := h
 clear hp hf hv
 have HVal : Hid (formT (.mk k t n ps fs vs) = false) := Hd (by
  rw [formT_mk]
  have hs : (shapeK k).known = false := by
   unfold shapeK
   rw [if_neg (by omega), if_neg (by omega), if_neg (by omega), if_neg (by omega), if_neg (by omega), if_neg (by omega), if_neg (by omega), if_neg (by omega), if_neg (by omega), if_neg (by omega), if_neg (by omega), if_neg (by omega)]
  rw [hs]; simp)
 have g1 : (k == 1) = false := by simpa using h1
 have g2 : (k == 2) = false := by simpa using h2
 have g3 : (k == 3) = false := by simpa using h3
 have g4 : (k == 4) = false := by simpa using h4
 have g5 : (k == 5) = false := by simpa using h5
 have g6 : (k == 6) = false := by simpa using h6
 have g7 : (k == 7) = false := by simpa using h7
 have g8 : (k == 8) = false := by simpa using h8
 have g9 : (k == 9) = false := by simpa using h9
 have g10 : (k == 10) = false := by simpa using h10
 have g11 : (k == 11) = false := by simpa using h11
 have g12 : (k == 12) = false := by simpa using h12
 have g13 : (k == 13) = false := by simpa using h13
 have g14 : (k == 14) = false := by simpa using h14
 have g15 : (k == 15) = false := by simpa using h15
 have g16 : (k == 16) = false := by simpa using h16
 have g17 : (k == 17) = false := by simpa using h17
 have g18 : (k == 18) = false := by simpa using h18
 have g19 : (k == 19) = false := by simpa using h19
 have g20 : (k == 20) = false := by simpa using h20
 have g21 : (k == 21) = false := by simpa using h21
 have g22 : (k == 22) = false := by simpa using h22
 have g23 : (k == 23) = false := by simpa using h23
 obtain ⟨f1, f2, f3, f4⟩ := no4 (m := fs.length) (n := vs.length) (by omega) (by omega)
 rw [hpa] at KAll
 clear hnf hnv hpa
 go_enter Tryz.func23, Tryz.ntmps23
 go_upto_region 1 with fail
 rw [← HW1.out]
 obtain ⟨x0, x1, x2, x3, x4, x5⟩ := HXC.out _ HB.out
 go_wp2_with fail
 refine (KAll.out _ HB.out).mono ?_
 rintro e w2 ⟨rfl, hb⟩
 have HB1 := Hd (HB.out.trans (hb.mono HB.out.size))
 clear hb
 clear x0 x1 x2 x3 x4 x5
 obtain ⟨x0, x1, x2, x3, x4, x5⟩ := HXC.out _ HB1.out
 go_wp2_with fail
 go_ret
 exact ⟨by rw [HVal.out]; rfl, HBZ.out.trans (HB1.out.mono HBZ.out.size)⟩
theorem form_Lt (k : Int) (hk : k = 1 ∨ k = 2 ∨ k = 3 ∨ k = 4 ∨ k = 5 ∨ k = 6 ∨ k = 7 ∨ k = 8) (t : ByteArray) (n : Int) (ps : List Ty) (fs : FsT) (vs : VsT) (hp : ∀ p ∈ ps, FormR p) (hf : ∀ f ∈ fs, FormR f.2.2) (hv : ∀ v ∈ vs, ∀ b ∈ v.2, FormR b) (hnf : fs.length = 0) (hnv : vs.length = 0) (hpa : ps.all formT = true) (a0 : UInt8) (l0 : List UInt8) (ht0 : t.toList = a0 :: l0) : FormR (.mk k t n ps fs vs) := by
 refine form_pre k t n ps fs vs hp hf hv fun K w A c A' c' A'' c'' w1 h => ?_
 obtain ⟨HXC, KAll, KPl, KNm, KOb, KBi, KOv, HREP, HCN, HBZ, HB, HS1, HX0, HW1, hlp, hlf, hlv⟩ := h
 clear hp hf hv
 have hs : shapeK k = ⟨false, false, false, false, 0, 0, true⟩ := by rcases hk with rfl | rfl | rfl | rfl | rfl | rfl | rfl | rfl <;> rfl
 have HVal : Hid (formT (.mk k t n ps fs vs) = false) := Hd (by
  rcases hk with rfl | rfl | rfl | rfl | rfl | rfl | rfl | rfl
  all_goals (
   rw [formT_mk, hs, hpa]
   unfold fitsB selfB
   simp [hnf, hnv, ht0]))
 obtain ⟨f1, f2, f3, f4⟩ := no4 (m := fs.length) (n := vs.length) (by omega) (by omega)
 rw [hpa] at KAll
 have ep : (t.toList == [] && n == 0) = false := by rw [ht0]; rfl
 rw [ep] at KPl
 clear hnf hnv hpa ht0
 clear hs
 rcases hk with rfl | rfl | rfl | rfl | rfl | rfl | rfl | rfl
 all_goals (
  go_enter Tryz.func23, Tryz.ntmps23
  go_upto_region 1 with fail
  rw [← HW1.out]
  obtain ⟨x0, x1, x2, x3, x4, x5⟩ := HXC.out _ HB.out
  go_wp2_with fail
  refine (KAll.out _ HB.out).mono ?_
  rintro e w2 ⟨rfl, hb⟩
  have HB1 := Hd (HB.out.trans (hb.mono HB.out.size))
  clear hb
  clear x0 x1 x2 x3 x4 x5
  obtain ⟨x0, x1, x2, x3, x4, x5⟩ := HXC.out _ HB1.out
  go_wp2_with fail
  refine (KPl.out _).mono ?_
  rintro e w3 ⟨rfl, hb⟩
  have HB2 := Hd (HB1.out.trans (hb.mono HB1.out.size))
  clear hb
  clear x0 x1 x2 x3 x4 x5
  obtain ⟨x0, x1, x2, x3, x4, x5⟩ := HXC.out _ HB2.out
  go_wp2_with fail
  go_ret
  exact ⟨by rw [HVal.out]; rfl, HBZ.out.trans (HB2.out.mono HBZ.out.size)⟩)
theorem form_Ln (k : Int) (hk : k = 1 ∨ k = 2 ∨ k = 3 ∨ k = 4 ∨ k = 5 ∨ k = 6 ∨ k = 7 ∨ k = 8) (t : ByteArray) (n : Int) (ps : List Ty) (fs : FsT) (vs : VsT) (hp : ∀ p ∈ ps, FormR p) (hf : ∀ f ∈ fs, FormR f.2.2) (hv : ∀ v ∈ vs, ∀ b ∈ v.2, FormR b) (hnf : fs.length = 0) (hnv : vs.length = 0) (hpa : ps.all formT = true) (ht0 : t.toList = []) (hn0 : n ≠ 0) : FormR (.mk k t n ps fs vs) := by
 refine form_pre k t n ps fs vs hp hf hv fun K w A c A' c' A'' c'' w1 h => ?_
 obtain ⟨HXC, KAll, KPl, KNm, KOb, KBi, KOv, HREP, HCN, HBZ, HB, HS1, HX0, HW1, hlp, hlf, hlv⟩ := h
 clear hp hf hv
 have hs : shapeK k = ⟨false, false, false, false, 0, 0, true⟩ := by rcases hk with rfl | rfl | rfl | rfl | rfl | rfl | rfl | rfl <;> rfl
 have HVal : Hid (formT (.mk k t n ps fs vs) = false) := Hd (by
  rcases hk with rfl | rfl | rfl | rfl | rfl | rfl | rfl | rfl
  all_goals (
   rw [formT_mk, hs, hpa]
   unfold fitsB selfB
   simp [hnf, hnv, ht0, hn0]))
 obtain ⟨f1, f2, f3, f4⟩ := no4 (m := fs.length) (n := vs.length) (by omega) (by omega)
 rw [hpa] at KAll
 have ep : (t.toList == [] && n == 0) = false := by rw [ht0]; simpa using hn0
 rw [ep] at KPl
 clear hnf hnv hn0 hpa ht0
 clear hs
 rcases hk with rfl | rfl | rfl | rfl | rfl | rfl | rfl | rfl
 all_goals (
  go_enter Tryz.func23, Tryz.ntmps23
  go_upto_region 1 with fail
  rw [← HW1.out]
  obtain ⟨x0, x1, x2, x3, x4, x5⟩ := HXC.out _ HB.out
  go_wp2_with fail
  refine (KAll.out _ HB.out).mono ?_
  rintro e w2 ⟨rfl, hb⟩
  have HB1 := Hd (HB.out.trans (hb.mono HB.out.size))
  clear hb
  clear x0 x1 x2 x3 x4 x5
  obtain ⟨x0, x1, x2, x3, x4, x5⟩ := HXC.out _ HB1.out
  go_wp2_with fail
  refine (KPl.out _).mono ?_
  rintro e w3 ⟨rfl, hb⟩
  have HB2 := Hd (HB1.out.trans (hb.mono HB1.out.size))
  clear hb
  clear x0 x1 x2 x3 x4 x5
  obtain ⟨x0, x1, x2, x3, x4, x5⟩ := HXC.out _ HB2.out
  go_wp2_with fail
  go_ret
  exact ⟨by rw [HVal.out]; rfl, HBZ.out.trans (HB2.out.mono HBZ.out.size)⟩)
theorem form_Lp (k : Int) (hk : k = 1 ∨ k = 2 ∨ k = 3 ∨ k = 4 ∨ k = 5 ∨ k = 6 ∨ k = 7 ∨ k = 8) (t : ByteArray) (n : Int) (ps : List Ty) (fs : FsT) (vs : VsT) (hp : ∀ p ∈ ps, FormR p) (hf : ∀ f ∈ fs, FormR f.2.2) (hv : ∀ v ∈ vs, ∀ b ∈ v.2, FormR b) (hnf : fs.length = 0) (hnv : vs.length = 0) (hpa : ps.all formT = true) (ht0 : t.toList = []) (hn0 : n = 0) (hnp : ps.length ≠ 0) : FormR (.mk k t n ps fs vs) := by
 refine form_pre k t n ps fs vs hp hf hv fun K w A c A' c' A'' c'' w1 h => ?_
 obtain ⟨HXC, KAll, KPl, KNm, KOb, KBi, KOv, HREP, HCN, HBZ, HB, HS1, HX0, HW1, hlp, hlf, hlv⟩ := h
 clear hp hf hv
 have hs : shapeK k = ⟨false, false, false, false, 0, 0, true⟩ := by rcases hk with rfl | rfl | rfl | rfl | rfl | rfl | rfl | rfl <;> rfl
 have HVal : Hid (formT (.mk k t n ps fs vs) = false) := Hd (by
  rcases hk with rfl | rfl | rfl | rfl | rfl | rfl | rfl | rfl
  all_goals (
   rw [formT_mk, hs, hpa]
   unfold fitsB selfB
   simp [hnf, hnv, ht0, hn0]
   exact fun h => hnp (by rw [h]; rfl)))
 obtain ⟨f1, f2, f3, f4⟩ := no4 (m := fs.length) (n := vs.length) (by omega) (by omega)
 rw [hpa] at KAll
 have ep : (t.toList == [] && n == 0) = true := by rw [ht0, hn0]; rfl
 rw [ep] at KPl
 have p1 : ((ps.length : Int) == 0) = false := beq_eq_false_iff_ne.2 (by omega)
 have p2 : (ps.length == 0) = false := beq_eq_false_iff_ne.2 (by omega)
 have p3 : decide (ps.length = 0) = false := decide_eq_false (by omega)
 have p4 : decide ((ps.length : Int) = 0) = false := decide_eq_false (by omega)
 clear hnf hnv hnp hn0 hpa ht0
 clear hs
 rcases hk with rfl | rfl | rfl | rfl | rfl | rfl | rfl | rfl
 all_goals (
  go_enter Tryz.func23, Tryz.ntmps23
  go_upto_region 1 with fail
  rw [← HW1.out]
  obtain ⟨x0, x1, x2, x3, x4, x5⟩ := HXC.out _ HB.out
  go_wp2_with fail
  refine (KAll.out _ HB.out).mono ?_
  rintro e w2 ⟨rfl, hb⟩
  have HB1 := Hd (HB.out.trans (hb.mono HB.out.size))
  clear hb
  clear x0 x1 x2 x3 x4 x5
  obtain ⟨x0, x1, x2, x3, x4, x5⟩ := HXC.out _ HB1.out
  go_wp2_with fail
  refine (KPl.out _).mono ?_
  rintro e w3 ⟨rfl, hb⟩
  have HB2 := Hd (HB1.out.trans (hb.mono HB1.out.size))
  clear hb
  clear x0 x1 x2 x3 x4 x5
  obtain ⟨x0, x1, x2, x3, x4, x5⟩ := HXC.out _ HB2.out
  go_wp2_with fail
  go_ret
  exact ⟨by rw [HVal.out]; rfl, HBZ.out.trans (HB2.out.mono HBZ.out.size)⟩)
theorem form_Ly (k : Int) (hk : k = 1 ∨ k = 2 ∨ k = 3 ∨ k = 4 ∨ k = 5 ∨ k = 6 ∨ k = 7 ∨ k = 8) (t : ByteArray) (n : Int) (ps : List Ty) (fs : FsT) (vs : VsT) (hp : ∀ p ∈ ps, FormR p) (hf : ∀ f ∈ fs, FormR f.2.2) (hv : ∀ v ∈ vs, ∀ b ∈ v.2, FormR b) (hnf : fs.length = 0) (hnv : vs.length = 0) (hpa : ps.all formT = true) (ht0 : t.toList = []) (hn0 : n = 0) (hnp : ps.length = 0) : FormR (.mk k t n ps fs vs) := by
 refine form_pre k t n ps fs vs hp hf hv fun K w A c A' c' A'' c'' w1 h => ?_
 obtain ⟨HXC, KAll, KPl, KNm, KOb, KBi, KOv, HREP, HCN, HBZ, HB, HS1, HX0, HW1, hlp, hlf, hlv⟩ := h
 clear hp hf hv
 have hs : shapeK k = ⟨false, false, false, false, 0, 0, true⟩ := by rcases hk with rfl | rfl | rfl | rfl | rfl | rfl | rfl | rfl <;> rfl
 have HVal : Hid (formT (.mk k t n ps fs vs) = true) := Hd (by
  rcases hk with rfl | rfl | rfl | rfl | rfl | rfl | rfl | rfl
  all_goals (
   rw [formT_mk, hs, hpa]
   unfold fitsB selfB
   simp [hnf, hnv, ht0, hn0, hnp]))
 obtain ⟨f1, f2, f3, f4⟩ := no4 (m := fs.length) (n := vs.length) (by omega) (by omega)
 rw [hpa] at KAll
 have ep : (t.toList == [] && n == 0) = true := by rw [ht0, hn0]; rfl
 rw [ep] at KPl
 have p1 : ((ps.length : Int) == 0) = true := beq_iff_eq.2 (by omega)
 have p2 : (ps.length == 0) = true := beq_iff_eq.2 (by omega)
 have p3 : decide (ps.length = 0) = true := decide_eq_true (by omega)
 have p4 : decide ((ps.length : Int) = 0) = true := decide_eq_true (by omega)
 clear hnf hnv hnp hn0 hpa ht0
 clear hs
 rcases hk with rfl | rfl | rfl | rfl | rfl | rfl | rfl | rfl
 all_goals (
  go_enter Tryz.func23, Tryz.ntmps23
  go_upto_region 1 with fail
  rw [← HW1.out]
  obtain ⟨x0, x1, x2, x3, x4, x5⟩ := HXC.out _ HB.out
  go_wp2_with fail
  refine (KAll.out _ HB.out).mono ?_
  rintro e w2 ⟨rfl, hb⟩
  have HB1 := Hd (HB.out.trans (hb.mono HB.out.size))
  clear hb
  clear x0 x1 x2 x3 x4 x5
  obtain ⟨x0, x1, x2, x3, x4, x5⟩ := HXC.out _ HB1.out
  go_wp2_with fail
  refine (KPl.out _).mono ?_
  rintro e w3 ⟨rfl, hb⟩
  have HB2 := Hd (HB1.out.trans (hb.mono HB1.out.size))
  clear hb
  clear x0 x1 x2 x3 x4 x5
  obtain ⟨x0, x1, x2, x3, x4, x5⟩ := HXC.out _ HB2.out
  go_wp2_with fail
  go_ret
  exact ⟨by rw [HVal.out]; rfl, HBZ.out.trans (HB2.out.mono HBZ.out.size)⟩)
theorem form_9t (t : ByteArray) (n : Int) (ps : List Ty) (fs : FsT) (vs : VsT) (hp : ∀ p ∈ ps, FormR p) (hf : ∀ f ∈ fs, FormR f.2.2) (hv : ∀ v ∈ vs, ∀ b ∈ v.2, FormR b) (hnf : fs.length = 0) (hnv : vs.length = 0) (hpa : ps.all formT = true) (a0 : UInt8) (l0 : List UInt8) (ht0 : t.toList = a0 :: l0) : FormR (.mk 9 t n ps fs vs) := by
 refine form_pre 9 t n ps fs vs hp hf hv fun K w A c A' c' A'' c'' w1 h => ?_
 obtain ⟨HXC, KAll, KPl, KNm, KOb, KBi, KOv, HREP, HCN, HBZ, HB, HS1, HX0, HW1, hlp, hlf, hlv⟩ := h
 clear hp hf hv
 have HVal : Hid (formT (.mk 9 t n ps fs vs) = false) := Hd (by
  rw [formT_mk, show shapeK 9 = ⟨false, true, false, false, 0, 0, true⟩ from rfl, hpa]
  unfold fitsB selfB
  simp [hnf, hnv, ht0])
 obtain ⟨f1, f2, f3, f4⟩ := no4 (m := fs.length) (n := vs.length) (by omega) (by omega)
 rw [hpa] at KAll
 clear hnf hnv hpa
 go_enter Tryz.func23, Tryz.ntmps23
 go_upto_region 1 with fail
 rw [← HW1.out]
 obtain ⟨x0, x1, x2, x3, x4, x5⟩ := HXC.out _ HB.out
 go_wp2_with fail
 refine (KAll.out _ HB.out).mono ?_
 rintro e w2 ⟨rfl, hb⟩
 have HB1 := Hd (HB.out.trans (hb.mono HB.out.size))
 clear hb
 clear x0 x1 x2 x3 x4 x5
 obtain ⟨x0, x1, x2, x3, x4, x5⟩ := HXC.out _ HB1.out
 go_wp2_with fail
 go_ret
 exact ⟨by rw [HVal.out]; rfl, HBZ.out.trans (HB1.out.mono HBZ.out.size)⟩
theorem form_9n (t : ByteArray) (n : Int) (ps : List Ty) (fs : FsT) (vs : VsT) (hp : ∀ p ∈ ps, FormR p) (hf : ∀ f ∈ fs, FormR f.2.2) (hv : ∀ v ∈ vs, ∀ b ∈ v.2, FormR b) (hnf : fs.length = 0) (hnv : vs.length = 0) (hpa : ps.all formT = true) (ht0 : t.toList = []) (hn0 : ¬ 0 ≤ n) : FormR (.mk 9 t n ps fs vs) := by
 refine form_pre 9 t n ps fs vs hp hf hv fun K w A c A' c' A'' c'' w1 h => ?_
 obtain ⟨HXC, KAll, KPl, KNm, KOb, KBi, KOv, HREP, HCN, HBZ, HB, HS1, HX0, HW1, hlp, hlf, hlv⟩ := h
 clear hp hf hv
 have HVal : Hid (formT (.mk 9 t n ps fs vs) = false) := Hd (by
  rw [formT_mk, show shapeK 9 = ⟨false, true, false, false, 0, 0, true⟩ from rfl, hpa]
  unfold fitsB selfB
  simp [hnf, hnv, ht0]
  exact fun _ => by omega)
 obtain ⟨f1, f2, f3, f4⟩ := no4 (m := fs.length) (n := vs.length) (by omega) (by omega)
 rw [hpa] at KAll
 have f5 : decide (0 ≤ n) = false := decide_eq_false hn0
 clear hnf hnv hn0 hpa
 go_enter Tryz.func23, Tryz.ntmps23
 go_upto_region 1 with fail
 rw [← HW1.out]
 obtain ⟨x0, x1, x2, x3, x4, x5⟩ := HXC.out _ HB.out
 go_wp2_with fail
 refine (KAll.out _ HB.out).mono ?_
 rintro e w2 ⟨rfl, hb⟩
 have HB1 := Hd (HB.out.trans (hb.mono HB.out.size))
 clear hb
 clear x0 x1 x2 x3 x4 x5
 obtain ⟨x0, x1, x2, x3, x4, x5⟩ := HXC.out _ HB1.out
 go_wp2_with fail
 go_ret
 exact ⟨by rw [HVal.out]; rfl, HBZ.out.trans (HB1.out.mono HBZ.out.size)⟩
theorem form_9p (t : ByteArray) (n : Int) (ps : List Ty) (fs : FsT) (vs : VsT) (hp : ∀ p ∈ ps, FormR p) (hf : ∀ f ∈ fs, FormR f.2.2) (hv : ∀ v ∈ vs, ∀ b ∈ v.2, FormR b) (hnf : fs.length = 0) (hnv : vs.length = 0) (hpa : ps.all formT = true) (ht0 : t.toList = []) (hn0 : 0 ≤ n) (hnp : ps.length ≠ 0) : FormR (.mk 9 t n ps fs vs) := by
 refine form_pre 9 t n ps fs vs hp hf hv fun K w A c A' c' A'' c'' w1 h => ?_
 obtain ⟨HXC, KAll, KPl, KNm, KOb, KBi, KOv, HREP, HCN, HBZ, HB, HS1, HX0, HW1, hlp, hlf, hlv⟩ := h
 clear hp hf hv
 have HVal : Hid (formT (.mk 9 t n ps fs vs) = false) := Hd (by
  rw [formT_mk, show shapeK 9 = ⟨false, true, false, false, 0, 0, true⟩ from rfl, hpa]
  unfold fitsB selfB
  simp [hnf, hnv, ht0, hn0]
  exact fun h => hnp (by rw [h]; rfl))
 obtain ⟨f1, f2, f3, f4⟩ := no4 (m := fs.length) (n := vs.length) (by omega) (by omega)
 rw [hpa] at KAll
 have f5 : decide (0 ≤ n) = true := decide_eq_true hn0
 have p1 : ((ps.length : Int) == 0) = false := beq_eq_false_iff_ne.2 (by omega)
 have p2 : (ps.length == 0) = false := beq_eq_false_iff_ne.2 (by omega)
 have p3 : decide (ps.length = 0) = false := decide_eq_false (by omega)
 have p4 : decide ((ps.length : Int) = 0) = false := decide_eq_false (by omega)
 clear hnf hnv hnp hn0 hpa
 go_enter Tryz.func23, Tryz.ntmps23
 go_upto_region 1 with fail
 rw [← HW1.out]
 obtain ⟨x0, x1, x2, x3, x4, x5⟩ := HXC.out _ HB.out
 go_wp2_with fail
 refine (KAll.out _ HB.out).mono ?_
 rintro e w2 ⟨rfl, hb⟩
 have HB1 := Hd (HB.out.trans (hb.mono HB.out.size))
 clear hb
 clear x0 x1 x2 x3 x4 x5
 obtain ⟨x0, x1, x2, x3, x4, x5⟩ := HXC.out _ HB1.out
 go_wp2_with fail
 go_ret
 exact ⟨by rw [HVal.out]; rfl, HBZ.out.trans (HB1.out.mono HBZ.out.size)⟩
theorem form_9y (t : ByteArray) (n : Int) (ps : List Ty) (fs : FsT) (vs : VsT) (hp : ∀ p ∈ ps, FormR p) (hf : ∀ f ∈ fs, FormR f.2.2) (hv : ∀ v ∈ vs, ∀ b ∈ v.2, FormR b) (hnf : fs.length = 0) (hnv : vs.length = 0) (hpa : ps.all formT = true) (ht0 : t.toList = []) (hn0 : 0 ≤ n) (hnp : ps.length = 0) : FormR (.mk 9 t n ps fs vs) := by
 refine form_pre 9 t n ps fs vs hp hf hv fun K w A c A' c' A'' c'' w1 h => ?_
 obtain ⟨HXC, KAll, KPl, KNm, KOb, KBi, KOv, HREP, HCN, HBZ, HB, HS1, HX0, HW1, hlp, hlf, hlv⟩ := h
 clear hp hf hv
 have HVal : Hid (formT (.mk 9 t n ps fs vs) = true) := Hd (by
  rw [formT_mk, show shapeK 9 = ⟨false, true, false, false, 0, 0, true⟩ from rfl, hpa]
  unfold fitsB selfB
  simp [hnf, hnv, ht0, hn0, hnp])
 obtain ⟨f1, f2, f3, f4⟩ := no4 (m := fs.length) (n := vs.length) (by omega) (by omega)
 rw [hpa] at KAll
 have f5 : decide (0 ≤ n) = true := decide_eq_true hn0
 have p1 : ((ps.length : Int) == 0) = true := beq_iff_eq.2 (by omega)
 have p2 : (ps.length == 0) = true := beq_iff_eq.2 (by omega)
 have p3 : decide (ps.length = 0) = true := decide_eq_true (by omega)
 have p4 : decide ((ps.length : Int) = 0) = true := decide_eq_true (by omega)
 clear hnf hnv hnp hn0 hpa
 go_enter Tryz.func23, Tryz.ntmps23
 go_upto_region 1 with fail
 rw [← HW1.out]
 obtain ⟨x0, x1, x2, x3, x4, x5⟩ := HXC.out _ HB.out
 go_wp2_with fail
 refine (KAll.out _ HB.out).mono ?_
 rintro e w2 ⟨rfl, hb⟩
 have HB1 := Hd (HB.out.trans (hb.mono HB.out.size))
 clear hb
 clear x0 x1 x2 x3 x4 x5
 obtain ⟨x0, x1, x2, x3, x4, x5⟩ := HXC.out _ HB1.out
 go_wp2_with fail
 go_ret
 exact ⟨by rw [HVal.out]; rfl, HBZ.out.trans (HB1.out.mono HBZ.out.size)⟩
theorem form_10n (t : ByteArray) (n : Int) (ps : List Ty) (fs : FsT) (vs : VsT) (hp : ∀ p ∈ ps, FormR p) (hf : ∀ f ∈ fs, FormR f.2.2) (hv : ∀ v ∈ vs, ∀ b ∈ v.2, FormR b) (hnf : fs.length = 0) (hnv : vs.length = 0) (hpa : ps.all formT = true) (hn0 : n ≠ 0) : FormR (.mk 10 t n ps fs vs) := by
 refine form_pre 10 t n ps fs vs hp hf hv fun K w A c A' c' A'' c'' w1 h => ?_
 obtain ⟨HXC, KAll, KPl, KNm, KOb, KBi, KOv, HREP, HCN, HBZ, HB, HS1, HX0, HW1, hlp, hlf, hlv⟩ := h
 clear hp hf hv
 have HVal : Hid (formT (.mk 10 t n ps fs vs) = false) := Hd (by
  rw [formT_mk, show shapeK 10 = ⟨true, false, false, false, 0, 0, true⟩ from rfl, hpa]
  unfold fitsB selfB
  simp [hnf, hnv, hn0])
 obtain ⟨f1, f2, f3, f4⟩ := no4 (m := fs.length) (n := vs.length) (by omega) (by omega)
 rw [hpa] at KAll
 have f5 : (n == 0) = false := by simpa using hn0
 clear hnf hnv hn0 hpa
 go_enter Tryz.func23, Tryz.ntmps23
 go_upto_region 1 with fail
 rw [← HW1.out]
 obtain ⟨x0, x1, x2, x3, x4, x5⟩ := HXC.out _ HB.out
 go_wp2_with fail
 refine (KAll.out _ HB.out).mono ?_
 rintro e w2 ⟨rfl, hb⟩
 have HB1 := Hd (HB.out.trans (hb.mono HB.out.size))
 clear hb
 clear x0 x1 x2 x3 x4 x5
 obtain ⟨x0, x1, x2, x3, x4, x5⟩ := HXC.out _ HB1.out
 go_wp2_with fail
 go_ret
 exact ⟨by rw [HVal.out]; rfl, HBZ.out.trans (HB1.out.mono HBZ.out.size)⟩
theorem form_10p (t : ByteArray) (n : Int) (ps : List Ty) (fs : FsT) (vs : VsT) (hp : ∀ p ∈ ps, FormR p) (hf : ∀ f ∈ fs, FormR f.2.2) (hv : ∀ v ∈ vs, ∀ b ∈ v.2, FormR b) (hnf : fs.length = 0) (hnv : vs.length = 0) (hpa : ps.all formT = true) (hn0 : n = 0) (hnp : ps.length ≠ 0) : FormR (.mk 10 t n ps fs vs) := by
 refine form_pre 10 t n ps fs vs hp hf hv fun K w A c A' c' A'' c'' w1 h => ?_
 obtain ⟨HXC, KAll, KPl, KNm, KOb, KBi, KOv, HREP, HCN, HBZ, HB, HS1, HX0, HW1, hlp, hlf, hlv⟩ := h
 clear hp hf hv
 have HVal : Hid (formT (.mk 10 t n ps fs vs) = false) := Hd (by
  rw [formT_mk, show shapeK 10 = ⟨true, false, false, false, 0, 0, true⟩ from rfl, hpa]
  unfold fitsB selfB
  simp [hnf, hnv, hn0]
  exact fun h => hnp (by rw [h]; rfl))
 obtain ⟨f1, f2, f3, f4⟩ := no4 (m := fs.length) (n := vs.length) (by omega) (by omega)
 rw [hpa] at KAll
 have f5 : (n == 0) = true := by simpa using hn0
 have p1 : ((ps.length : Int) == 0) = false := beq_eq_false_iff_ne.2 (by omega)
 have p2 : (ps.length == 0) = false := beq_eq_false_iff_ne.2 (by omega)
 have p3 : decide (ps.length = 0) = false := decide_eq_false (by omega)
 have p4 : decide ((ps.length : Int) = 0) = false := decide_eq_false (by omega)
 clear hnf hnv hnp hn0 hpa
 go_enter Tryz.func23, Tryz.ntmps23
 go_upto_region 1 with fail
 rw [← HW1.out]
 obtain ⟨x0, x1, x2, x3, x4, x5⟩ := HXC.out _ HB.out
 go_wp2_with fail
 refine (KAll.out _ HB.out).mono ?_
 rintro e w2 ⟨rfl, hb⟩
 have HB1 := Hd (HB.out.trans (hb.mono HB.out.size))
 clear hb
 clear x0 x1 x2 x3 x4 x5
 obtain ⟨x0, x1, x2, x3, x4, x5⟩ := HXC.out _ HB1.out
 go_wp2_with fail
 go_ret
 exact ⟨by rw [HVal.out]; rfl, HBZ.out.trans (HB1.out.mono HBZ.out.size)⟩
theorem form_10y (t : ByteArray) (n : Int) (ps : List Ty) (fs : FsT) (vs : VsT) (hp : ∀ p ∈ ps, FormR p) (hf : ∀ f ∈ fs, FormR f.2.2) (hv : ∀ v ∈ vs, ∀ b ∈ v.2, FormR b) (hnf : fs.length = 0) (hnv : vs.length = 0) (hpa : ps.all formT = true) (hn0 : n = 0) (hnp : ps.length = 0) : FormR (.mk 10 t n ps fs vs) := by
 refine form_pre 10 t n ps fs vs hp hf hv fun K w A c A' c' A'' c'' w1 h => ?_
 obtain ⟨HXC, KAll, KPl, KNm, KOb, KBi, KOv, HREP, HCN, HBZ, HB, HS1, HX0, HW1, hlp, hlf, hlv⟩ := h
 clear hp hf hv
 have HVal : Hid (formT (.mk 10 t n ps fs vs) = true) := Hd (by
  rw [formT_mk, show shapeK 10 = ⟨true, false, false, false, 0, 0, true⟩ from rfl, hpa]
  unfold fitsB selfB
  simp [hnf, hnv, hn0, hnp])
 obtain ⟨f1, f2, f3, f4⟩ := no4 (m := fs.length) (n := vs.length) (by omega) (by omega)
 rw [hpa] at KAll
 have f5 : (n == 0) = true := by simpa using hn0
 have p1 : ((ps.length : Int) == 0) = true := beq_iff_eq.2 (by omega)
 have p2 : (ps.length == 0) = true := beq_iff_eq.2 (by omega)
 have p3 : decide (ps.length = 0) = true := decide_eq_true (by omega)
 have p4 : decide ((ps.length : Int) = 0) = true := decide_eq_true (by omega)
 clear hnf hnv hnp hn0 hpa
 go_enter Tryz.func23, Tryz.ntmps23
 go_upto_region 1 with fail
 rw [← HW1.out]
 obtain ⟨x0, x1, x2, x3, x4, x5⟩ := HXC.out _ HB.out
 go_wp2_with fail
 refine (KAll.out _ HB.out).mono ?_
 rintro e w2 ⟨rfl, hb⟩
 have HB1 := Hd (HB.out.trans (hb.mono HB.out.size))
 clear hb
 clear x0 x1 x2 x3 x4 x5
 obtain ⟨x0, x1, x2, x3, x4, x5⟩ := HXC.out _ HB1.out
 go_wp2_with fail
 go_ret
 exact ⟨by rw [HVal.out]; rfl, HBZ.out.trans (HB1.out.mono HBZ.out.size)⟩
theorem form_Rt (k : Int) (hk : k = 11 ∨ k = 18) (t : ByteArray) (n : Int) (ps : List Ty) (fs : FsT) (vs : VsT) (hp : ∀ p ∈ ps, FormR p) (hf : ∀ f ∈ fs, FormR f.2.2) (hv : ∀ v ∈ vs, ∀ b ∈ v.2, FormR b) (hnf : fs.length = 0) (hnv : vs.length = 0) (hpa : ps.all formT = true) (a0 : UInt8) (l0 : List UInt8) (ht0 : t.toList = a0 :: l0) : FormR (.mk k t n ps fs vs) := by
 refine form_pre k t n ps fs vs hp hf hv fun K w A c A' c' A'' c'' w1 h => ?_
 obtain ⟨HXC, KAll, KPl, KNm, KOb, KBi, KOv, HREP, HCN, HBZ, HB, HS1, HX0, HW1, hlp, hlf, hlv⟩ := h
 clear hp hf hv
 have hs : shapeK k = ⟨false, false, false, false, 1, 1, true⟩ := by rcases hk with rfl | rfl <;> rfl
 have HVal : Hid (formT (.mk k t n ps fs vs) = false) := Hd (by
  rcases hk with rfl | rfl
  all_goals (
   rw [formT_mk, hs, hpa]
   unfold fitsB selfB
   simp [hnf, hnv, ht0]))
 obtain ⟨f1, f2, f3, f4⟩ := no4 (m := fs.length) (n := vs.length) (by omega) (by omega)
 rw [hpa] at KAll
 have ep : (t.toList == [] && n == 0) = false := by rw [ht0]; rfl
 rw [ep] at KPl
 clear hnf hnv hpa ht0
 clear hs
 rcases hk with rfl | rfl
 all_goals (
  go_enter Tryz.func23, Tryz.ntmps23
  go_upto_region 1 with fail
  rw [← HW1.out]
  obtain ⟨x0, x1, x2, x3, x4, x5⟩ := HXC.out _ HB.out
  go_wp2_with fail
  refine (KAll.out _ HB.out).mono ?_
  rintro e w2 ⟨rfl, hb⟩
  have HB1 := Hd (HB.out.trans (hb.mono HB.out.size))
  clear hb
  clear x0 x1 x2 x3 x4 x5
  obtain ⟨x0, x1, x2, x3, x4, x5⟩ := HXC.out _ HB1.out
  go_wp2_with fail
  refine (KPl.out _).mono ?_
  rintro e w3 ⟨rfl, hb⟩
  have HB2 := Hd (HB1.out.trans (hb.mono HB1.out.size))
  clear hb
  clear x0 x1 x2 x3 x4 x5
  obtain ⟨x0, x1, x2, x3, x4, x5⟩ := HXC.out _ HB2.out
  go_wp2_with fail
  go_ret
  exact ⟨by rw [HVal.out]; rfl, HBZ.out.trans (HB2.out.mono HBZ.out.size)⟩)
theorem form_Rn (k : Int) (hk : k = 11 ∨ k = 18) (t : ByteArray) (n : Int) (ps : List Ty) (fs : FsT) (vs : VsT) (hp : ∀ p ∈ ps, FormR p) (hf : ∀ f ∈ fs, FormR f.2.2) (hv : ∀ v ∈ vs, ∀ b ∈ v.2, FormR b) (hnf : fs.length = 0) (hnv : vs.length = 0) (hpa : ps.all formT = true) (ht0 : t.toList = []) (hn0 : n ≠ 0) : FormR (.mk k t n ps fs vs) := by
 refine form_pre k t n ps fs vs hp hf hv fun K w A c A' c' A'' c'' w1 h => ?_
 obtain ⟨HXC, KAll, KPl, KNm, KOb, KBi, KOv, HREP, HCN, HBZ, HB, HS1, HX0, HW1, hlp, hlf, hlv⟩ := h
 clear hp hf hv
 have hs : shapeK k = ⟨false, false, false, false, 1, 1, true⟩ := by rcases hk with rfl | rfl <;> rfl
 have HVal : Hid (formT (.mk k t n ps fs vs) = false) := Hd (by
  rcases hk with rfl | rfl
  all_goals (
   rw [formT_mk, hs, hpa]
   unfold fitsB selfB
   simp [hnf, hnv, ht0, hn0]))
 obtain ⟨f1, f2, f3, f4⟩ := no4 (m := fs.length) (n := vs.length) (by omega) (by omega)
 rw [hpa] at KAll
 have ep : (t.toList == [] && n == 0) = false := by rw [ht0]; simpa using hn0
 rw [ep] at KPl
 clear hnf hnv hn0 hpa ht0
 clear hs
 rcases hk with rfl | rfl
 all_goals (
  go_enter Tryz.func23, Tryz.ntmps23
  go_upto_region 1 with fail
  rw [← HW1.out]
  obtain ⟨x0, x1, x2, x3, x4, x5⟩ := HXC.out _ HB.out
  go_wp2_with fail
  refine (KAll.out _ HB.out).mono ?_
  rintro e w2 ⟨rfl, hb⟩
  have HB1 := Hd (HB.out.trans (hb.mono HB.out.size))
  clear hb
  clear x0 x1 x2 x3 x4 x5
  obtain ⟨x0, x1, x2, x3, x4, x5⟩ := HXC.out _ HB1.out
  go_wp2_with fail
  refine (KPl.out _).mono ?_
  rintro e w3 ⟨rfl, hb⟩
  have HB2 := Hd (HB1.out.trans (hb.mono HB1.out.size))
  clear hb
  clear x0 x1 x2 x3 x4 x5
  obtain ⟨x0, x1, x2, x3, x4, x5⟩ := HXC.out _ HB2.out
  go_wp2_with fail
  go_ret
  exact ⟨by rw [HVal.out]; rfl, HBZ.out.trans (HB2.out.mono HBZ.out.size)⟩)
theorem form_Rp (k : Int) (hk : k = 11 ∨ k = 18) (t : ByteArray) (n : Int) (ps : List Ty) (fs : FsT) (vs : VsT) (hp : ∀ p ∈ ps, FormR p) (hf : ∀ f ∈ fs, FormR f.2.2) (hv : ∀ v ∈ vs, ∀ b ∈ v.2, FormR b) (hnf : fs.length = 0) (hnv : vs.length = 0) (hpa : ps.all formT = true) (ht0 : t.toList = []) (hn0 : n = 0) (hnp : ps.length ≠ 1) : FormR (.mk k t n ps fs vs) := by
 refine form_pre k t n ps fs vs hp hf hv fun K w A c A' c' A'' c'' w1 h => ?_
 obtain ⟨HXC, KAll, KPl, KNm, KOb, KBi, KOv, HREP, HCN, HBZ, HB, HS1, HX0, HW1, hlp, hlf, hlv⟩ := h
 clear hp hf hv
 have hs : shapeK k = ⟨false, false, false, false, 1, 1, true⟩ := by rcases hk with rfl | rfl <;> rfl
 have HVal : Hid (formT (.mk k t n ps fs vs) = false) := Hd (by
  rcases hk with rfl | rfl
  all_goals (
   rw [formT_mk, hs, hpa]
   unfold fitsB selfB
   simp [hnf, hnv, ht0, hn0]
   omega))
 obtain ⟨f1, f2, f3, f4⟩ := no4 (m := fs.length) (n := vs.length) (by omega) (by omega)
 rw [hpa] at KAll
 have ep : (t.toList == [] && n == 0) = true := by rw [ht0, hn0]; rfl
 rw [ep] at KPl
 have p1 : ((ps.length : Int) == 1) = false := beq_eq_false_iff_ne.2 (by omega)
 have p2 : (ps.length == 1) = false := beq_eq_false_iff_ne.2 (by omega)
 have p3 : decide (ps.length = 1) = false := decide_eq_false (by omega)
 have p4 : decide ((ps.length : Int) = 1) = false := decide_eq_false (by omega)
 clear hnf hnv hnp hn0 hpa ht0
 clear hs
 rcases hk with rfl | rfl
 all_goals (
  go_enter Tryz.func23, Tryz.ntmps23
  go_upto_region 1 with fail
  rw [← HW1.out]
  obtain ⟨x0, x1, x2, x3, x4, x5⟩ := HXC.out _ HB.out
  go_wp2_with fail
  refine (KAll.out _ HB.out).mono ?_
  rintro e w2 ⟨rfl, hb⟩
  have HB1 := Hd (HB.out.trans (hb.mono HB.out.size))
  clear hb
  clear x0 x1 x2 x3 x4 x5
  obtain ⟨x0, x1, x2, x3, x4, x5⟩ := HXC.out _ HB1.out
  go_wp2_with fail
  refine (KPl.out _).mono ?_
  rintro e w3 ⟨rfl, hb⟩
  have HB2 := Hd (HB1.out.trans (hb.mono HB1.out.size))
  clear hb
  clear x0 x1 x2 x3 x4 x5
  obtain ⟨x0, x1, x2, x3, x4, x5⟩ := HXC.out _ HB2.out
  go_wp2_with fail
  go_ret
  exact ⟨by rw [HVal.out]; rfl, HBZ.out.trans (HB2.out.mono HBZ.out.size)⟩)
theorem form_Ry (k : Int) (hk : k = 11 ∨ k = 18) (t : ByteArray) (n : Int) (ps : List Ty) (fs : FsT) (vs : VsT) (hp : ∀ p ∈ ps, FormR p) (hf : ∀ f ∈ fs, FormR f.2.2) (hv : ∀ v ∈ vs, ∀ b ∈ v.2, FormR b) (hnf : fs.length = 0) (hnv : vs.length = 0) (hpa : ps.all formT = true) (ht0 : t.toList = []) (hn0 : n = 0) (hnp : ps.length = 1) : FormR (.mk k t n ps fs vs) := by
 refine form_pre k t n ps fs vs hp hf hv fun K w A c A' c' A'' c'' w1 h => ?_
 obtain ⟨HXC, KAll, KPl, KNm, KOb, KBi, KOv, HREP, HCN, HBZ, HB, HS1, HX0, HW1, hlp, hlf, hlv⟩ := h
 clear hp hf hv
 have hs : shapeK k = ⟨false, false, false, false, 1, 1, true⟩ := by rcases hk with rfl | rfl <;> rfl
 have HVal : Hid (formT (.mk k t n ps fs vs) = true) := Hd (by
  rcases hk with rfl | rfl
  all_goals (
   rw [formT_mk, hs, hpa]
   unfold fitsB selfB
   simp [hnf, hnv, ht0, hn0, hnp]))
 obtain ⟨f1, f2, f3, f4⟩ := no4 (m := fs.length) (n := vs.length) (by omega) (by omega)
 rw [hpa] at KAll
 have ep : (t.toList == [] && n == 0) = true := by rw [ht0, hn0]; rfl
 rw [ep] at KPl
 have p1 : ((ps.length : Int) == 1) = true := beq_iff_eq.2 (by omega)
 have p2 : (ps.length == 1) = true := beq_iff_eq.2 (by omega)
 have p3 : decide (ps.length = 1) = true := decide_eq_true (by omega)
 have p4 : decide ((ps.length : Int) = 1) = true := decide_eq_true (by omega)
 clear hnf hnv hnp hn0 hpa ht0
 clear hs
 rcases hk with rfl | rfl
 all_goals (
  go_enter Tryz.func23, Tryz.ntmps23
  go_upto_region 1 with fail
  rw [← HW1.out]
  obtain ⟨x0, x1, x2, x3, x4, x5⟩ := HXC.out _ HB.out
  go_wp2_with fail
  refine (KAll.out _ HB.out).mono ?_
  rintro e w2 ⟨rfl, hb⟩
  have HB1 := Hd (HB.out.trans (hb.mono HB.out.size))
  clear hb
  clear x0 x1 x2 x3 x4 x5
  obtain ⟨x0, x1, x2, x3, x4, x5⟩ := HXC.out _ HB1.out
  go_wp2_with fail
  refine (KPl.out _).mono ?_
  rintro e w3 ⟨rfl, hb⟩
  have HB2 := Hd (HB1.out.trans (hb.mono HB1.out.size))
  clear hb
  clear x0 x1 x2 x3 x4 x5
  obtain ⟨x0, x1, x2, x3, x4, x5⟩ := HXC.out _ HB2.out
  go_wp2_with fail
  go_ret
  exact ⟨by rw [HVal.out]; rfl, HBZ.out.trans (HB2.out.mono HBZ.out.size)⟩)
end Go.Proofs.YtgjblmlibhppiaaGreatDoor
