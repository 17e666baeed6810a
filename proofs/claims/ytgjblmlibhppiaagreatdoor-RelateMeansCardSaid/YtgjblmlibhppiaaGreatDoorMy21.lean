import Derived.Test.YtgjblmlibhppiaaGreatDoorMy19
namespace Go.Proofs.YtgjblmlibhppiaaGreatDoor
set_option maxRecDepth 100000
set_option maxHeartbeats 64000000
open Go.RowKit
theorem form_12t (t : ByteArray) (n : Int) (ps : List Ty) (fs : FsT) (vs : VsT) (hp : ∀ p ∈ ps, FormR p) (hf : ∀ f ∈ fs, FormR f.2.2) (hv : ∀ v ∈ vs, ∀ b ∈ v.2, FormR b) (hnf : fs.length = 0) (hnv : vs.length = 0) (hpa : ps.all formT = true) (a0 : UInt8) (l0 : List UInt8) (ht0 : t.toList = a0 :: l0) : FormR (.mk 12 t n ps fs vs) := by
 refine form_pre 12 t n ps fs vs hp hf hv fun K w A c A' c' A'' c'' w1 h => ?_
 obtain ⟨HXC, KAll, KPl, KNm, KOb, KBi, KOv, HREP, HCN, HBZ, HB, HS1, HX0, HW1, hlp, hlf, hlv⟩ := h
 clear hp hf hv
 have HVal : Hid (formT (.mk 12 t n ps fs vs) = false) := Hd (by
  rw [formT_mk, show shapeK 12 = ⟨false, false, false, false, 0, -1, true⟩ from rfl, hpa]
  unfold fitsB selfB
  simp [hnf, hnv, ht0])
 obtain ⟨f1, f2, f3, f4⟩ := no4 (m := fs.length) (n := vs.length) (by omega) (by omega)
 rw [hpa] at KAll
 have ep : (t.toList == [] && n == 0) = false := by rw [ht0]; rfl
 rw [ep] at KPl
 clear hnf hnv hpa ht0
 go_enter Tryz.func23, Tryz.ntmps23
 go_upto_region 1 with fail
 rw [← HW1.out]
 obtain ⟨x0, x1, x2, x3, x4, x5⟩ := HXC.out _ HB.out
 go_wp2_with fail
 refine (KAll.out _ HB.out).mono ?_
 rintro e w2 ⟨rfl, hb⟩
 have HB1 := Hd (HB.out.trans (hb.mono HB.out.size))
 clear hb
 clear x0 x1 x2 x3 x4 x5
 obtain ⟨x0, x1, x2, x3, x4, x5⟩ := HXC.out _ HB1.out
 go_wp2_with fail
 refine (KPl.out _).mono ?_
 rintro e w3 ⟨rfl, hb⟩
 have HB2 := Hd (HB1.out.trans (hb.mono HB1.out.size))
 clear hb
 clear x0 x1 x2 x3 x4 x5
 obtain ⟨x0, x1, x2, x3, x4, x5⟩ := HXC.out _ HB2.out
 go_wp2_with fail
 go_ret
 exact ⟨by rw [HVal.out]; rfl, HBZ.out.trans (HB2.out.mono HBZ.out.size)⟩
theorem form_12n (t : ByteArray) (n : Int) (ps : List Ty) (fs : FsT) (vs : VsT) (hp : ∀ p ∈ ps, FormR p) (hf : ∀ f ∈ fs, FormR f.2.2) (hv : ∀ v ∈ vs, ∀ b ∈ v.2, FormR b) (hnf : fs.length = 0) (hnv : vs.length = 0) (hpa : ps.all formT = true) (ht0 : t.toList = []) (hn0 : n ≠ 0) : FormR (.mk 12 t n ps fs vs) := by
 refine form_pre 12 t n ps fs vs hp hf hv fun K w A c A' c' A'' c'' w1 h => ?_
 obtain ⟨HXC, KAll, KPl, KNm, KOb, KBi, KOv, HREP, HCN, HBZ, HB, HS1, HX0, HW1, hlp, hlf, hlv⟩ := h
 clear hp hf hv
 have HVal : Hid (formT (.mk 12 t n ps fs vs) = false) := Hd (by
  rw [formT_mk, show shapeK 12 = ⟨false, false, false, false, 0, -1, true⟩ from rfl, hpa]
  unfold fitsB selfB
  simp [hnf, hnv, ht0, hn0])
 obtain ⟨f1, f2, f3, f4⟩ := no4 (m := fs.length) (n := vs.length) (by omega) (by omega)
 rw [hpa] at KAll
 have ep : (t.toList == [] && n == 0) = false := by rw [ht0]; simpa using hn0
 rw [ep] at KPl
 clear hnf hnv hn0 hpa ht0
 go_enter Tryz.func23, Tryz.ntmps23
 go_upto_region 1 with fail
 rw [← HW1.out]
 obtain ⟨x0, x1, x2, x3, x4, x5⟩ := HXC.out _ HB.out
 go_wp2_with fail
 refine (KAll.out _ HB.out).mono ?_
 rintro e w2 ⟨rfl, hb⟩
 have HB1 := Hd (HB.out.trans (hb.mono HB.out.size))
 clear hb
 clear x0 x1 x2 x3 x4 x5
 obtain ⟨x0, x1, x2, x3, x4, x5⟩ := HXC.out _ HB1.out
 go_wp2_with fail
 refine (KPl.out _).mono ?_
 rintro e w3 ⟨rfl, hb⟩
 have HB2 := Hd (HB1.out.trans (hb.mono HB1.out.size))
 clear hb
 clear x0 x1 x2 x3 x4 x5
 obtain ⟨x0, x1, x2, x3, x4, x5⟩ := HXC.out _ HB2.out
 go_wp2_with fail
 go_ret
 exact ⟨by rw [HVal.out]; rfl, HBZ.out.trans (HB2.out.mono HBZ.out.size)⟩
theorem form_12y (t : ByteArray) (n : Int) (ps : List Ty) (fs : FsT) (vs : VsT) (hp : ∀ p ∈ ps, FormR p) (hf : ∀ f ∈ fs, FormR f.2.2) (hv : ∀ v ∈ vs, ∀ b ∈ v.2, FormR b) (hnf : fs.length = 0) (hnv : vs.length = 0) (hpa : ps.all formT = true) (ht0 : t.toList = []) (hn0 : n = 0) : FormR (.mk 12 t n ps fs vs) := by
 refine form_pre 12 t n ps fs vs hp hf hv fun K w A c A' c' A'' c'' w1 h => ?_
 obtain ⟨HXC, KAll, KPl, KNm, KOb, KBi, KOv, HREP, HCN, HBZ, HB, HS1, HX0, HW1, hlp, hlf, hlv⟩ := h
 clear hp hf hv
 have HVal : Hid (formT (.mk 12 t n ps fs vs) = true) := Hd (by
  rw [formT_mk, show shapeK 12 = ⟨false, false, false, false, 0, -1, true⟩ from rfl, hpa]
  unfold fitsB selfB
  simp [hnf, hnv, ht0, hn0])
 obtain ⟨f1, f2, f3, f4⟩ := no4 (m := fs.length) (n := vs.length) (by omega) (by omega)
 rw [hpa] at KAll
 have ep : (t.toList == [] && n == 0) = true := by rw [ht0, hn0]; rfl
 rw [ep] at KPl
 clear hnf hnv hn0 hpa ht0
 go_enter Tryz.func23, Tryz.ntmps23
 go_upto_region 1 with fail
 rw [← HW1.out]
 obtain ⟨x0, x1, x2, x3, x4, x5⟩ := HXC.out _ HB.out
 go_wp2_with fail
 refine (KAll.out _ HB.out).mono ?_
 rintro e w2 ⟨rfl, hb⟩
 have HB1 := Hd (HB.out.trans (hb.mono HB.out.size))
 clear hb
 clear x0 x1 x2 x3 x4 x5
 obtain ⟨x0, x1, x2, x3, x4, x5⟩ := HXC.out _ HB1.out
 go_wp2_with fail
 refine (KPl.out _).mono ?_
 rintro e w3 ⟨rfl, hb⟩
 have HB2 := Hd (HB1.out.trans (hb.mono HB1.out.size))
 clear hb
 clear x0 x1 x2 x3 x4 x5
 obtain ⟨x0, x1, x2, x3, x4, x5⟩ := HXC.out _ HB2.out
 go_wp2_with fail
 go_ret
 exact ⟨by rw [HVal.out]; rfl, HBZ.out.trans (HB2.out.mono HBZ.out.size)⟩
theorem form_13t (t : ByteArray) (n : Int) (ps : List Ty) (fs : FsT) (vs : VsT) (hp : ∀ p ∈ ps, FormR p) (hf : ∀ f ∈ fs, FormR f.2.2) (hv : ∀ v ∈ vs, ∀ b ∈ v.2, FormR b) (hnf : fs.length = 0) (hpa : ps.all formT = true) (a0 : UInt8) (l0 : List UInt8) (ht0 : t.toList = a0 :: l0) : FormR (.mk 13 t n ps fs vs) := by
 refine form_pre 13 t n ps fs vs hp hf hv fun K w A c A' c' A'' c'' w1 h => ?_
 obtain ⟨HXC, KAll, KPl, KNm, KOb, KBi, KOv, HREP, HCN, HBZ, HB, HS1, HX0, HW1, hlp, hlf, hlv⟩ := h
 clear hp hf hv
 have HVal : Hid (formT (.mk 13 t n ps fs vs) = false) := Hd (by
  rw [formT_mk, show shapeK 13 = ⟨false, false, false, true, 1, -1, true⟩ from rfl, hpa]
  unfold fitsB selfB
  simp [hnf, ht0])
 have f1 : decide ((0 : Int) < (fs.length : Int)) = false := decide_eq_false (by omega)
 have f2 : decide (0 < fs.length) = false := decide_eq_false (by omega)
 rw [hpa] at KAll
 have ep : (t.toList == [] && n == 0) = false := by rw [ht0]; rfl
 rw [ep] at KPl
 clear hnf hpa ht0
 go_enter Tryz.func23, Tryz.ntmps23
 go_upto_region 1 with fail
 rw [← HW1.out]
 obtain ⟨x0, x1, x2, x3, x4, x5⟩ := HXC.out _ HB.out
 go_wp2_with fail
 refine (KAll.out _ HB.out).mono ?_
 rintro e w2 ⟨rfl, hb⟩
 have HB1 := Hd (HB.out.trans (hb.mono HB.out.size))
 clear hb
 clear x0 x1 x2 x3 x4 x5
 obtain ⟨x0, x1, x2, x3, x4, x5⟩ := HXC.out _ HB1.out
 go_wp2_with fail
 refine (KPl.out _).mono ?_
 rintro e w3 ⟨rfl, hb⟩
 have HB2 := Hd (HB1.out.trans (hb.mono HB1.out.size))
 clear hb
 clear x0 x1 x2 x3 x4 x5
 obtain ⟨x0, x1, x2, x3, x4, x5⟩ := HXC.out _ HB2.out
 go_wp2_with fail
 go_ret
 exact ⟨by rw [HVal.out]; rfl, HBZ.out.trans (HB2.out.mono HBZ.out.size)⟩
theorem form_13n (t : ByteArray) (n : Int) (ps : List Ty) (fs : FsT) (vs : VsT) (hp : ∀ p ∈ ps, FormR p) (hf : ∀ f ∈ fs, FormR f.2.2) (hv : ∀ v ∈ vs, ∀ b ∈ v.2, FormR b) (hnf : fs.length = 0) (hpa : ps.all formT = true) (ht0 : t.toList = []) (hn0 : n ≠ 0) : FormR (.mk 13 t n ps fs vs) := by
 refine form_pre 13 t n ps fs vs hp hf hv fun K w A c A' c' A'' c'' w1 h => ?_
 obtain ⟨HXC, KAll, KPl, KNm, KOb, KBi, KOv, HREP, HCN, HBZ, HB, HS1, HX0, HW1, hlp, hlf, hlv⟩ := h
 clear hp hf hv
 have HVal : Hid (formT (.mk 13 t n ps fs vs) = false) := Hd (by
  rw [formT_mk, show shapeK 13 = ⟨false, false, false, true, 1, -1, true⟩ from rfl, hpa]
  unfold fitsB selfB
  simp [hnf, ht0, hn0])
 have f1 : decide ((0 : Int) < (fs.length : Int)) = false := decide_eq_false (by omega)
 have f2 : decide (0 < fs.length) = false := decide_eq_false (by omega)
 rw [hpa] at KAll
 have ep : (t.toList == [] && n == 0) = false := by rw [ht0]; simpa using hn0
 rw [ep] at KPl
 clear hnf hn0 hpa ht0
 go_enter Tryz.func23, Tryz.ntmps23
 go_upto_region 1 with fail
 rw [← HW1.out]
 obtain ⟨x0, x1, x2, x3, x4, x5⟩ := HXC.out _ HB.out
 go_wp2_with fail
 refine (KAll.out _ HB.out).mono ?_
 rintro e w2 ⟨rfl, hb⟩
 have HB1 := Hd (HB.out.trans (hb.mono HB.out.size))
 clear hb
 clear x0 x1 x2 x3 x4 x5
 obtain ⟨x0, x1, x2, x3, x4, x5⟩ := HXC.out _ HB1.out
 go_wp2_with fail
 refine (KPl.out _).mono ?_
 rintro e w3 ⟨rfl, hb⟩
 have HB2 := Hd (HB1.out.trans (hb.mono HB1.out.size))
 clear hb
 clear x0 x1 x2 x3 x4 x5
 obtain ⟨x0, x1, x2, x3, x4, x5⟩ := HXC.out _ HB2.out
 go_wp2_with fail
 go_ret
 exact ⟨by rw [HVal.out]; rfl, HBZ.out.trans (HB2.out.mono HBZ.out.size)⟩
theorem form_13p (t : ByteArray) (n : Int) (ps : List Ty) (fs : FsT) (vs : VsT) (hp : ∀ p ∈ ps, FormR p) (hf : ∀ f ∈ fs, FormR f.2.2) (hv : ∀ v ∈ vs, ∀ b ∈ v.2, FormR b) (hnf : fs.length = 0) (hpa : ps.all formT = true) (ht0 : t.toList = []) (hn0 : n = 0) (hnp : ¬ 1 ≤ ps.length) : FormR (.mk 13 t n ps fs vs) := by
 refine form_pre 13 t n ps fs vs hp hf hv fun K w A c A' c' A'' c'' w1 h => ?_
 obtain ⟨HXC, KAll, KPl, KNm, KOb, KBi, KOv, HREP, HCN, HBZ, HB, HS1, HX0, HW1, hlp, hlf, hlv⟩ := h
 clear hp hf hv
 have HVal : Hid (formT (.mk 13 t n ps fs vs) = false) := Hd (by
  rw [formT_mk, show shapeK 13 = ⟨false, false, false, true, 1, -1, true⟩ from rfl, hpa]
  unfold fitsB selfB
  simp [hnf, ht0, hn0]
  omega)
 have f1 : decide ((0 : Int) < (fs.length : Int)) = false := decide_eq_false (by omega)
 have f2 : decide (0 < fs.length) = false := decide_eq_false (by omega)
 rw [hpa] at KAll
 have ep : (t.toList == [] && n == 0) = true := by rw [ht0, hn0]; rfl
 rw [ep] at KPl
 have p1 : decide ((1 : Int) ≤ (ps.length : Int)) = false := decide_eq_false (by omega)
 have p2 : decide (1 ≤ ps.length) = false := decide_eq_false (by omega)
 clear hnf hnp hn0 hpa ht0
 go_enter Tryz.func23, Tryz.ntmps23
 go_upto_region 1 with fail
 rw [← HW1.out]
 obtain ⟨x0, x1, x2, x3, x4, x5⟩ := HXC.out _ HB.out
 go_wp2_with fail
 refine (KAll.out _ HB.out).mono ?_
 rintro e w2 ⟨rfl, hb⟩
 have HB1 := Hd (HB.out.trans (hb.mono HB.out.size))
 clear hb
 clear x0 x1 x2 x3 x4 x5
 obtain ⟨x0, x1, x2, x3, x4, x5⟩ := HXC.out _ HB1.out
 go_wp2_with fail
 refine (KPl.out _).mono ?_
 rintro e w3 ⟨rfl, hb⟩
 have HB2 := Hd (HB1.out.trans (hb.mono HB1.out.size))
 clear hb
 clear x0 x1 x2 x3 x4 x5
 obtain ⟨x0, x1, x2, x3, x4, x5⟩ := HXC.out _ HB2.out
 go_wp2_with fail
 go_ret
 exact ⟨by rw [HVal.out]; rfl, HBZ.out.trans (HB2.out.mono HBZ.out.size)⟩
theorem form_13bf (t : ByteArray) (n : Int) (ps : List Ty) (fs : FsT) (vs : VsT) (hp : ∀ p ∈ ps, FormR p) (hf : ∀ f ∈ fs, FormR f.2.2) (hv : ∀ v ∈ vs, ∀ b ∈ v.2, FormR b) (hnf : fs.length = 0) (hpa : ps.all formT = true) (ht0 : t.toList = []) (hn0 : n = 0) (hnp : 1 ≤ ps.length) (hbi : varsB (varsT vs formT) = false) : FormR (.mk 13 t n ps fs vs) := by
 refine form_pre 13 t n ps fs vs hp hf hv fun K w A c A' c' A'' c'' w1 h => ?_
 obtain ⟨HXC, KAll, KPl, KNm, KOb, KBi, KOv, HREP, HCN, HBZ, HB, HS1, HX0, HW1, hlp, hlf, hlv⟩ := h
 clear hp hf hv
 have HVal : Hid (formT (.mk 13 t n ps fs vs) = false) := Hd (by
  rw [formT_mk, show shapeK 13 = ⟨false, false, false, true, 1, -1, true⟩ from rfl, hpa]
  unfold fitsB selfB
  simp [hnf, ht0, hn0, hbi])
 have f1 : decide ((0 : Int) < (fs.length : Int)) = false := decide_eq_false (by omega)
 have f2 : decide (0 < fs.length) = false := decide_eq_false (by omega)
 rw [hpa] at KAll
 have ep : (t.toList == [] && n == 0) = true := by rw [ht0, hn0]; rfl
 rw [ep] at KPl
 have p1 : decide ((1 : Int) ≤ (ps.length : Int)) = true := decide_eq_true (by omega)
 have p2 : decide (1 ≤ ps.length) = true := decide_eq_true (by omega)
 rw [hbi] at KBi
 clear hnf hnp hn0 hpa hbi ht0
 go_enter Tryz.func23, Tryz.ntmps23
 go_upto_region 1 with fail
 rw [← HW1.out]
 obtain ⟨x0, x1, x2, x3, x4, x5⟩ := HXC.out _ HB.out
 go_wp2_with fail
 refine (KAll.out _ HB.out).mono ?_
 rintro e w2 ⟨rfl, hb⟩
 have HB1 := Hd (HB.out.trans (hb.mono HB.out.size))
 clear hb
 clear x0 x1 x2 x3 x4 x5
 obtain ⟨x0, x1, x2, x3, x4, x5⟩ := HXC.out _ HB1.out
 go_wp2_with fail
 refine (KPl.out _).mono ?_
 rintro e w3 ⟨rfl, hb⟩
 have HB2 := Hd (HB1.out.trans (hb.mono HB1.out.size))
 clear hb
 clear x0 x1 x2 x3 x4 x5
 obtain ⟨x0, x1, x2, x3, x4, x5⟩ := HXC.out _ HB2.out
 go_wp2_with fail
 refine (KBi.out _ HB2.out).mono ?_
 rintro e w4 ⟨rfl, hb⟩
 have HB3 := Hd (HB2.out.trans (hb.mono HB2.out.size))
 clear hb
 clear x0 x1 x2 x3 x4 x5
 obtain ⟨x0, x1, x2, x3, x4, x5⟩ := HXC.out _ HB3.out
 go_wp2_with fail
 go_ret
 exact ⟨by rw [HVal.out]; rfl, HBZ.out.trans (HB3.out.mono HBZ.out.size)⟩
theorem form_13bt (t : ByteArray) (n : Int) (ps : List Ty) (fs : FsT) (vs : VsT) (hp : ∀ p ∈ ps, FormR p) (hf : ∀ f ∈ fs, FormR f.2.2) (hv : ∀ v ∈ vs, ∀ b ∈ v.2, FormR b) (hnf : fs.length = 0) (hpa : ps.all formT = true) (ht0 : t.toList = []) (hn0 : n = 0) (hnp : 1 ≤ ps.length) (hbi : varsB (varsT vs formT) = true) : FormR (.mk 13 t n ps fs vs) := by
 refine form_pre 13 t n ps fs vs hp hf hv fun K w A c A' c' A'' c'' w1 h => ?_
 obtain ⟨HXC, KAll, KPl, KNm, KOb, KBi, KOv, HREP, HCN, HBZ, HB, HS1, HX0, HW1, hlp, hlf, hlv⟩ := h
 clear hp hf hv
 have HVal : Hid (formT (.mk 13 t n ps fs vs) = true) := Hd (by
  rw [formT_mk, show shapeK 13 = ⟨false, false, false, true, 1, -1, true⟩ from rfl, hpa]
  unfold fitsB selfB
  simp [hnf, ht0, hn0, hbi]
  omega)
 have f1 : decide ((0 : Int) < (fs.length : Int)) = false := decide_eq_false (by omega)
 have f2 : decide (0 < fs.length) = false := decide_eq_false (by omega)
 rw [hpa] at KAll
 have ep : (t.toList == [] && n == 0) = true := by rw [ht0, hn0]; rfl
 rw [ep] at KPl
 have p1 : decide ((1 : Int) ≤ (ps.length : Int)) = true := decide_eq_true (by omega)
 have p2 : decide (1 ≤ ps.length) = true := decide_eq_true (by omega)
 rw [hbi] at KBi
 clear hnf hnp hn0 hpa hbi ht0
 go_enter Tryz.func23, Tryz.ntmps23
 go_upto_region 1 with fail
 rw [← HW1.out]
 obtain ⟨x0, x1, x2, x3, x4, x5⟩ := HXC.out _ HB.out
 go_wp2_with fail
 refine (KAll.out _ HB.out).mono ?_
 rintro e w2 ⟨rfl, hb⟩
 have HB1 := Hd (HB.out.trans (hb.mono HB.out.size))
 clear hb
 clear x0 x1 x2 x3 x4 x5
 obtain ⟨x0, x1, x2, x3, x4, x5⟩ := HXC.out _ HB1.out
 go_wp2_with fail
 refine (KPl.out _).mono ?_
 rintro e w3 ⟨rfl, hb⟩
 have HB2 := Hd (HB1.out.trans (hb.mono HB1.out.size))
 clear hb
 clear x0 x1 x2 x3 x4 x5
 obtain ⟨x0, x1, x2, x3, x4, x5⟩ := HXC.out _ HB2.out
 go_wp2_with fail
 refine (KBi.out _ HB2.out).mono ?_
 rintro e w4 ⟨rfl, hb⟩
 have HB3 := Hd (HB2.out.trans (hb.mono HB2.out.size))
 clear hb
 clear x0 x1 x2 x3 x4 x5
 obtain ⟨x0, x1, x2, x3, x4, x5⟩ := HXC.out _ HB3.out
 go_wp2_with fail
 go_ret
 exact ⟨by rw [HVal.out]; rfl, HBZ.out.trans (HB3.out.mono HBZ.out.size)⟩
theorem form_14t (t : ByteArray) (n : Int) (ps : List Ty) (fs : FsT) (vs : VsT) (hp : ∀ p ∈ ps, FormR p) (hf : ∀ f ∈ fs, FormR f.2.2) (hv : ∀ v ∈ vs, ∀ b ∈ v.2, FormR b) (hnv : vs.length = 0) (hpa : ps.all formT = true) (a0 : UInt8) (l0 : List UInt8) (ht0 : t.toList = a0 :: l0) : FormR (.mk 14 t n ps fs vs) := by
 refine form_pre 14 t n ps fs vs hp hf hv fun K w A c A' c' A'' c'' w1 h => ?_
 obtain ⟨HXC, KAll, KPl, KNm, KOb, KBi, KOv, HREP, HCN, HBZ, HB, HS1, HX0, HW1, hlp, hlf, hlv⟩ := h
 clear hp hf hv
 have HVal : Hid (formT (.mk 14 t n ps fs vs) = false) := Hd (by
  rw [formT_mk, show shapeK 14 = ⟨false, false, true, false, 0, 0, true⟩ from rfl, hpa]
  unfold fitsB selfB
  simp [hnv, ht0])
 have f3 : decide ((0 : Int) < (vs.length : Int)) = false := decide_eq_false (by omega)
 have f4 : decide (0 < vs.length) = false := decide_eq_false (by omega)
 rw [hpa] at KAll
 have ep : (t.toList == [] && n == 0) = false := by rw [ht0]; rfl
 rw [ep] at KPl
 clear hnv hpa ht0
 go_enter Tryz.func23, Tryz.ntmps23
 go_upto_region 1 with fail
 rw [← HW1.out]
 obtain ⟨x0, x1, x2, x3, x4, x5⟩ := HXC.out _ HB.out
 go_wp2_with fail
 refine (KAll.out _ HB.out).mono ?_
 rintro e w2 ⟨rfl, hb⟩
 have HB1 := Hd (HB.out.trans (hb.mono HB.out.size))
 clear hb
 clear x0 x1 x2 x3 x4 x5
 obtain ⟨x0, x1, x2, x3, x4, x5⟩ := HXC.out _ HB1.out
 go_wp2_with fail
 refine (KPl.out _).mono ?_
 rintro e w3 ⟨rfl, hb⟩
 have HB2 := Hd (HB1.out.trans (hb.mono HB1.out.size))
 clear hb
 clear x0 x1 x2 x3 x4 x5
 obtain ⟨x0, x1, x2, x3, x4, x5⟩ := HXC.out _ HB2.out
 go_wp2_with fail
 go_ret
 exact ⟨by rw [HVal.out]; rfl, HBZ.out.trans (HB2.out.mono HBZ.out.size)⟩
theorem form_14n (t : ByteArray) (n : Int) (ps : List Ty) (fs : FsT) (vs : VsT) (hp : ∀ p ∈ ps, FormR p) (hf : ∀ f ∈ fs, FormR f.2.2) (hv : ∀ v ∈ vs, ∀ b ∈ v.2, FormR b) (hnv : vs.length = 0) (hpa : ps.all formT = true) (ht0 : t.toList = []) (hn0 : n ≠ 0) : FormR (.mk 14 t n ps fs vs) := by
 refine form_pre 14 t n ps fs vs hp hf hv fun K w A c A' c' A'' c'' w1 h => ?_
 obtain ⟨HXC, KAll, KPl, KNm, KOb, KBi, KOv, HREP, HCN, HBZ, HB, HS1, HX0, HW1, hlp, hlf, hlv⟩ := h
 clear hp hf hv
 have HVal : Hid (formT (.mk 14 t n ps fs vs) = false) := Hd (by
  rw [formT_mk, show shapeK 14 = ⟨false, false, true, false, 0, 0, true⟩ from rfl, hpa]
  unfold fitsB selfB
  simp [hnv, ht0, hn0])
 have f3 : decide ((0 : Int) < (vs.length : Int)) = false := decide_eq_false (by omega)
 have f4 : decide (0 < vs.length) = false := decide_eq_false (by omega)
 rw [hpa] at KAll
 have ep : (t.toList == [] && n == 0) = false := by rw [ht0]; simpa using hn0
 rw [ep] at KPl
 clear hnv hn0 hpa ht0
 go_enter Tryz.func23, Tryz.ntmps23
 go_upto_region 1 with fail
 rw [← HW1.out]
 obtain ⟨x0, x1, x2, x3, x4, x5⟩ := HXC.out _ HB.out
 go_wp2_with fail
 refine (KAll.out _ HB.out).mono ?_
 rintro e w2 ⟨rfl, hb⟩
 have HB1 := Hd (HB.out.trans (hb.mono HB.out.size))
 clear hb
 clear x0 x1 x2 x3 x4 x5
 obtain ⟨x0, x1, x2, x3, x4, x5⟩ := HXC.out _ HB1.out
 go_wp2_with fail
 refine (KPl.out _).mono ?_
 rintro e w3 ⟨rfl, hb⟩
 have HB2 := Hd (HB1.out.trans (hb.mono HB1.out.size))
 clear hb
 clear x0 x1 x2 x3 x4 x5
 obtain ⟨x0, x1, x2, x3, x4, x5⟩ := HXC.out _ HB2.out
 go_wp2_with fail
 go_ret
 exact ⟨by rw [HVal.out]; rfl, HBZ.out.trans (HB2.out.mono HBZ.out.size)⟩
theorem form_14p (t : ByteArray) (n : Int) (ps : List Ty) (fs : FsT) (vs : VsT) (hp : ∀ p ∈ ps, FormR p) (hf : ∀ f ∈ fs, FormR f.2.2) (hv : ∀ v ∈ vs, ∀ b ∈ v.2, FormR b) (hnv : vs.length = 0) (hpa : ps.all formT = true) (ht0 : t.toList = []) (hn0 : n = 0) (hnp : ps.length ≠ 0) : FormR (.mk 14 t n ps fs vs) := by
 refine form_pre 14 t n ps fs vs hp hf hv fun K w A c A' c' A'' c'' w1 h => ?_
 obtain ⟨HXC, KAll, KPl, KNm, KOb, KBi, KOv, HREP, HCN, HBZ, HB, HS1, HX0, HW1, hlp, hlf, hlv⟩ := h
 clear hp hf hv
 have HVal : Hid (formT (.mk 14 t n ps fs vs) = false) := Hd (by
  rw [formT_mk, show shapeK 14 = ⟨false, false, true, false, 0, 0, true⟩ from rfl, hpa]
  unfold fitsB selfB
  simp [hnv, ht0, hn0]
  exact fun h => absurd (by rw [h]; rfl) hnp)
 have f3 : decide ((0 : Int) < (vs.length : Int)) = false := decide_eq_false (by omega)
 have f4 : decide (0 < vs.length) = false := decide_eq_false (by omega)
 rw [hpa] at KAll
 have ep : (t.toList == [] && n == 0) = true := by rw [ht0, hn0]; rfl
 rw [ep] at KPl
 have p1 : ((ps.length : Int) == 0) = false := beq_eq_false_iff_ne.2 (by omega)
 have p2 : (ps.length == 0) = false := beq_eq_false_iff_ne.2 (by omega)
 have p3 : decide (ps.length = 0) = false := decide_eq_false (by omega)
 have p4 : decide ((ps.length : Int) = 0) = false := decide_eq_false (by omega)
 clear hnv hnp hn0 hpa ht0
 go_enter Tryz.func23, Tryz.ntmps23
 go_upto_region 1 with fail
 rw [← HW1.out]
 obtain ⟨x0, x1, x2, x3, x4, x5⟩ := HXC.out _ HB.out
 go_wp2_with fail
 refine (KAll.out _ HB.out).mono ?_
 rintro e w2 ⟨rfl, hb⟩
 have HB1 := Hd (HB.out.trans (hb.mono HB.out.size))
 clear hb
 clear x0 x1 x2 x3 x4 x5
 obtain ⟨x0, x1, x2, x3, x4, x5⟩ := HXC.out _ HB1.out
 go_wp2_with fail
 refine (KPl.out _).mono ?_
 rintro e w3 ⟨rfl, hb⟩
 have HB2 := Hd (HB1.out.trans (hb.mono HB1.out.size))
 clear hb
 clear x0 x1 x2 x3 x4 x5
 obtain ⟨x0, x1, x2, x3, x4, x5⟩ := HXC.out _ HB2.out
 go_wp2_with fail
 go_ret
 exact ⟨by rw [HVal.out]; rfl, HBZ.out.trans (HB2.out.mono HBZ.out.size)⟩
theorem form_14bf (t : ByteArray) (n : Int) (ps : List Ty) (fs : FsT) (vs : VsT) (hp : ∀ p ∈ ps, FormR p) (hf : ∀ f ∈ fs, FormR f.2.2) (hv : ∀ v ∈ vs, ∀ b ∈ v.2, FormR b) (hnv : vs.length = 0) (hpa : ps.all formT = true) (ht0 : t.toList = []) (hn0 : n = 0) (hnp : ps.length = 0) (hob : fieldsB (fieldsT fs formT) = false) : FormR (.mk 14 t n ps fs vs) := by
 refine form_pre 14 t n ps fs vs hp hf hv fun K w A c A' c' A'' c'' w1 h => ?_
 obtain ⟨HXC, KAll, KPl, KNm, KOb, KBi, KOv, HREP, HCN, HBZ, HB, HS1, HX0, HW1, hlp, hlf, hlv⟩ := h
 clear hp hf hv
 have HVal : Hid (formT (.mk 14 t n ps fs vs) = false) := Hd (by
  rw [formT_mk, show shapeK 14 = ⟨false, false, true, false, 0, 0, true⟩ from rfl, hpa]
  unfold fitsB selfB
  simp [hnv, ht0, hn0, hob])
 have f3 : decide ((0 : Int) < (vs.length : Int)) = false := decide_eq_false (by omega)
 have f4 : decide (0 < vs.length) = false := decide_eq_false (by omega)
 rw [hpa] at KAll
 have ep : (t.toList == [] && n == 0) = true := by rw [ht0, hn0]; rfl
 rw [ep] at KPl
 have p1 : ((ps.length : Int) == 0) = true := beq_iff_eq.2 (by omega)
 have p2 : (ps.length == 0) = true := beq_iff_eq.2 (by omega)
 have p3 : decide (ps.length = 0) = true := decide_eq_true (by omega)
 have p4 : decide ((ps.length : Int) = 0) = true := decide_eq_true (by omega)
 rw [hob] at KOb
 clear hnv hnp hn0 hpa hob ht0
 go_enter Tryz.func23, Tryz.ntmps23
 go_upto_region 1 with fail
 rw [← HW1.out]
 obtain ⟨x0, x1, x2, x3, x4, x5⟩ := HXC.out _ HB.out
 go_wp2_with fail
 refine (KAll.out _ HB.out).mono ?_
 rintro e w2 ⟨rfl, hb⟩
 have HB1 := Hd (HB.out.trans (hb.mono HB.out.size))
 clear hb
 clear x0 x1 x2 x3 x4 x5
 obtain ⟨x0, x1, x2, x3, x4, x5⟩ := HXC.out _ HB1.out
 go_wp2_with fail
 refine (KPl.out _).mono ?_
 rintro e w3 ⟨rfl, hb⟩
 have HB2 := Hd (HB1.out.trans (hb.mono HB1.out.size))
 clear hb
 clear x0 x1 x2 x3 x4 x5
 obtain ⟨x0, x1, x2, x3, x4, x5⟩ := HXC.out _ HB2.out
 go_wp2_with fail
 refine (KOb.out _ HB2.out).mono ?_
 rintro e w4 ⟨rfl, hb⟩
 have HB3 := Hd (HB2.out.trans (hb.mono HB2.out.size))
 clear hb
 clear x0 x1 x2 x3 x4 x5
 obtain ⟨x0, x1, x2, x3, x4, x5⟩ := HXC.out _ HB3.out
 go_wp2_with fail
 go_ret
 exact ⟨by rw [HVal.out]; rfl, HBZ.out.trans (HB3.out.mono HBZ.out.size)⟩
theorem form_14bt (t : ByteArray) (n : Int) (ps : List Ty) (fs : FsT) (vs : VsT) (hp : ∀ p ∈ ps, FormR p) (hf : ∀ f ∈ fs, FormR f.2.2) (hv : ∀ v ∈ vs, ∀ b ∈ v.2, FormR b) (hnv : vs.length = 0) (hpa : ps.all formT = true) (ht0 : t.toList = []) (hn0 : n = 0) (hnp : ps.length = 0) (hob : fieldsB (fieldsT fs formT) = true) : FormR (.mk 14 t n ps fs vs) := by
 refine form_pre 14 t n ps fs vs hp hf hv fun K w A c A' c' A'' c'' w1 h => ?_
 obtain ⟨HXC, KAll, KPl, KNm, KOb, KBi, KOv, HREP, HCN, HBZ, HB, HS1, HX0, HW1, hlp, hlf, hlv⟩ := h
 clear hp hf hv
 have HVal : Hid (formT (.mk 14 t n ps fs vs) = true) := Hd (by
  rw [formT_mk, show shapeK 14 = ⟨false, false, true, false, 0, 0, true⟩ from rfl, hpa]
  unfold fitsB selfB
  simp [hnv, ht0, hn0, hob, hnp])
 have f3 : decide ((0 : Int) < (vs.length : Int)) = false := decide_eq_false (by omega)
 have f4 : decide (0 < vs.length) = false := decide_eq_false (by omega)
 rw [hpa] at KAll
 have ep : (t.toList == [] && n == 0) = true := by rw [ht0, hn0]; rfl
 rw [ep] at KPl
 have p1 : ((ps.length : Int) == 0) = true := beq_iff_eq.2 (by omega)
 have p2 : (ps.length == 0) = true := beq_iff_eq.2 (by omega)
 have p3 : decide (ps.length = 0) = true := decide_eq_true (by omega)
 have p4 : decide ((ps.length : Int) = 0) = true := decide_eq_true (by omega)
 rw [hob] at KOb
 clear hnv hnp hn0 hpa hob ht0
 go_enter Tryz.func23, Tryz.ntmps23
 go_upto_region 1 with fail
 rw [← HW1.out]
 obtain ⟨x0, x1, x2, x3, x4, x5⟩ := HXC.out _ HB.out
 go_wp2_with fail
 refine (KAll.out _ HB.out).mono ?_
 rintro e w2 ⟨rfl, hb⟩
 have HB1 := Hd (HB.out.trans (hb.mono HB.out.size))
 clear hb
 clear x0 x1 x2 x3 x4 x5
 obtain ⟨x0, x1, x2, x3, x4, x5⟩ := HXC.out _ HB1.out
 go_wp2_with fail
 refine (KPl.out _).mono ?_
 rintro e w3 ⟨rfl, hb⟩
 have HB2 := Hd (HB1.out.trans (hb.mono HB1.out.size))
 clear hb
 clear x0 x1 x2 x3 x4 x5
 obtain ⟨x0, x1, x2, x3, x4, x5⟩ := HXC.out _ HB2.out
 go_wp2_with fail
 refine (KOb.out _ HB2.out).mono ?_
 rintro e w4 ⟨rfl, hb⟩
 have HB3 := Hd (HB2.out.trans (hb.mono HB2.out.size))
 clear hb
 clear x0 x1 x2 x3 x4 x5
 obtain ⟨x0, x1, x2, x3, x4, x5⟩ := HXC.out _ HB3.out
 go_wp2_with fail
 go_ret
 exact ⟨by rw [HVal.out]; rfl, HBZ.out.trans (HB3.out.mono HBZ.out.size)⟩
theorem form_Mm (k : Int) (hk : k = 16 ∨ k = 22) (t : ByteArray) (n : Int) (ps : List Ty) (fs : FsT) (vs : VsT) (hp : ∀ p ∈ ps, FormR p) (hf : ∀ f ∈ fs, FormR f.2.2) (hv : ∀ v ∈ vs, ∀ b ∈ v.2, FormR b) (hnf : fs.length = 0) (hnv : vs.length = 0) (hpa : ps.all formT = true) (hnm : nameT t = false) : FormR (.mk k t n ps fs vs) := by
 refine form_pre k t n ps fs vs hp hf hv fun K w A c A' c' A'' c'' w1 h => ?_
 obtain ⟨HXC, KAll, KPl, KNm, KOb, KBi, KOv, HREP, HCN, HBZ, HB, HS1, HX0, HW1, hlp, hlf, hlv⟩ := h
 clear hp hf hv
 have hs : shapeK k = ⟨true, false, false, false, 0, 0, true⟩ := by rcases hk with rfl | rfl <;> rfl
 have HVal : Hid (formT (.mk k t n ps fs vs) = false) := Hd (by
  rcases hk with rfl | rfl
  all_goals (
   rw [formT_mk, hs, hpa]
   unfold fitsB selfB
   simp [hnf, hnv, hnm]))
 obtain ⟨f1, f2, f3, f4⟩ := no4 (m := fs.length) (n := vs.length) (by omega) (by omega)
 rw [hpa] at KAll
 rw [hnm] at KNm
 clear hnf hnv hpa hnm
 clear hs
 rcases hk with rfl | rfl
 all_goals (
  go_enter Tryz.func23, Tryz.ntmps23
  go_upto_region 1 with fail
  rw [← HW1.out]
  obtain ⟨x0, x1, x2, x3, x4, x5⟩ := HXC.out _ HB.out
  go_wp2_with fail
  refine (KAll.out _ HB.out).mono ?_
  rintro e w2 ⟨rfl, hb⟩
  have HB1 := Hd (HB.out.trans (hb.mono HB.out.size))
  clear hb
  clear x0 x1 x2 x3 x4 x5
  obtain ⟨x0, x1, x2, x3, x4, x5⟩ := HXC.out _ HB1.out
  go_wp2_with fail
  refine (KNm.out _).mono ?_
  rintro e w3 ⟨rfl, hb⟩
  have HB2 := Hd (HB1.out.trans (hb.mono HB1.out.size))
  clear hb
  clear x0 x1 x2 x3 x4 x5
  obtain ⟨x0, x1, x2, x3, x4, x5⟩ := HXC.out _ HB2.out
  go_wp2_with fail
  go_ret
  exact ⟨by rw [HVal.out]; rfl, HBZ.out.trans (HB2.out.mono HBZ.out.size)⟩)
theorem form_Mn (k : Int) (hk : k = 16 ∨ k = 22) (t : ByteArray) (n : Int) (ps : List Ty) (fs : FsT) (vs : VsT) (hp : ∀ p ∈ ps, FormR p) (hf : ∀ f ∈ fs, FormR f.2.2) (hv : ∀ v ∈ vs, ∀ b ∈ v.2, FormR b) (hnf : fs.length = 0) (hnv : vs.length = 0) (hpa : ps.all formT = true) (hnm : nameT t = true) (hn0 : n ≠ 0) : FormR (.mk k t n ps fs vs) := by
 refine form_pre k t n ps fs vs hp hf hv fun K w A c A' c' A'' c'' w1 h => ?_
 obtain ⟨HXC, KAll, KPl, KNm, KOb, KBi, KOv, HREP, HCN, HBZ, HB, HS1, HX0, HW1, hlp, hlf, hlv⟩ := h
 clear hp hf hv
 have hs : shapeK k = ⟨true, false, false, false, 0, 0, true⟩ := by rcases hk with rfl | rfl <;> rfl
 have HVal : Hid (formT (.mk k t n ps fs vs) = false) := Hd (by
  rcases hk with rfl | rfl
  all_goals (
   rw [formT_mk, hs, hpa]
   unfold fitsB selfB
   simp [hnf, hnv, hnm, hn0]))
 obtain ⟨f1, f2, f3, f4⟩ := no4 (m := fs.length) (n := vs.length) (by omega) (by omega)
 rw [hpa] at KAll
 rw [hnm] at KNm
 have f5 : (n == 0) = false := by simpa using hn0
 clear hnf hnv hn0 hpa hnm
 clear hs
 rcases hk with rfl | rfl
 all_goals (
  go_enter Tryz.func23, Tryz.ntmps23
  go_upto_region 1 with fail
  rw [← HW1.out]
  obtain ⟨x0, x1, x2, x3, x4, x5⟩ := HXC.out _ HB.out
  go_wp2_with fail
  refine (KAll.out _ HB.out).mono ?_
  rintro e w2 ⟨rfl, hb⟩
  have HB1 := Hd (HB.out.trans (hb.mono HB.out.size))
  clear hb
  clear x0 x1 x2 x3 x4 x5
  obtain ⟨x0, x1, x2, x3, x4, x5⟩ := HXC.out _ HB1.out
  go_wp2_with fail
  refine (KNm.out _).mono ?_
  rintro e w3 ⟨rfl, hb⟩
  have HB2 := Hd (HB1.out.trans (hb.mono HB1.out.size))
  clear hb
  clear x0 x1 x2 x3 x4 x5
  obtain ⟨x0, x1, x2, x3, x4, x5⟩ := HXC.out _ HB2.out
  go_wp2_with fail
  go_ret
  exact ⟨by rw [HVal.out]; rfl, HBZ.out.trans (HB2.out.mono HBZ.out.size)⟩)
theorem form_Mp (k : Int) (hk : k = 16 ∨ k = 22) (t : ByteArray) (n : Int) (ps : List Ty) (fs : FsT) (vs : VsT) (hp : ∀ p ∈ ps, FormR p) (hf : ∀ f ∈ fs, FormR f.2.2) (hv : ∀ v ∈ vs, ∀ b ∈ v.2, FormR b) (hnf : fs.length = 0) (hnv : vs.length = 0) (hpa : ps.all formT = true) (hnm : nameT t = true) (hn0 : n = 0) (hnp : ps.length ≠ 0) : FormR (.mk k t n ps fs vs) := by
 refine form_pre k t n ps fs vs hp hf hv fun K w A c A' c' A'' c'' w1 h => ?_
 obtain ⟨HXC, KAll, KPl, KNm, KOb, KBi, KOv, HREP, HCN, HBZ, HB, HS1, HX0, HW1, hlp, hlf, hlv⟩ := h
 clear hp hf hv
 have hs : shapeK k = ⟨true, false, false, false, 0, 0, true⟩ := by rcases hk with rfl | rfl <;> rfl
 have HVal : Hid (formT (.mk k t n ps fs vs) = false) := Hd (by
  rcases hk with rfl | rfl
  all_goals (
   rw [formT_mk, hs, hpa]
   unfold fitsB selfB
   simp [hnf, hnv, hnm, hn0]
   exact fun h => hnp (by rw [h]; rfl)))
 obtain ⟨f1, f2, f3, f4⟩ := no4 (m := fs.length) (n := vs.length) (by omega) (by omega)
 rw [hpa] at KAll
 rw [hnm] at KNm
 have f5 : (n == 0) = true := by simpa using hn0
 have p1 : ((ps.length : Int) == 0) = false := beq_eq_false_iff_ne.2 (by omega)
 have p2 : (ps.length == 0) = false := beq_eq_false_iff_ne.2 (by omega)
 have p3 : decide (ps.length = 0) = false := decide_eq_false (by omega)
 have p4 : decide ((ps.length : Int) = 0) = false := decide_eq_false (by omega)
 clear hnf hnv hnp hn0 hpa hnm
 clear hs
 rcases hk with rfl | rfl
 all_goals (
  go_enter Tryz.func23, Tryz.ntmps23
  go_upto_region 1 with fail
  rw [← HW1.out]
  obtain ⟨x0, x1, x2, x3, x4, x5⟩ := HXC.out _ HB.out
  go_wp2_with fail
  refine (KAll.out _ HB.out).mono ?_
  rintro e w2 ⟨rfl, hb⟩
  have HB1 := Hd (HB.out.trans (hb.mono HB.out.size))
  clear hb
  clear x0 x1 x2 x3 x4 x5
  obtain ⟨x0, x1, x2, x3, x4, x5⟩ := HXC.out _ HB1.out
  go_wp2_with fail
  refine (KNm.out _).mono ?_
  rintro e w3 ⟨rfl, hb⟩
  have HB2 := Hd (HB1.out.trans (hb.mono HB1.out.size))
  clear hb
  clear x0 x1 x2 x3 x4 x5
  obtain ⟨x0, x1, x2, x3, x4, x5⟩ := HXC.out _ HB2.out
  go_wp2_with fail
  go_ret
  exact ⟨by rw [HVal.out]; rfl, HBZ.out.trans (HB2.out.mono HBZ.out.size)⟩)
theorem form_My (k : Int) (hk : k = 16 ∨ k = 22) (t : ByteArray) (n : Int) (ps : List Ty) (fs : FsT) (vs : VsT) (hp : ∀ p ∈ ps, FormR p) (hf : ∀ f ∈ fs, FormR f.2.2) (hv : ∀ v ∈ vs, ∀ b ∈ v.2, FormR b) (hnf : fs.length = 0) (hnv : vs.length = 0) (hpa : ps.all formT = true) (hnm : nameT t = true) (hn0 : n = 0) (hnp : ps.length = 0) : FormR (.mk k t n ps fs vs) := by
 refine form_pre k t n ps fs vs hp hf hv fun K w A c A' c' A'' c'' w1 h => ?_
 obtain ⟨HXC, KAll, KPl, KNm, KOb, KBi, KOv, HREP, HCN, HBZ, HB, HS1, HX0, HW1, hlp, hlf, hlv⟩ := h
 clear hp hf hv
 have hs : shapeK k = ⟨true, false, false, false, 0, 0, true⟩ := by rcases hk with rfl | rfl <;> rfl
 have HVal : Hid (formT (.mk k t n ps fs vs) = true) := Hd (by
  rcases hk with rfl | rfl
  all_goals (
   rw [formT_mk, hs, hpa]
   unfold fitsB selfB
   simp [hnf, hnv, hnm, hn0, hnp]))
 obtain ⟨f1, f2, f3, f4⟩ := no4 (m := fs.length) (n := vs.length) (by omega) (by omega)
 rw [hpa] at KAll
 rw [hnm] at KNm
 have f5 : (n == 0) = true := by simpa using hn0
 have p1 : ((ps.length : Int) == 0) = true := beq_iff_eq.2 (by omega)
 have p2 : (ps.length == 0) = true := beq_iff_eq.2 (by omega)
 have p3 : decide (ps.length = 0) = true := decide_eq_true (by omega)
 have p4 : decide ((ps.length : Int) = 0) = true := decide_eq_true (by omega)
 clear hnf hnv hnp hn0 hpa hnm
 clear hs
 rcases hk with rfl | rfl
 all_goals (
  go_enter Tryz.func23, Tryz.ntmps23
  go_upto_region 1 with fail
  rw [← HW1.out]
  obtain ⟨x0, x1, x2, x3, x4, x5⟩ := HXC.out _ HB.out
  go_wp2_with fail
  refine (KAll.out _ HB.out).mono ?_
  rintro e w2 ⟨rfl, hb⟩
  have HB1 := Hd (HB.out.trans (hb.mono HB.out.size))
  clear hb
  clear x0 x1 x2 x3 x4 x5
  obtain ⟨x0, x1, x2, x3, x4, x5⟩ := HXC.out _ HB1.out
  go_wp2_with fail
  refine (KNm.out _).mono ?_
  rintro e w3 ⟨rfl, hb⟩
  have HB2 := Hd (HB1.out.trans (hb.mono HB1.out.size))
  clear hb
  clear x0 x1 x2 x3 x4 x5
  obtain ⟨x0, x1, x2, x3, x4, x5⟩ := HXC.out _ HB2.out
  go_wp2_with fail
  go_ret
  exact ⟨by rw [HVal.out]; rfl, HBZ.out.trans (HB2.out.mono HBZ.out.size)⟩)
theorem form_17m (t : ByteArray) (n : Int) (ps : List Ty) (fs : FsT) (vs : VsT) (hp : ∀ p ∈ ps, FormR p) (hf : ∀ f ∈ fs, FormR f.2.2) (hv : ∀ v ∈ vs, ∀ b ∈ v.2, FormR b) (hnf : fs.length = 0) (hnv : vs.length = 0) (hpa : ps.all formT = true) (hnm : nameT t = false) : FormR (.mk 17 t n ps fs vs) := by
 refine form_pre 17 t n ps fs vs hp hf hv fun K w A c A' c' A'' c'' w1 h => ?_
 obtain ⟨HXC, KAll, KPl, KNm, KOb, KBi, KOv, HREP, HCN, HBZ, HB, HS1, HX0, HW1, hlp, hlf, hlv⟩ := h
 clear hp hf hv
 have HVal : Hid (formT (.mk 17 t n ps fs vs) = false) := Hd (by
  rw [formT_mk, show shapeK 17 = ⟨true, false, false, false, 0, -1, true⟩ from rfl, hpa]
  unfold fitsB selfB
  simp [hnf, hnv, hnm])
 obtain ⟨f1, f2, f3, f4⟩ := no4 (m := fs.length) (n := vs.length) (by omega) (by omega)
 rw [hpa] at KAll
 rw [hnm] at KNm
 clear hnf hnv hpa hnm
 go_enter Tryz.func23, Tryz.ntmps23
 go_upto_region 1 with fail
 rw [← HW1.out]
 obtain ⟨x0, x1, x2, x3, x4, x5⟩ := HXC.out _ HB.out
 go_wp2_with fail
 refine (KAll.out _ HB.out).mono ?_
 rintro e w2 ⟨rfl, hb⟩
 have HB1 := Hd (HB.out.trans (hb.mono HB.out.size))
 clear hb
 clear x0 x1 x2 x3 x4 x5
 obtain ⟨x0, x1, x2, x3, x4, x5⟩ := HXC.out _ HB1.out
 go_wp2_with fail
 refine (KNm.out _).mono ?_
 rintro e w3 ⟨rfl, hb⟩
 have HB2 := Hd (HB1.out.trans (hb.mono HB1.out.size))
 clear hb
 clear x0 x1 x2 x3 x4 x5
 obtain ⟨x0, x1, x2, x3, x4, x5⟩ := HXC.out _ HB2.out
 go_wp2_with fail
 go_ret
 exact ⟨by rw [HVal.out]; rfl, HBZ.out.trans (HB2.out.mono HBZ.out.size)⟩
theorem form_17n (t : ByteArray) (n : Int) (ps : List Ty) (fs : FsT) (vs : VsT) (hp : ∀ p ∈ ps, FormR p) (hf : ∀ f ∈ fs, FormR f.2.2) (hv : ∀ v ∈ vs, ∀ b ∈ v.2, FormR b) (hnf : fs.length = 0) (hnv : vs.length = 0) (hpa : ps.all formT = true) (hnm : nameT t = true) (hn0 : n ≠ 0) : FormR (.mk 17 t n ps fs vs) := by
 refine form_pre 17 t n ps fs vs hp hf hv fun K w A c A' c' A'' c'' w1 h => ?_
 obtain ⟨HXC, KAll, KPl, KNm, KOb, KBi, KOv, HREP, HCN, HBZ, HB, HS1, HX0, HW1, hlp, hlf, hlv⟩ := h
 clear hp hf hv
 have HVal : Hid (formT (.mk 17 t n ps fs vs) = false) := Hd (by
  rw [formT_mk, show shapeK 17 = ⟨true, false, false, false, 0, -1, true⟩ from rfl, hpa]
  unfold fitsB selfB
  simp [hnf, hnv, hnm, hn0])
 obtain ⟨f1, f2, f3, f4⟩ := no4 (m := fs.length) (n := vs.length) (by omega) (by omega)
 rw [hpa] at KAll
 rw [hnm] at KNm
 have f5 : (n == 0) = false := by simpa using hn0
 clear hnf hnv hn0 hpa hnm
 go_enter Tryz.func23, Tryz.ntmps23
 go_upto_region 1 with fail
 rw [← HW1.out]
 obtain ⟨x0, x1, x2, x3, x4, x5⟩ := HXC.out _ HB.out
 go_wp2_with fail
 refine (KAll.out _ HB.out).mono ?_
 rintro e w2 ⟨rfl, hb⟩
 have HB1 := Hd (HB.out.trans (hb.mono HB.out.size))
 clear hb
 clear x0 x1 x2 x3 x4 x5
 obtain ⟨x0, x1, x2, x3, x4, x5⟩ := HXC.out _ HB1.out
 go_wp2_with fail
 refine (KNm.out _).mono ?_
 rintro e w3 ⟨rfl, hb⟩
 have HB2 := Hd (HB1.out.trans (hb.mono HB1.out.size))
 clear hb
 clear x0 x1 x2 x3 x4 x5
 obtain ⟨x0, x1, x2, x3, x4, x5⟩ := HXC.out _ HB2.out
 go_wp2_with fail
 go_ret
 exact ⟨by rw [HVal.out]; rfl, HBZ.out.trans (HB2.out.mono HBZ.out.size)⟩
theorem form_17y (t : ByteArray) (n : Int) (ps : List Ty) (fs : FsT) (vs : VsT) (hp : ∀ p ∈ ps, FormR p) (hf : ∀ f ∈ fs, FormR f.2.2) (hv : ∀ v ∈ vs, ∀ b ∈ v.2, FormR b) (hnf : fs.length = 0) (hnv : vs.length = 0) (hpa : ps.all formT = true) (hnm : nameT t = true) (hn0 : n = 0) : FormR (.mk 17 t n ps fs vs) := by
 refine form_pre 17 t n ps fs vs hp hf hv fun K w A c A' c' A'' c'' w1 h => ?_
 obtain ⟨HXC, KAll, KPl, KNm, KOb, KBi, KOv, HREP, HCN, HBZ, HB, HS1, HX0, HW1, hlp, hlf, hlv⟩ := h
 clear hp hf hv
 have HVal : Hid (formT (.mk 17 t n ps fs vs) = true) := Hd (by
  rw [formT_mk, show shapeK 17 = ⟨true, false, false, false, 0, -1, true⟩ from rfl, hpa]
  unfold fitsB selfB
  simp [hnf, hnv, hnm, hn0])
 obtain ⟨f1, f2, f3, f4⟩ := no4 (m := fs.length) (n := vs.length) (by omega) (by omega)
 rw [hpa] at KAll
 rw [hnm] at KNm
 have f5 : (n == 0) = true := by simpa using hn0
 clear hnf hnv hn0 hpa hnm
 go_enter Tryz.func23, Tryz.ntmps23
 go_upto_region 1 with fail
 rw [← HW1.out]
 obtain ⟨x0, x1, x2, x3, x4, x5⟩ := HXC.out _ HB.out
 go_wp2_with fail
 refine (KAll.out _ HB.out).mono ?_
 rintro e w2 ⟨rfl, hb⟩
 have HB1 := Hd (HB.out.trans (hb.mono HB.out.size))
 clear hb
 clear x0 x1 x2 x3 x4 x5
 obtain ⟨x0, x1, x2, x3, x4, x5⟩ := HXC.out _ HB1.out
 go_wp2_with fail
 refine (KNm.out _).mono ?_
 rintro e w3 ⟨rfl, hb⟩
 have HB2 := Hd (HB1.out.trans (hb.mono HB1.out.size))
 clear hb
 clear x0 x1 x2 x3 x4 x5
 obtain ⟨x0, x1, x2, x3, x4, x5⟩ := HXC.out _ HB2.out
 go_wp2_with fail
 go_ret
 exact ⟨by rw [HVal.out]; rfl, HBZ.out.trans (HB2.out.mono HBZ.out.size)⟩
theorem form_19t (t : ByteArray) (n : Int) (ps : List Ty) (fs : FsT) (vs : VsT) (hp : ∀ p ∈ ps, FormR p) (hf : ∀ f ∈ fs, FormR f.2.2) (hv : ∀ v ∈ vs, ∀ b ∈ v.2, FormR b) (hnf : fs.length = 0) (hnv : vs.length = 0) (hpa : ps.all formT = true) (a0 : UInt8) (l0 : List UInt8) (ht0 : t.toList = a0 :: l0) : FormR (.mk 19 t n ps fs vs) := by
 refine form_pre 19 t n ps fs vs hp hf hv fun K w A c A' c' A'' c'' w1 h => ?_
 obtain ⟨HXC, KAll, KPl, KNm, KOb, KBi, KOv, HREP, HCN, HBZ, HB, HS1, HX0, HW1, hlp, hlf, hlv⟩ := h
 clear hp hf hv
 have HVal : Hid (formT (.mk 19 t n ps fs vs) = false) := Hd (by
  rw [formT_mk, show shapeK 19 = ⟨false, false, false, false, 2, 2, true⟩ from rfl, hpa]
  unfold fitsB selfB
  simp [hnf, hnv, ht0])
 obtain ⟨f1, f2, f3, f4⟩ := no4 (m := fs.length) (n := vs.length) (by omega) (by omega)
 rw [hpa] at KAll
 have ep : (t.toList == [] && n == 0) = false := by rw [ht0]; rfl
 rw [ep] at KPl
 clear hnf hnv hpa ht0
 go_enter Tryz.func23, Tryz.ntmps23
 go_upto_region 1 with fail
 rw [← HW1.out]
 obtain ⟨x0, x1, x2, x3, x4, x5⟩ := HXC.out _ HB.out
 go_wp2_with fail
 refine (KAll.out _ HB.out).mono ?_
 rintro e w2 ⟨rfl, hb⟩
 have HB1 := Hd (HB.out.trans (hb.mono HB.out.size))
 clear hb
 clear x0 x1 x2 x3 x4 x5
 obtain ⟨x0, x1, x2, x3, x4, x5⟩ := HXC.out _ HB1.out
 go_wp2_with fail
 refine (KPl.out _).mono ?_
 rintro e w3 ⟨rfl, hb⟩
 have HB2 := Hd (HB1.out.trans (hb.mono HB1.out.size))
 clear hb
 clear x0 x1 x2 x3 x4 x5
 obtain ⟨x0, x1, x2, x3, x4, x5⟩ := HXC.out _ HB2.out
 go_wp2_with fail
 go_ret
 exact ⟨by rw [HVal.out]; rfl, HBZ.out.trans (HB2.out.mono HBZ.out.size)⟩
theorem form_19n (t : ByteArray) (n : Int) (ps : List Ty) (fs : FsT) (vs : VsT) (hp : ∀ p ∈ ps, FormR p) (hf : ∀ f ∈ fs, FormR f.2.2) (hv : ∀ v ∈ vs, ∀ b ∈ v.2, FormR b) (hnf : fs.length = 0) (hnv : vs.length = 0) (hpa : ps.all formT = true) (ht0 : t.toList = []) (hn0 : n ≠ 0) : FormR (.mk 19 t n ps fs vs) := by
 refine form_pre 19 t n ps fs vs hp hf hv fun K w A c A' c' A'' c'' w1 h => ?_
 obtain ⟨HXC, KAll, KPl, KNm, KOb, KBi, KOv, HREP, HCN, HBZ, HB, HS1, HX0, HW1, hlp, hlf, hlv⟩ := h
 clear hp hf hv
 have HVal : Hid (formT (.mk 19 t n ps fs vs) = false) := Hd (by
  rw [formT_mk, show shapeK 19 = ⟨false, false, false, false, 2, 2, true⟩ from rfl, hpa]
  unfold fitsB selfB
  simp [hnf, hnv, ht0, hn0])
 obtain ⟨f1, f2, f3, f4⟩ := no4 (m := fs.length) (n := vs.length) (by omega) (by omega)
 rw [hpa] at KAll
 have ep : (t.toList == [] && n == 0) = false := by rw [ht0]; simpa using hn0
 rw [ep] at KPl
 clear hnf hnv hn0 hpa ht0
 go_enter Tryz.func23, Tryz.ntmps23
 go_upto_region 1 with fail
 rw [← HW1.out]
 obtain ⟨x0, x1, x2, x3, x4, x5⟩ := HXC.out _ HB.out
 go_wp2_with fail
 refine (KAll.out _ HB.out).mono ?_
 rintro e w2 ⟨rfl, hb⟩
 have HB1 := Hd (HB.out.trans (hb.mono HB.out.size))
 clear hb
 clear x0 x1 x2 x3 x4 x5
 obtain ⟨x0, x1, x2, x3, x4, x5⟩ := HXC.out _ HB1.out
 go_wp2_with fail
 refine (KPl.out _).mono ?_
 rintro e w3 ⟨rfl, hb⟩
 have HB2 := Hd (HB1.out.trans (hb.mono HB1.out.size))
 clear hb
 clear x0 x1 x2 x3 x4 x5
 obtain ⟨x0, x1, x2, x3, x4, x5⟩ := HXC.out _ HB2.out
 go_wp2_with fail
 go_ret
 exact ⟨by rw [HVal.out]; rfl, HBZ.out.trans (HB2.out.mono HBZ.out.size)⟩
theorem form_19p (t : ByteArray) (n : Int) (ps : List Ty) (fs : FsT) (vs : VsT) (hp : ∀ p ∈ ps, FormR p) (hf : ∀ f ∈ fs, FormR f.2.2) (hv : ∀ v ∈ vs, ∀ b ∈ v.2, FormR b) (hnf : fs.length = 0) (hnv : vs.length = 0) (hpa : ps.all formT = true) (ht0 : t.toList = []) (hn0 : n = 0) (hnp : ps.length ≠ 2) : FormR (.mk 19 t n ps fs vs) := by
 refine form_pre 19 t n ps fs vs hp hf hv fun K w A c A' c' A'' c'' w1 h => ?_
 obtain ⟨HXC, KAll, KPl, KNm, KOb, KBi, KOv, HREP, HCN, HBZ, HB, HS1, HX0, HW1, hlp, hlf, hlv⟩ := h
 clear hp hf hv
 have HVal : Hid (formT (.mk 19 t n ps fs vs) = false) := Hd (by
  rw [formT_mk, show shapeK 19 = ⟨false, false, false, false, 2, 2, true⟩ from rfl, hpa]
  unfold fitsB selfB
  simp [hnf, hnv, ht0, hn0]
  omega)
 obtain ⟨f1, f2, f3, f4⟩ := no4 (m := fs.length) (n := vs.length) (by omega) (by omega)
 rw [hpa] at KAll
 have ep : (t.toList == [] && n == 0) = true := by rw [ht0, hn0]; rfl
 rw [ep] at KPl
 have p1 : ((ps.length : Int) == 2) = false := beq_eq_false_iff_ne.2 (by omega)
 have p2 : (ps.length == 2) = false := beq_eq_false_iff_ne.2 (by omega)
 have p3 : decide (ps.length = 2) = false := decide_eq_false (by omega)
 have p4 : decide ((ps.length : Int) = 2) = false := decide_eq_false (by omega)
 clear hnf hnv hnp hn0 hpa ht0
 go_enter Tryz.func23, Tryz.ntmps23
 go_upto_region 1 with fail
 rw [← HW1.out]
 obtain ⟨x0, x1, x2, x3, x4, x5⟩ := HXC.out _ HB.out
 go_wp2_with fail
 refine (KAll.out _ HB.out).mono ?_
 rintro e w2 ⟨rfl, hb⟩
 have HB1 := Hd (HB.out.trans (hb.mono HB.out.size))
 clear hb
 clear x0 x1 x2 x3 x4 x5
 obtain ⟨x0, x1, x2, x3, x4, x5⟩ := HXC.out _ HB1.out
 go_wp2_with fail
 refine (KPl.out _).mono ?_
 rintro e w3 ⟨rfl, hb⟩
 have HB2 := Hd (HB1.out.trans (hb.mono HB1.out.size))
 clear hb
 clear x0 x1 x2 x3 x4 x5
 obtain ⟨x0, x1, x2, x3, x4, x5⟩ := HXC.out _ HB2.out
 go_wp2_with fail
 go_ret
 exact ⟨by rw [HVal.out]; rfl, HBZ.out.trans (HB2.out.mono HBZ.out.size)⟩
theorem form_19y (t : ByteArray) (n : Int) (ps : List Ty) (fs : FsT) (vs : VsT) (hp : ∀ p ∈ ps, FormR p) (hf : ∀ f ∈ fs, FormR f.2.2) (hv : ∀ v ∈ vs, ∀ b ∈ v.2, FormR b) (hnf : fs.length = 0) (hnv : vs.length = 0) (hpa : ps.all formT = true) (ht0 : t.toList = []) (hn0 : n = 0) (hnp : ps.length = 2) : FormR (.mk 19 t n ps fs vs) := by
 refine form_pre 19 t n ps fs vs hp hf hv fun K w A c A' c' A'' c'' w1 h => ?_
 obtain ⟨HXC, KAll, KPl, KNm, KOb, KBi, KOv, HREP, HCN, HBZ, HB, HS1, HX0, HW1, hlp, hlf, hlv⟩ := h
 clear hp hf hv
 have HVal : Hid (formT (.mk 19 t n ps fs vs) = true) := Hd (by
  rw [formT_mk, show shapeK 19 = ⟨false, false, false, false, 2, 2, true⟩ from rfl, hpa]
  unfold fitsB selfB
  simp [hnf, hnv, ht0, hn0, hnp])
 obtain ⟨f1, f2, f3, f4⟩ := no4 (m := fs.length) (n := vs.length) (by omega) (by omega)
 rw [hpa] at KAll
 have ep : (t.toList == [] && n == 0) = true := by rw [ht0, hn0]; rfl
 rw [ep] at KPl
 have p1 : ((ps.length : Int) == 2) = true := beq_iff_eq.2 (by omega)
 have p2 : (ps.length == 2) = true := beq_iff_eq.2 (by omega)
 have p3 : decide (ps.length = 2) = true := decide_eq_true (by omega)
 have p4 : decide ((ps.length : Int) = 2) = true := decide_eq_true (by omega)
 clear hnf hnv hnp hn0 hpa ht0
 go_enter Tryz.func23, Tryz.ntmps23
 go_upto_region 1 with fail
 rw [← HW1.out]
 obtain ⟨x0, x1, x2, x3, x4, x5⟩ := HXC.out _ HB.out
 go_wp2_with fail
 refine (KAll.out _ HB.out).mono ?_
 rintro e w2 ⟨rfl, hb⟩
 have HB1 := Hd (HB.out.trans (hb.mono HB.out.size))
 clear hb
 clear x0 x1 x2 x3 x4 x5
 obtain ⟨x0, x1, x2, x3, x4, x5⟩ := HXC.out _ HB1.out
 go_wp2_with fail
 refine (KPl.out _).mono ?_
 rintro e w3 ⟨rfl, hb⟩
 have HB2 := Hd (HB1.out.trans (hb.mono HB1.out.size))
 clear hb
 clear x0 x1 x2 x3 x4 x5
 obtain ⟨x0, x1, x2, x3, x4, x5⟩ := HXC.out _ HB2.out
 go_wp2_with fail
 go_ret
 exact ⟨by rw [HVal.out]; rfl, HBZ.out.trans (HB2.out.mono HBZ.out.size)⟩
end Go.Proofs.YtgjblmlibhppiaaGreatDoor
