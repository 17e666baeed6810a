import Derived.Test.YtgjblmlibhppiaaGreatDoorMy19
namespace Go.Proofs.YtgjblmlibhppiaaGreatDoor
set_option maxRecDepth 100000
set_option maxHeartbeats 64000000
open Go.RowKit
theorem form_20m (t : ByteArray) (n : Int) (ps : List Ty) (fs : FsT) (vs : VsT) (hp : ∀ p ∈ ps, FormR p) (hf : ∀ f ∈ fs, FormR f.2.2) (hv : ∀ v ∈ vs, ∀ b ∈ v.2, FormR b) (hnf : fs.length = 0) (hnv : vs.length = 0) (hpa : ps.all formT = true) (hnm : nameT t = false) : FormR (.mk 20 t n ps fs vs) := by
 refine form_pre 20 t n ps fs vs hp hf hv fun K w A c A' c' A'' c'' w1 h => ?_
 obtain ⟨HXC, KAll, KPl, KNm, KOb, KBi, KOv, HREP, HCN, HBZ, HB, HS1, HX0, HW1, hlp, hlf, hlv⟩ := h
 clear hp hf hv
 have HVal : Hid (formT (.mk 20 t n ps fs vs) = false) := Hd (by
  rw [formT_mk, show shapeK 20 = ⟨true, true, false, false, 2, 2, true⟩ from rfl, hpa]
  unfold fitsB selfB
  simp [hnf, hnv, hnm])
 obtain ⟨f1, f2, f3, f4⟩ := no4 (m := fs.length) (n := vs.length) (by omega) (by omega)
 rw [hpa] at KAll
 rw [hnm] at KNm
 clear hnf hnv hpa hnm
 go_enter Tryz.func23, Tryz.ntmps23
 go_upto_region 1 with fail
 rw [← HW1.out]
 obtain ⟨x0, x1, x2, x3, x4, x5⟩ := HXC.out _ HB.out
 go_wp2_with fail
 refine (KAll.out _ HB.out).mono ?_
 rintro e w2 ⟨rfl, hb⟩
 have HB1 := Hd (HB.out.trans (hb.mono HB.out.size))
 clear hb
 clear x0 x1 x2 x3 x4 x5
 obtain ⟨x0, x1, x2, x3, x4, x5⟩ := HXC.out _ HB1.out
 go_wp2_with fail
 refine (KNm.out _).mono ?_
 rintro e w3 ⟨rfl, hb⟩
 have HB2 := Hd (HB1.out.trans (hb.mono HB1.out.size))
 clear hb
 clear x0 x1 x2 x3 x4 x5
 obtain ⟨x0, x1, x2, x3, x4, x5⟩ := HXC.out _ HB2.out
 go_wp2_with fail
 go_ret
 exact ⟨by rw [HVal.out]; rfl, HBZ.out.trans (HB2.out.mono HBZ.out.size)⟩
theorem form_20n (t : ByteArray) (n : Int) (ps : List Ty) (fs : FsT) (vs : VsT) (hp : ∀ p ∈ ps, FormR p) (hf : ∀ f ∈ fs, FormR f.2.2) (hv : ∀ v ∈ vs, ∀ b ∈ v.2, FormR b) (hnf : fs.length = 0) (hnv : vs.length = 0) (hpa : ps.all formT = true) (hnm : nameT t = true) (hn0 : ¬ 0 ≤ n) : FormR (.mk 20 t n ps fs vs) := by
 refine form_pre 20 t n ps fs vs hp hf hv fun K w A c A' c' A'' c'' w1 h => ?_
 obtain ⟨HXC, KAll, KPl, KNm, KOb, KBi, KOv, HREP, HCN, HBZ, HB, HS1, HX0, HW1, hlp, hlf, hlv⟩ := h
 clear hp hf hv
 have HVal : Hid (formT (.mk 20 t n ps fs vs) = false) := Hd (by
  rw [formT_mk, show shapeK 20 = ⟨true, true, false, false, 2, 2, true⟩ from rfl, hpa]
  unfold fitsB selfB
  simp [hnf, hnv, hnm]
  omega)
 obtain ⟨f1, f2, f3, f4⟩ := no4 (m := fs.length) (n := vs.length) (by omega) (by omega)
 rw [hpa] at KAll
 rw [hnm] at KNm
 have f5 : decide (0 ≤ n) = false := by first | exact decide_eq_true (by omega) | exact decide_eq_false (by omega)
 clear hnf hnv hn0 hpa hnm
 go_enter Tryz.func23, Tryz.ntmps23
 go_upto_region 1 with fail
 rw [← HW1.out]
 obtain ⟨x0, x1, x2, x3, x4, x5⟩ := HXC.out _ HB.out
 go_wp2_with fail
 refine (KAll.out _ HB.out).mono ?_
 rintro e w2 ⟨rfl, hb⟩
 have HB1 := Hd (HB.out.trans (hb.mono HB.out.size))
 clear hb
 clear x0 x1 x2 x3 x4 x5
 obtain ⟨x0, x1, x2, x3, x4, x5⟩ := HXC.out _ HB1.out
 go_wp2_with fail
 refine (KNm.out _).mono ?_
 rintro e w3 ⟨rfl, hb⟩
 have HB2 := Hd (HB1.out.trans (hb.mono HB1.out.size))
 clear hb
 clear x0 x1 x2 x3 x4 x5
 obtain ⟨x0, x1, x2, x3, x4, x5⟩ := HXC.out _ HB2.out
 go_wp2_with fail
 go_ret
 exact ⟨by rw [HVal.out]; rfl, HBZ.out.trans (HB2.out.mono HBZ.out.size)⟩
theorem form_20o (t : ByteArray) (n : Int) (ps : List Ty) (fs : FsT) (vs : VsT) (hp : ∀ p ∈ ps, FormR p) (hf : ∀ f ∈ fs, FormR f.2.2) (hv : ∀ v ∈ vs, ∀ b ∈ v.2, FormR b) (hnf : fs.length = 0) (hnv : vs.length = 0) (hpa : ps.all formT = true) (hnm : nameT t = true) (hn0 : 0 ≤ n) (hn3 : ¬ n ≤ 3) : FormR (.mk 20 t n ps fs vs) := by
 refine form_pre 20 t n ps fs vs hp hf hv fun K w A c A' c' A'' c'' w1 h => ?_
 obtain ⟨HXC, KAll, KPl, KNm, KOb, KBi, KOv, HREP, HCN, HBZ, HB, HS1, HX0, HW1, hlp, hlf, hlv⟩ := h
 clear hp hf hv
 have HVal : Hid (formT (.mk 20 t n ps fs vs) = false) := Hd (by
  rw [formT_mk, show shapeK 20 = ⟨true, true, false, false, 2, 2, true⟩ from rfl, hpa]
  unfold fitsB selfB
  simp [hnf, hnv, hnm]
  omega)
 obtain ⟨f1, f2, f3, f4⟩ := no4 (m := fs.length) (n := vs.length) (by omega) (by omega)
 rw [hpa] at KAll
 rw [hnm] at KNm
 have f5 : decide (0 ≤ n) = true := by first | exact decide_eq_true (by omega) | exact decide_eq_false (by omega)
 have f6 : decide (n ≤ 3) = false := by first | exact decide_eq_true (by omega) | exact decide_eq_false (by omega)
 clear hnf hnv hn0 hn3 hpa hnm
 go_enter Tryz.func23, Tryz.ntmps23
 go_upto_region 1 with fail
 rw [← HW1.out]
 obtain ⟨x0, x1, x2, x3, x4, x5⟩ := HXC.out _ HB.out
 go_wp2_with fail
 refine (KAll.out _ HB.out).mono ?_
 rintro e w2 ⟨rfl, hb⟩
 have HB1 := Hd (HB.out.trans (hb.mono HB.out.size))
 clear hb
 clear x0 x1 x2 x3 x4 x5
 obtain ⟨x0, x1, x2, x3, x4, x5⟩ := HXC.out _ HB1.out
 go_wp2_with fail
 refine (KNm.out _).mono ?_
 rintro e w3 ⟨rfl, hb⟩
 have HB2 := Hd (HB1.out.trans (hb.mono HB1.out.size))
 clear hb
 clear x0 x1 x2 x3 x4 x5
 obtain ⟨x0, x1, x2, x3, x4, x5⟩ := HXC.out _ HB2.out
 go_wp2_with fail
 go_ret
 exact ⟨by rw [HVal.out]; rfl, HBZ.out.trans (HB2.out.mono HBZ.out.size)⟩
theorem form_20p (t : ByteArray) (n : Int) (ps : List Ty) (fs : FsT) (vs : VsT) (hp : ∀ p ∈ ps, FormR p) (hf : ∀ f ∈ fs, FormR f.2.2) (hv : ∀ v ∈ vs, ∀ b ∈ v.2, FormR b) (hnf : fs.length = 0) (hnv : vs.length = 0) (hpa : ps.all formT = true) (hnm : nameT t = true) (hn0 : 0 ≤ n) (hn3 : n ≤ 3) (hnp : ps.length ≠ 2) : FormR (.mk 20 t n ps fs vs) := by
 refine form_pre 20 t n ps fs vs hp hf hv fun K w A c A' c' A'' c'' w1 h => ?_
 obtain ⟨HXC, KAll, KPl, KNm, KOb, KBi, KOv, HREP, HCN, HBZ, HB, HS1, HX0, HW1, hlp, hlf, hlv⟩ := h
 clear hp hf hv
 have HVal : Hid (formT (.mk 20 t n ps fs vs) = false) := Hd (by
  rw [formT_mk, show shapeK 20 = ⟨true, true, false, false, 2, 2, true⟩ from rfl, hpa]
  unfold fitsB selfB
  simp [hnf, hnv, hnm]
  omega)
 obtain ⟨f1, f2, f3, f4⟩ := no4 (m := fs.length) (n := vs.length) (by omega) (by omega)
 rw [hpa] at KAll
 rw [hnm] at KNm
 have f5 : decide (0 ≤ n) = true := by first | exact decide_eq_true (by omega) | exact decide_eq_false (by omega)
 have f6 : decide (n ≤ 3) = true := by first | exact decide_eq_true (by omega) | exact decide_eq_false (by omega)
 have p1 : ((ps.length : Int) == 2) = false := beq_eq_false_iff_ne.2 (by omega)
 have p2 : (ps.length == 2) = false := beq_eq_false_iff_ne.2 (by omega)
 have p3 : decide (ps.length = 2) = false := decide_eq_false (by omega)
 have p4 : decide ((ps.length : Int) = 2) = false := decide_eq_false (by omega)
 clear hnf hnv hnp hn0 hn3 hpa hnm
 go_enter Tryz.func23, Tryz.ntmps23
 go_upto_region 1 with fail
 rw [← HW1.out]
 obtain ⟨x0, x1, x2, x3, x4, x5⟩ := HXC.out _ HB.out
 go_wp2_with fail
 refine (KAll.out _ HB.out).mono ?_
 rintro e w2 ⟨rfl, hb⟩
 have HB1 := Hd (HB.out.trans (hb.mono HB.out.size))
 clear hb
 clear x0 x1 x2 x3 x4 x5
 obtain ⟨x0, x1, x2, x3, x4, x5⟩ := HXC.out _ HB1.out
 go_wp2_with fail
 refine (KNm.out _).mono ?_
 rintro e w3 ⟨rfl, hb⟩
 have HB2 := Hd (HB1.out.trans (hb.mono HB1.out.size))
 clear hb
 clear x0 x1 x2 x3 x4 x5
 obtain ⟨x0, x1, x2, x3, x4, x5⟩ := HXC.out _ HB2.out
 go_wp2_with fail
 go_ret
 exact ⟨by rw [HVal.out]; rfl, HBZ.out.trans (HB2.out.mono HBZ.out.size)⟩
theorem form_20y (t : ByteArray) (n : Int) (ps : List Ty) (fs : FsT) (vs : VsT) (hp : ∀ p ∈ ps, FormR p) (hf : ∀ f ∈ fs, FormR f.2.2) (hv : ∀ v ∈ vs, ∀ b ∈ v.2, FormR b) (hnf : fs.length = 0) (hnv : vs.length = 0) (hpa : ps.all formT = true) (hnm : nameT t = true) (hn0 : 0 ≤ n) (hn3 : n ≤ 3) (hnp : ps.length = 2) : FormR (.mk 20 t n ps fs vs) := by
 refine form_pre 20 t n ps fs vs hp hf hv fun K w A c A' c' A'' c'' w1 h => ?_
 obtain ⟨HXC, KAll, KPl, KNm, KOb, KBi, KOv, HREP, HCN, HBZ, HB, HS1, HX0, HW1, hlp, hlf, hlv⟩ := h
 clear hp hf hv
 have HVal : Hid (formT (.mk 20 t n ps fs vs) = true) := Hd (by
  rw [formT_mk, show shapeK 20 = ⟨true, true, false, false, 2, 2, true⟩ from rfl, hpa]
  unfold fitsB selfB
  simp [hnf, hnv, hnm, hnp]
  omega)
 obtain ⟨f1, f2, f3, f4⟩ := no4 (m := fs.length) (n := vs.length) (by omega) (by omega)
 rw [hpa] at KAll
 rw [hnm] at KNm
 have f5 : decide (0 ≤ n) = true := by first | exact decide_eq_true (by omega) | exact decide_eq_false (by omega)
 have f6 : decide (n ≤ 3) = true := by first | exact decide_eq_true (by omega) | exact decide_eq_false (by omega)
 have p1 : ((ps.length : Int) == 2) = true := beq_iff_eq.2 (by omega)
 have p2 : (ps.length == 2) = true := beq_iff_eq.2 (by omega)
 have p3 : decide (ps.length = 2) = true := decide_eq_true (by omega)
 have p4 : decide ((ps.length : Int) = 2) = true := decide_eq_true (by omega)
 clear hnf hnv hnp hn0 hn3 hpa hnm
 go_enter Tryz.func23, Tryz.ntmps23
 go_upto_region 1 with fail
 rw [← HW1.out]
 obtain ⟨x0, x1, x2, x3, x4, x5⟩ := HXC.out _ HB.out
 go_wp2_with fail
 refine (KAll.out _ HB.out).mono ?_
 rintro e w2 ⟨rfl, hb⟩
 have HB1 := Hd (HB.out.trans (hb.mono HB.out.size))
 clear hb
 clear x0 x1 x2 x3 x4 x5
 obtain ⟨x0, x1, x2, x3, x4, x5⟩ := HXC.out _ HB1.out
 go_wp2_with fail
 refine (KNm.out _).mono ?_
 rintro e w3 ⟨rfl, hb⟩
 have HB2 := Hd (HB1.out.trans (hb.mono HB1.out.size))
 clear hb
 clear x0 x1 x2 x3 x4 x5
 obtain ⟨x0, x1, x2, x3, x4, x5⟩ := HXC.out _ HB2.out
 go_wp2_with fail
 go_ret
 exact ⟨by rw [HVal.out]; rfl, HBZ.out.trans (HB2.out.mono HBZ.out.size)⟩
theorem form_21p (t : ByteArray) (n : Int) (ps : List Ty) (fs : FsT) (vs : VsT) (hp : ∀ p ∈ ps, FormR p) (hf : ∀ f ∈ fs, FormR f.2.2) (hv : ∀ v ∈ vs, ∀ b ∈ v.2, FormR b) (hnf : fs.length = 0) (hnv : vs.length = 0) (hpa : ps.all formT = true) (hnp : ps.length ≠ 4) : FormR (.mk 21 t n ps fs vs) := by
 refine form_pre 21 t n ps fs vs hp hf hv fun K w A c A' c' A'' c'' w1 h => ?_
 obtain ⟨HXC, KAll, KPl, KNm, KOb, KBi, KOv, HREP, HCN, HBZ, HB, HS1, HX0, HW1, hlp, hlf, hlv⟩ := h
 clear hp hf hv
 have HVal : Hid (formT (.mk 21 t n ps fs vs) = false) := Hd (by
  rw [formT_mk, show shapeK 21 = ⟨true, true, false, false, 4, 4, true⟩ from rfl, hpa]
  unfold fitsB selfB
  simp [hnf, hnv]
  omega)
 obtain ⟨f1, f2, f3, f4⟩ := no4 (m := fs.length) (n := vs.length) (by omega) (by omega)
 rw [hpa] at KAll
 have p1 : ((ps.length : Int) == 4) = false := beq_eq_false_iff_ne.2 (by omega)
 have p2 : (ps.length == 4) = false := beq_eq_false_iff_ne.2 (by omega)
 have p3 : decide (ps.length = 4) = false := decide_eq_false (by omega)
 have p4 : decide ((ps.length : Int) = 4) = false := decide_eq_false (by omega)
 clear hnf hnv hnp hpa
 go_enter Tryz.func23, Tryz.ntmps23
 go_upto_region 1 with fail
 rw [← HW1.out]
 obtain ⟨x0, x1, x2, x3, x4, x5⟩ := HXC.out _ HB.out
 go_wp2_with fail
 refine (KAll.out _ HB.out).mono ?_
 rintro e w2 ⟨rfl, hb⟩
 have HB1 := Hd (HB.out.trans (hb.mono HB.out.size))
 clear hb
 clear x0 x1 x2 x3 x4 x5
 obtain ⟨x0, x1, x2, x3, x4, x5⟩ := HXC.out _ HB1.out
 go_wp2_with fail
 go_ret
 exact ⟨by rw [HVal.out]; rfl, HBZ.out.trans (HB1.out.mono HBZ.out.size)⟩
theorem form_21a (t : ByteArray) (n : Int) (ps : List Ty) (fs : FsT) (vs : VsT) (hp : ∀ p ∈ ps, FormR p) (hf : ∀ f ∈ fs, FormR f.2.2) (hv : ∀ v ∈ vs, ∀ b ∈ v.2, FormR b) (hnf : fs.length = 0) (hnv : vs.length = 0) (hpa : ps.all formT = true) (hnp : ps.length = 4) (hn0 : n = 0) (ht0 : t.toList = []) : FormR (.mk 21 t n ps fs vs) := by
 refine form_pre 21 t n ps fs vs hp hf hv fun K w A c A' c' A'' c'' w1 h => ?_
 obtain ⟨HXC, KAll, KPl, KNm, KOb, KBi, KOv, HREP, HCN, HBZ, HB, HS1, HX0, HW1, hlp, hlf, hlv⟩ := h
 clear hp hf hv
 have HVal : Hid (formT (.mk 21 t n ps fs vs) = true) := Hd (by
  rw [formT_mk, show shapeK 21 = ⟨true, true, false, false, 4, 4, true⟩ from rfl, hpa]
  unfold fitsB selfB
  simp [hnf, hnv, hnp, hn0, ht0])
 obtain ⟨f1, f2, f3, f4⟩ := no4 (m := fs.length) (n := vs.length) (by omega) (by omega)
 rw [hpa] at KAll
 have f5 : (n == 0) = true := by simpa using hn0
 have p1 : ((ps.length : Int) == 4) = true := beq_iff_eq.2 (by omega)
 have p2 : (ps.length == 4) = true := beq_iff_eq.2 (by omega)
 have p3 : decide (ps.length = 4) = true := decide_eq_true (by omega)
 have p4 : decide ((ps.length : Int) = 4) = true := decide_eq_true (by omega)
 clear hnf hnv hnp hn0 hpa
 go_enter Tryz.func23, Tryz.ntmps23
 go_upto_region 1 with fail
 rw [← HW1.out]
 obtain ⟨x0, x1, x2, x3, x4, x5⟩ := HXC.out _ HB.out
 go_wp2_with fail
 refine (KAll.out _ HB.out).mono ?_
 rintro e w2 ⟨rfl, hb⟩
 have HB1 := Hd (HB.out.trans (hb.mono HB.out.size))
 clear hb
 clear x0 x1 x2 x3 x4 x5
 obtain ⟨x0, x1, x2, x3, x4, x5⟩ := HXC.out _ HB1.out
 go_wp2_with fail
 go_ret
 exact ⟨by rw [HVal.out]; rfl, HBZ.out.trans (HB1.out.mono HBZ.out.size)⟩
theorem form_21b (t : ByteArray) (n : Int) (ps : List Ty) (fs : FsT) (vs : VsT) (hp : ∀ p ∈ ps, FormR p) (hf : ∀ f ∈ fs, FormR f.2.2) (hv : ∀ v ∈ vs, ∀ b ∈ v.2, FormR b) (hnf : fs.length = 0) (hnv : vs.length = 0) (hpa : ps.all formT = true) (hnp : ps.length = 4) (hn0 : n = 0) (a0 : UInt8) (l0 : List UInt8) (ht0 : t.toList = a0 :: l0) : FormR (.mk 21 t n ps fs vs) := by
 refine form_pre 21 t n ps fs vs hp hf hv fun K w A c A' c' A'' c'' w1 h => ?_
 obtain ⟨HXC, KAll, KPl, KNm, KOb, KBi, KOv, HREP, HCN, HBZ, HB, HS1, HX0, HW1, hlp, hlf, hlv⟩ := h
 clear hp hf hv
 have HVal : Hid (formT (.mk 21 t n ps fs vs) = false) := Hd (by
  rw [formT_mk, show shapeK 21 = ⟨true, true, false, false, 4, 4, true⟩ from rfl, hpa]
  unfold fitsB selfB
  simp [hnf, hnv, hnp, hn0, ht0])
 obtain ⟨f1, f2, f3, f4⟩ := no4 (m := fs.length) (n := vs.length) (by omega) (by omega)
 rw [hpa] at KAll
 subst hn0
 have p1 : ((ps.length : Int) == 4) = true := beq_iff_eq.2 (by omega)
 have p2 : (ps.length == 4) = true := beq_iff_eq.2 (by omega)
 have p3 : decide (ps.length = 4) = true := decide_eq_true (by omega)
 have p4 : decide ((ps.length : Int) = 4) = true := decide_eq_true (by omega)
 clear hnf hnv hnp hpa
 go_enter Tryz.func23, Tryz.ntmps23
 go_upto_region 1 with fail
 rw [← HW1.out]
 obtain ⟨x0, x1, x2, x3, x4, x5⟩ := HXC.out _ HB.out
 go_wp2_with fail
 refine (KAll.out _ HB.out).mono ?_
 rintro e w2 ⟨rfl, hb⟩
 have HB1 := Hd (HB.out.trans (hb.mono HB.out.size))
 clear hb
 clear x0 x1 x2 x3 x4 x5
 obtain ⟨x0, x1, x2, x3, x4, x5⟩ := HXC.out _ HB1.out
 go_wp2_with fail
 go_ret
 exact ⟨by rw [HVal.out]; rfl, HBZ.out.trans (HB1.out.mono HBZ.out.size)⟩
theorem form_21c (t : ByteArray) (n : Int) (ps : List Ty) (fs : FsT) (vs : VsT) (hp : ∀ p ∈ ps, FormR p) (hf : ∀ f ∈ fs, FormR f.2.2) (hv : ∀ v ∈ vs, ∀ b ∈ v.2, FormR b) (hnf : fs.length = 0) (hnv : vs.length = 0) (hpa : ps.all formT = true) (hnp : ps.length = 4) (hn0 : n ≠ 0) (hn1 : n ≠ 1) : FormR (.mk 21 t n ps fs vs) := by
 refine form_pre 21 t n ps fs vs hp hf hv fun K w A c A' c' A'' c'' w1 h => ?_
 obtain ⟨HXC, KAll, KPl, KNm, KOb, KBi, KOv, HREP, HCN, HBZ, HB, HS1, HX0, HW1, hlp, hlf, hlv⟩ := h
 clear hp hf hv
 have HVal : Hid (formT (.mk 21 t n ps fs vs) = false) := Hd (by
  rw [formT_mk, show shapeK 21 = ⟨true, true, false, false, 4, 4, true⟩ from rfl, hpa]
  unfold fitsB selfB
  simp [hnf, hnv, hnp, hn0, hn1])
 obtain ⟨f1, f2, f3, f4⟩ := no4 (m := fs.length) (n := vs.length) (by omega) (by omega)
 rw [hpa] at KAll
 have f5 : (n == 0) = false := by simpa using hn0
 have f7 : (n == 1) = false := by simpa using hn1
 have p1 : ((ps.length : Int) == 4) = true := beq_iff_eq.2 (by omega)
 have p2 : (ps.length == 4) = true := beq_iff_eq.2 (by omega)
 have p3 : decide (ps.length = 4) = true := decide_eq_true (by omega)
 have p4 : decide ((ps.length : Int) = 4) = true := decide_eq_true (by omega)
 clear hnf hnv hnp hn0 hn1 hpa
 go_enter Tryz.func23, Tryz.ntmps23
 go_upto_region 1 with fail
 rw [← HW1.out]
 obtain ⟨x0, x1, x2, x3, x4, x5⟩ := HXC.out _ HB.out
 go_wp2_with fail
 refine (KAll.out _ HB.out).mono ?_
 rintro e w2 ⟨rfl, hb⟩
 have HB1 := Hd (HB.out.trans (hb.mono HB.out.size))
 clear hb
 clear x0 x1 x2 x3 x4 x5
 obtain ⟨x0, x1, x2, x3, x4, x5⟩ := HXC.out _ HB1.out
 go_wp2_with fail
 go_ret
 exact ⟨by rw [HVal.out]; rfl, HBZ.out.trans (HB1.out.mono HBZ.out.size)⟩
theorem form_21mf (t : ByteArray) (n : Int) (ps : List Ty) (fs : FsT) (vs : VsT) (hp : ∀ p ∈ ps, FormR p) (hf : ∀ f ∈ fs, FormR f.2.2) (hv : ∀ v ∈ vs, ∀ b ∈ v.2, FormR b) (hnf : fs.length = 0) (hnv : vs.length = 0) (hpa : ps.all formT = true) (hnp : ps.length = 4) (hn0 : n ≠ 0) (hn1 : n = 1) (hnm : nameT t = false) : FormR (.mk 21 t n ps fs vs) := by
 refine form_pre 21 t n ps fs vs hp hf hv fun K w A c A' c' A'' c'' w1 h => ?_
 obtain ⟨HXC, KAll, KPl, KNm, KOb, KBi, KOv, HREP, HCN, HBZ, HB, HS1, HX0, HW1, hlp, hlf, hlv⟩ := h
 clear hp hf hv
 have HVal : Hid (formT (.mk 21 t n ps fs vs) = false) := Hd (by
  rw [formT_mk, show shapeK 21 = ⟨true, true, false, false, 4, 4, true⟩ from rfl, hpa]
  unfold fitsB selfB
  simp [hnf, hnv, hnp, hn1, hnm])
 obtain ⟨f1, f2, f3, f4⟩ := no4 (m := fs.length) (n := vs.length) (by omega) (by omega)
 rw [hpa] at KAll
 subst hn1
 rw [hnm] at KNm
 have p1 : ((ps.length : Int) == 4) = true := beq_iff_eq.2 (by omega)
 have p2 : (ps.length == 4) = true := beq_iff_eq.2 (by omega)
 have p3 : decide (ps.length = 4) = true := decide_eq_true (by omega)
 have p4 : decide ((ps.length : Int) = 4) = true := decide_eq_true (by omega)
 clear hnf hnv hnp hn0 hpa hnm
 go_enter Tryz.func23, Tryz.ntmps23
 go_upto_region 1 with fail
 rw [← HW1.out]
 obtain ⟨x0, x1, x2, x3, x4, x5⟩ := HXC.out _ HB.out
 go_wp2_with fail
 refine (KAll.out _ HB.out).mono ?_
 rintro e w2 ⟨rfl, hb⟩
 have HB1 := Hd (HB.out.trans (hb.mono HB.out.size))
 clear hb
 clear x0 x1 x2 x3 x4 x5
 obtain ⟨x0, x1, x2, x3, x4, x5⟩ := HXC.out _ HB1.out
 go_wp2_with fail
 refine (KNm.out _).mono ?_
 rintro e w3 ⟨rfl, hb⟩
 have HB2 := Hd (HB1.out.trans (hb.mono HB1.out.size))
 clear hb
 clear x0 x1 x2 x3 x4 x5
 obtain ⟨x0, x1, x2, x3, x4, x5⟩ := HXC.out _ HB2.out
 go_wp2_with fail
 go_ret
 exact ⟨by rw [HVal.out]; rfl, HBZ.out.trans (HB2.out.mono HBZ.out.size)⟩
theorem form_21mt (t : ByteArray) (n : Int) (ps : List Ty) (fs : FsT) (vs : VsT) (hp : ∀ p ∈ ps, FormR p) (hf : ∀ f ∈ fs, FormR f.2.2) (hv : ∀ v ∈ vs, ∀ b ∈ v.2, FormR b) (hnf : fs.length = 0) (hnv : vs.length = 0) (hpa : ps.all formT = true) (hnp : ps.length = 4) (hn0 : n ≠ 0) (hn1 : n = 1) (hnm : nameT t = true) : FormR (.mk 21 t n ps fs vs) := by
 refine form_pre 21 t n ps fs vs hp hf hv fun K w A c A' c' A'' c'' w1 h => ?_
 obtain ⟨HXC, KAll, KPl, KNm, KOb, KBi, KOv, HREP, HCN, HBZ, HB, HS1, HX0, HW1, hlp, hlf, hlv⟩ := h
 clear hp hf hv
 have HVal : Hid (formT (.mk 21 t n ps fs vs) = true) := Hd (by
  rw [formT_mk, show shapeK 21 = ⟨true, true, false, false, 4, 4, true⟩ from rfl, hpa]
  unfold fitsB selfB
  simp [hnf, hnv, hnp, hn1, hnm])
 obtain ⟨f1, f2, f3, f4⟩ := no4 (m := fs.length) (n := vs.length) (by omega) (by omega)
 rw [hpa] at KAll
 subst hn1
 rw [hnm] at KNm
 have p1 : ((ps.length : Int) == 4) = true := beq_iff_eq.2 (by omega)
 have p2 : (ps.length == 4) = true := beq_iff_eq.2 (by omega)
 have p3 : decide (ps.length = 4) = true := decide_eq_true (by omega)
 have p4 : decide ((ps.length : Int) = 4) = true := decide_eq_true (by omega)
 clear hnf hnv hnp hn0 hpa hnm
 go_enter Tryz.func23, Tryz.ntmps23
 go_upto_region 1 with fail
 rw [← HW1.out]
 obtain ⟨x0, x1, x2, x3, x4, x5⟩ := HXC.out _ HB.out
 go_wp2_with fail
 refine (KAll.out _ HB.out).mono ?_
 rintro e w2 ⟨rfl, hb⟩
 have HB1 := Hd (HB.out.trans (hb.mono HB.out.size))
 clear hb
 clear x0 x1 x2 x3 x4 x5
 obtain ⟨x0, x1, x2, x3, x4, x5⟩ := HXC.out _ HB1.out
 go_wp2_with fail
 refine (KNm.out _).mono ?_
 rintro e w3 ⟨rfl, hb⟩
 have HB2 := Hd (HB1.out.trans (hb.mono HB1.out.size))
 clear hb
 clear x0 x1 x2 x3 x4 x5
 obtain ⟨x0, x1, x2, x3, x4, x5⟩ := HXC.out _ HB2.out
 go_wp2_with fail
 go_ret
 exact ⟨by rw [HVal.out]; rfl, HBZ.out.trans (HB2.out.mono HBZ.out.size)⟩
theorem form_23t (t : ByteArray) (n : Int) (ps : List Ty) (fs : FsT) (vs : VsT) (hp : ∀ p ∈ ps, FormR p) (hf : ∀ f ∈ fs, FormR f.2.2) (hv : ∀ v ∈ vs, ∀ b ∈ v.2, FormR b) (hnf : fs.length = 0) (hnv : vs.length = 0) (hpa : ps.all formT = true) (a0 : UInt8) (l0 : List UInt8) (ht0 : t.toList = a0 :: l0) : FormR (.mk 23 t n ps fs vs) := by
 refine form_pre 23 t n ps fs vs hp hf hv fun K w A c A' c' A'' c'' w1 h => ?_
 obtain ⟨HXC, KAll, KPl, KNm, KOb, KBi, KOv, HREP, HCN, HBZ, HB, HS1, HX0, HW1, hlp, hlf, hlv⟩ := h
 clear hp hf hv
 have HVal : Hid (formT (.mk 23 t n ps fs vs) = false) := Hd (by
  rw [formT_mk, show shapeK 23 = ⟨false, false, false, false, 2, -1, true⟩ from rfl, hpa]
  unfold fitsB selfB
  simp [hnf, hnv, ht0])
 obtain ⟨f1, f2, f3, f4⟩ := no4 (m := fs.length) (n := vs.length) (by omega) (by omega)
 rw [hpa] at KAll
 have ep : (t.toList == [] && n == 0) = false := by rw [ht0]; rfl
 rw [ep] at KPl
 clear hnf hnv hpa ht0
 go_enter Tryz.func23, Tryz.ntmps23
 go_upto_region 1 with fail
 rw [← HW1.out]
 obtain ⟨x0, x1, x2, x3, x4, x5⟩ := HXC.out _ HB.out
 go_wp2_with fail
 refine (KAll.out _ HB.out).mono ?_
 rintro e w2 ⟨rfl, hb⟩
 have HB1 := Hd (HB.out.trans (hb.mono HB.out.size))
 clear hb
 clear x0 x1 x2 x3 x4 x5
 obtain ⟨x0, x1, x2, x3, x4, x5⟩ := HXC.out _ HB1.out
 go_wp2_with fail
 refine (KPl.out _).mono ?_
 rintro e w3 ⟨rfl, hb⟩
 have HB2 := Hd (HB1.out.trans (hb.mono HB1.out.size))
 clear hb
 clear x0 x1 x2 x3 x4 x5
 obtain ⟨x0, x1, x2, x3, x4, x5⟩ := HXC.out _ HB2.out
 go_wp2_with fail
 go_ret
 exact ⟨by rw [HVal.out]; rfl, HBZ.out.trans (HB2.out.mono HBZ.out.size)⟩
theorem form_23n (t : ByteArray) (n : Int) (ps : List Ty) (fs : FsT) (vs : VsT) (hp : ∀ p ∈ ps, FormR p) (hf : ∀ f ∈ fs, FormR f.2.2) (hv : ∀ v ∈ vs, ∀ b ∈ v.2, FormR b) (hnf : fs.length = 0) (hnv : vs.length = 0) (hpa : ps.all formT = true) (ht0 : t.toList = []) (hn0 : n ≠ 0) : FormR (.mk 23 t n ps fs vs) := by
 refine form_pre 23 t n ps fs vs hp hf hv fun K w A c A' c' A'' c'' w1 h => ?_
 obtain ⟨HXC, KAll, KPl, KNm, KOb, KBi, KOv, HREP, HCN, HBZ, HB, HS1, HX0, HW1, hlp, hlf, hlv⟩ := h
 clear hp hf hv
 have HVal : Hid (formT (.mk 23 t n ps fs vs) = false) := Hd (by
  rw [formT_mk, show shapeK 23 = ⟨false, false, false, false, 2, -1, true⟩ from rfl, hpa]
  unfold fitsB selfB
  simp [hnf, hnv, ht0, hn0])
 obtain ⟨f1, f2, f3, f4⟩ := no4 (m := fs.length) (n := vs.length) (by omega) (by omega)
 rw [hpa] at KAll
 have ep : (t.toList == [] && n == 0) = false := by rw [ht0]; simpa using hn0
 rw [ep] at KPl
 clear hnf hnv hn0 hpa ht0
 go_enter Tryz.func23, Tryz.ntmps23
 go_upto_region 1 with fail
 rw [← HW1.out]
 obtain ⟨x0, x1, x2, x3, x4, x5⟩ := HXC.out _ HB.out
 go_wp2_with fail
 refine (KAll.out _ HB.out).mono ?_
 rintro e w2 ⟨rfl, hb⟩
 have HB1 := Hd (HB.out.trans (hb.mono HB.out.size))
 clear hb
 clear x0 x1 x2 x3 x4 x5
 obtain ⟨x0, x1, x2, x3, x4, x5⟩ := HXC.out _ HB1.out
 go_wp2_with fail
 refine (KPl.out _).mono ?_
 rintro e w3 ⟨rfl, hb⟩
 have HB2 := Hd (HB1.out.trans (hb.mono HB1.out.size))
 clear hb
 clear x0 x1 x2 x3 x4 x5
 obtain ⟨x0, x1, x2, x3, x4, x5⟩ := HXC.out _ HB2.out
 go_wp2_with fail
 go_ret
 exact ⟨by rw [HVal.out]; rfl, HBZ.out.trans (HB2.out.mono HBZ.out.size)⟩
theorem form_23p (t : ByteArray) (n : Int) (ps : List Ty) (fs : FsT) (vs : VsT) (hp : ∀ p ∈ ps, FormR p) (hf : ∀ f ∈ fs, FormR f.2.2) (hv : ∀ v ∈ vs, ∀ b ∈ v.2, FormR b) (hnf : fs.length = 0) (hnv : vs.length = 0) (hpa : ps.all formT = true) (ht0 : t.toList = []) (hn0 : n = 0) (hnp : ¬ 2 ≤ ps.length) : FormR (.mk 23 t n ps fs vs) := by
 refine form_pre 23 t n ps fs vs hp hf hv fun K w A c A' c' A'' c'' w1 h => ?_
 obtain ⟨HXC, KAll, KPl, KNm, KOb, KBi, KOv, HREP, HCN, HBZ, HB, HS1, HX0, HW1, hlp, hlf, hlv⟩ := h
 clear hp hf hv
 have HVal : Hid (formT (.mk 23 t n ps fs vs) = false) := Hd (by
  rw [formT_mk, show shapeK 23 = ⟨false, false, false, false, 2, -1, true⟩ from rfl, hpa]
  unfold fitsB selfB
  simp [hnf, hnv, ht0, hn0]
  omega)
 obtain ⟨f1, f2, f3, f4⟩ := no4 (m := fs.length) (n := vs.length) (by omega) (by omega)
 rw [hpa] at KAll
 have ep : (t.toList == [] && n == 0) = true := by rw [ht0, hn0]; rfl
 rw [ep] at KPl
 have p1 : decide ((2 : Int) ≤ (ps.length : Int)) = false := decide_eq_false (by omega)
 have p2 : decide (2 ≤ ps.length) = false := decide_eq_false (by omega)
 clear hnf hnv hnp hn0 hpa ht0
 go_enter Tryz.func23, Tryz.ntmps23
 go_upto_region 1 with fail
 rw [← HW1.out]
 obtain ⟨x0, x1, x2, x3, x4, x5⟩ := HXC.out _ HB.out
 go_wp2_with fail
 refine (KAll.out _ HB.out).mono ?_
 rintro e w2 ⟨rfl, hb⟩
 have HB1 := Hd (HB.out.trans (hb.mono HB.out.size))
 clear hb
 clear x0 x1 x2 x3 x4 x5
 obtain ⟨x0, x1, x2, x3, x4, x5⟩ := HXC.out _ HB1.out
 go_wp2_with fail
 refine (KPl.out _).mono ?_
 rintro e w3 ⟨rfl, hb⟩
 have HB2 := Hd (HB1.out.trans (hb.mono HB1.out.size))
 clear hb
 clear x0 x1 x2 x3 x4 x5
 obtain ⟨x0, x1, x2, x3, x4, x5⟩ := HXC.out _ HB2.out
 go_wp2_with fail
 go_ret
 exact ⟨by rw [HVal.out]; rfl, HBZ.out.trans (HB2.out.mono HBZ.out.size)⟩
theorem form_23bf (t : ByteArray) (n : Int) (ps : List Ty) (fs : FsT) (vs : VsT) (hp : ∀ p ∈ ps, FormR p) (hf : ∀ f ∈ fs, FormR f.2.2) (hv : ∀ v ∈ vs, ∀ b ∈ v.2, FormR b) (hnf : fs.length = 0) (hnv : vs.length = 0) (hpa : ps.all formT = true) (ht0 : t.toList = []) (hn0 : n = 0) (hnp : 2 ≤ ps.length) (hov : overT ps = false) : FormR (.mk 23 t n ps fs vs) := by
 refine form_pre 23 t n ps fs vs hp hf hv fun K w A c A' c' A'' c'' w1 h => ?_
 obtain ⟨HXC, KAll, KPl, KNm, KOb, KBi, KOv, HREP, HCN, HBZ, HB, HS1, HX0, HW1, hlp, hlf, hlv⟩ := h
 clear hp hf hv
 have HVal : Hid (formT (.mk 23 t n ps fs vs) = false) := Hd (by
  rw [formT_mk, show shapeK 23 = ⟨false, false, false, false, 2, -1, true⟩ from rfl, hpa]
  unfold fitsB selfB
  have ho : (ps.all fun p => p.k == 13) = false := hov
  simp [hnf, hnv, ht0, hn0, ho])
 obtain ⟨f1, f2, f3, f4⟩ := no4 (m := fs.length) (n := vs.length) (by omega) (by omega)
 rw [hpa] at KAll
 have ep : (t.toList == [] && n == 0) = true := by rw [ht0, hn0]; rfl
 rw [ep] at KPl
 have p1 : decide ((2 : Int) ≤ (ps.length : Int)) = true := decide_eq_true (by omega)
 have p2 : decide (2 ≤ ps.length) = true := decide_eq_true (by omega)
 rw [hov] at KOv
 clear hnf hnv hnp hn0 hpa hov ht0
 go_enter Tryz.func23, Tryz.ntmps23
 go_upto_region 1 with fail
 rw [← HW1.out]
 obtain ⟨x0, x1, x2, x3, x4, x5⟩ := HXC.out _ HB.out
 go_wp2_with fail
 refine (KAll.out _ HB.out).mono ?_
 rintro e w2 ⟨rfl, hb⟩
 have HB1 := Hd (HB.out.trans (hb.mono HB.out.size))
 clear hb
 clear x0 x1 x2 x3 x4 x5
 obtain ⟨x0, x1, x2, x3, x4, x5⟩ := HXC.out _ HB1.out
 go_wp2_with fail
 refine (KPl.out _).mono ?_
 rintro e w3 ⟨rfl, hb⟩
 have HB2 := Hd (HB1.out.trans (hb.mono HB1.out.size))
 clear hb
 clear x0 x1 x2 x3 x4 x5
 obtain ⟨x0, x1, x2, x3, x4, x5⟩ := HXC.out _ HB2.out
 go_wp2_with fail
 refine (KOv.out _ HB2.out).mono ?_
 rintro e w4 ⟨rfl, rfl⟩
 have HB3 := Hd HB2.out
 clear x0 x1 x2 x3 x4 x5
 obtain ⟨x0, x1, x2, x3, x4, x5⟩ := HXC.out _ HB3.out
 go_wp2_with fail
 go_ret
 exact ⟨by rw [HVal.out]; rfl, HBZ.out.trans (HB3.out.mono HBZ.out.size)⟩
theorem form_23bt (t : ByteArray) (n : Int) (ps : List Ty) (fs : FsT) (vs : VsT) (hp : ∀ p ∈ ps, FormR p) (hf : ∀ f ∈ fs, FormR f.2.2) (hv : ∀ v ∈ vs, ∀ b ∈ v.2, FormR b) (hnf : fs.length = 0) (hnv : vs.length = 0) (hpa : ps.all formT = true) (ht0 : t.toList = []) (hn0 : n = 0) (hnp : 2 ≤ ps.length) (hov : overT ps = true) : FormR (.mk 23 t n ps fs vs) := by
 refine form_pre 23 t n ps fs vs hp hf hv fun K w A c A' c' A'' c'' w1 h => ?_
 obtain ⟨HXC, KAll, KPl, KNm, KOb, KBi, KOv, HREP, HCN, HBZ, HB, HS1, HX0, HW1, hlp, hlf, hlv⟩ := h
 clear hp hf hv
 have HVal : Hid (formT (.mk 23 t n ps fs vs) = true) := Hd (by
  rw [formT_mk, show shapeK 23 = ⟨false, false, false, false, 2, -1, true⟩ from rfl, hpa]
  unfold fitsB selfB
  have ho : (ps.all fun p => p.k == 13) = true := hov
  simp [hnf, hnv, ht0, hn0, ho]
  omega)
 obtain ⟨f1, f2, f3, f4⟩ := no4 (m := fs.length) (n := vs.length) (by omega) (by omega)
 rw [hpa] at KAll
 have ep : (t.toList == [] && n == 0) = true := by rw [ht0, hn0]; rfl
 rw [ep] at KPl
 have p1 : decide ((2 : Int) ≤ (ps.length : Int)) = true := decide_eq_true (by omega)
 have p2 : decide (2 ≤ ps.length) = true := decide_eq_true (by omega)
 rw [hov] at KOv
 clear hnf hnv hnp hn0 hpa hov ht0
 go_enter Tryz.func23, Tryz.ntmps23
 go_upto_region 1 with fail
 rw [← HW1.out]
 obtain ⟨x0, x1, x2, x3, x4, x5⟩ := HXC.out _ HB.out
 go_wp2_with fail
 refine (KAll.out _ HB.out).mono ?_
 rintro e w2 ⟨rfl, hb⟩
 have HB1 := Hd (HB.out.trans (hb.mono HB.out.size))
 clear hb
 clear x0 x1 x2 x3 x4 x5
 obtain ⟨x0, x1, x2, x3, x4, x5⟩ := HXC.out _ HB1.out
 go_wp2_with fail
 refine (KPl.out _).mono ?_
 rintro e w3 ⟨rfl, hb⟩
 have HB2 := Hd (HB1.out.trans (hb.mono HB1.out.size))
 clear hb
 clear x0 x1 x2 x3 x4 x5
 obtain ⟨x0, x1, x2, x3, x4, x5⟩ := HXC.out _ HB2.out
 go_wp2_with fail
 refine (KOv.out _ HB2.out).mono ?_
 rintro e w4 ⟨rfl, rfl⟩
 have HB3 := Hd HB2.out
 clear x0 x1 x2 x3 x4 x5
 obtain ⟨x0, x1, x2, x3, x4, x5⟩ := HXC.out _ HB3.out
 go_wp2_with fail
 go_ret
 exact ⟨by rw [HVal.out]; rfl, HBZ.out.trans (HB3.out.mono HBZ.out.size)⟩
theorem form_15t (t : ByteArray) (n : Int) (ps : List Ty) (fs : FsT) (vs : VsT) (hp : ∀ p ∈ ps, FormR p) (hf : ∀ f ∈ fs, FormR f.2.2) (hv : ∀ v ∈ vs, ∀ b ∈ v.2, FormR b) (hnf : fs.length = 0) (hnv : vs.length = 0) (hpa : ps.all formT = true) (a0 : UInt8) (l0 : List UInt8) (ht0 : t.toList = a0 :: l0) : FormR (.mk 15 t n ps fs vs) := by
 refine form_pre 15 t n ps fs vs hp hf hv fun K w A c A' c' A'' c'' w1 h => ?_
 obtain ⟨HXC, KAll, KPl, KNm, KOb, KBi, KOv, HREP, HCN, HBZ, HB, HS1, HX0, HW1, hlp, hlf, hlv⟩ := h
 clear hp hf hv
 have HVal : Hid (formT (.mk 15 t n ps fs vs) = false) := Hd (by
  rw [formT_mk, show shapeK 15 = ⟨false, false, false, false, 2, -1, true⟩ from rfl, hpa]
  unfold fitsB selfB
  simp [hnf, hnv, ht0])
 obtain ⟨f1, f2, f3, f4⟩ := no4 (m := fs.length) (n := vs.length) (by omega) (by omega)
 rw [hpa] at KAll
 have ep : (t.toList == [] && n == 0) = false := by rw [ht0]; rfl
 rw [ep] at KPl
 try clear hnf
 try clear hnv
 try clear hnp
 try clear hn0
 try clear hpa
 try clear ht0
 go_enter Tryz.func23, Tryz.ntmps23
 go_upto_region 1 with fail
 rw [← HW1.out]
 obtain ⟨x0, x1, x2, x3, x4, x5⟩ := HXC.out _ HB.out
 go_wp2_with fail
 refine (KAll.out _ HB.out).mono ?_
 rintro e w2 ⟨rfl, hb⟩
 have HB1 := Hd (HB.out.trans (hb.mono HB.out.size))
 clear hb
 clear x0 x1 x2 x3 x4 x5
 obtain ⟨x0, x1, x2, x3, x4, x5⟩ := HXC.out _ HB1.out
 go_wp2_with fail
 clear x0 x1 x2 x3 x4 x5
 refine wp_region_held_drew (S := (fun w' => w'.cell? ⟨w.heap.size, 0, none⟩ = some (.int .i64 15) ∧ w'.cell? ⟨w.heap.size, 1, none⟩ = some (.string t) ∧ w'.cell? ⟨w.heap.size, 2, none⟩ = some (.int .i64 n) ∧ w'.cell? ⟨w.heap.size, 3, none⟩ = some (.slice A ps.length c) ∧ w'.cell? ⟨w.heap.size, 4, none⟩ = some (.slice A' fs.length c') ∧ w'.cell? ⟨w.heap.size, 5, none⟩ = some (.slice A'' vs.length c''))) (by kernel_rfl) (HXC.out _ HB1.out.drew) (fun hHeld => ?_)
 refine Plan.start [0] ?_
 refine Plan.tk (so rfl) hHeld ?_
 try simp only [Act.put, pz1, pz2, pz3]
 refine Plan.done ?_
 refine wpAnyH_ready (rs := [1]) (by kernel_rfl) (by simp) ?_
 refine AllReadyH.cons (sd (some 115) rfl) (fun K hK => ?_) AllReadyH.nil
 go_simp
 refine (KPl.out _).mono ?_
 rintro e w4 ⟨rfl, hb⟩
 have HB2 := Hd (HB1.out.drew.trans (hb.mono HB1.out.drew.size))
 clear hb
 go_wp2_with fail
 refine hK.out _ _ (HXC.out _ HB2.out) (fun hHeld => ?_)
 clear hK K
 try simp only [Act.put, pz1, pz2, pz3]
 refine Plan.start [2] ?_
 refine Plan.tk (so rfl) hHeld ?_
 try simp only [Act.put, pz1, pz2, pz3]
 refine Plan.done ?_
 refine Plan.start [3, 4] ?_
 iterate 2 (refine Plan.take (v := undef) (so rfl) (by kernel_rfl) (by kernel_rfl) (by kernel_rfl) (fun _ _ _ h => h) (Or.inr ⟨by rfl, rfl⟩) hHeld ?_; try simp only [Act.put, pz1, pz2, pz3])
 refine Plan.done ?_
 refine Plan.start [5, 6] ?_
 iterate 2 (refine Plan.tk (so rfl) hHeld ?_; try simp only [Act.put, pz1, pz2, pz3])
 refine Plan.done ?_
 refine Plan.start [7, 8, 9, 10, 11, 12] ?_
 iterate 6 (refine Plan.take (v := undef) (so rfl) (by kernel_rfl) (by kernel_rfl) (by kernel_rfl) (fun _ _ _ h => h) (Or.inr ⟨by rfl, rfl⟩) hHeld ?_; try simp only [Act.put, pz1, pz2, pz3])
 refine Plan.done ?_
 refine Plan.start [13, 14] ?_
 iterate 2 (refine Plan.tk (so rfl) hHeld ?_; try simp only [Act.put, pz1, pz2, pz3])
 refine Plan.done ?_
 refine wpAnyH_done (by kernel_rfl) ?_ _
 clear hHeld
 go_wp2_with fail
 go_ret
 exact ⟨by rw [HVal.out]; rfl, HBZ.out.trans (HB2.out.mono HBZ.out.size)⟩
theorem form_15n (t : ByteArray) (n : Int) (ps : List Ty) (fs : FsT) (vs : VsT) (hp : ∀ p ∈ ps, FormR p) (hf : ∀ f ∈ fs, FormR f.2.2) (hv : ∀ v ∈ vs, ∀ b ∈ v.2, FormR b) (hnf : fs.length = 0) (hnv : vs.length = 0) (hpa : ps.all formT = true) (ht0 : t.toList = []) (hn0 : n ≠ 0) : FormR (.mk 15 t n ps fs vs) := by
 refine form_pre 15 t n ps fs vs hp hf hv fun K w A c A' c' A'' c'' w1 h => ?_
 obtain ⟨HXC, KAll, KPl, KNm, KOb, KBi, KOv, HREP, HCN, HBZ, HB, HS1, HX0, HW1, hlp, hlf, hlv⟩ := h
 clear hp hf hv
 have HVal : Hid (formT (.mk 15 t n ps fs vs) = false) := Hd (by
  rw [formT_mk, show shapeK 15 = ⟨false, false, false, false, 2, -1, true⟩ from rfl, hpa]
  unfold fitsB selfB
  simp [hnf, hnv, ht0, hn0])
 obtain ⟨f1, f2, f3, f4⟩ := no4 (m := fs.length) (n := vs.length) (by omega) (by omega)
 rw [hpa] at KAll
 have ep : (t.toList == [] && n == 0) = false := by rw [ht0]; simpa using hn0
 rw [ep] at KPl
 try clear hnf
 try clear hnv
 try clear hnp
 try clear hn0
 try clear hpa
 try clear ht0
 go_enter Tryz.func23, Tryz.ntmps23
 go_upto_region 1 with fail
 rw [← HW1.out]
 obtain ⟨x0, x1, x2, x3, x4, x5⟩ := HXC.out _ HB.out
 go_wp2_with fail
 refine (KAll.out _ HB.out).mono ?_
 rintro e w2 ⟨rfl, hb⟩
 have HB1 := Hd (HB.out.trans (hb.mono HB.out.size))
 clear hb
 clear x0 x1 x2 x3 x4 x5
 obtain ⟨x0, x1, x2, x3, x4, x5⟩ := HXC.out _ HB1.out
 go_wp2_with fail
 clear x0 x1 x2 x3 x4 x5
 refine wp_region_held_drew (S := (fun w' => w'.cell? ⟨w.heap.size, 0, none⟩ = some (.int .i64 15) ∧ w'.cell? ⟨w.heap.size, 1, none⟩ = some (.string t) ∧ w'.cell? ⟨w.heap.size, 2, none⟩ = some (.int .i64 n) ∧ w'.cell? ⟨w.heap.size, 3, none⟩ = some (.slice A ps.length c) ∧ w'.cell? ⟨w.heap.size, 4, none⟩ = some (.slice A' fs.length c') ∧ w'.cell? ⟨w.heap.size, 5, none⟩ = some (.slice A'' vs.length c''))) (by kernel_rfl) (HXC.out _ HB1.out.drew) (fun hHeld => ?_)
 refine Plan.start [0] ?_
 refine Plan.tk (so rfl) hHeld ?_
 try simp only [Act.put, pz1, pz2, pz3]
 refine Plan.done ?_
 refine wpAnyH_ready (rs := [1]) (by kernel_rfl) (by simp) ?_
 refine AllReadyH.cons (sd (some 115) rfl) (fun K hK => ?_) AllReadyH.nil
 go_simp
 refine (KPl.out _).mono ?_
 rintro e w4 ⟨rfl, hb⟩
 have HB2 := Hd (HB1.out.drew.trans (hb.mono HB1.out.drew.size))
 clear hb
 go_wp2_with fail
 refine hK.out _ _ (HXC.out _ HB2.out) (fun hHeld => ?_)
 clear hK K
 try simp only [Act.put, pz1, pz2, pz3]
 refine Plan.start [2] ?_
 refine Plan.tk (so rfl) hHeld ?_
 try simp only [Act.put, pz1, pz2, pz3]
 refine Plan.done ?_
 refine Plan.start [3, 4] ?_
 iterate 2 (refine Plan.take (v := undef) (so rfl) (by kernel_rfl) (by kernel_rfl) (by kernel_rfl) (fun _ _ _ h => h) (Or.inr ⟨by rfl, rfl⟩) hHeld ?_; try simp only [Act.put, pz1, pz2, pz3])
 refine Plan.done ?_
 refine Plan.start [5, 6] ?_
 iterate 2 (refine Plan.tk (so rfl) hHeld ?_; try simp only [Act.put, pz1, pz2, pz3])
 refine Plan.done ?_
 refine Plan.start [7, 8, 9, 10, 11, 12] ?_
 iterate 6 (refine Plan.take (v := undef) (so rfl) (by kernel_rfl) (by kernel_rfl) (by kernel_rfl) (fun _ _ _ h => h) (Or.inr ⟨by rfl, rfl⟩) hHeld ?_; try simp only [Act.put, pz1, pz2, pz3])
 refine Plan.done ?_
 refine Plan.start [13, 14] ?_
 iterate 2 (refine Plan.tk (so rfl) hHeld ?_; try simp only [Act.put, pz1, pz2, pz3])
 refine Plan.done ?_
 refine wpAnyH_done (by kernel_rfl) ?_ _
 clear hHeld
 go_wp2_with fail
 go_ret
 exact ⟨by rw [HVal.out]; rfl, HBZ.out.trans (HB2.out.mono HBZ.out.size)⟩
theorem form_15p (t : ByteArray) (n : Int) (ps : List Ty) (fs : FsT) (vs : VsT) (hp : ∀ p ∈ ps, FormR p) (hf : ∀ f ∈ fs, FormR f.2.2) (hv : ∀ v ∈ vs, ∀ b ∈ v.2, FormR b) (hnf : fs.length = 0) (hnv : vs.length = 0) (hpa : ps.all formT = true) (ht0 : t.toList = []) (hn0 : n = 0) (hnp : ¬ 2 ≤ ps.length) : FormR (.mk 15 t n ps fs vs) := by
 refine form_pre 15 t n ps fs vs hp hf hv fun K w A c A' c' A'' c'' w1 h => ?_
 obtain ⟨HXC, KAll, KPl, KNm, KOb, KBi, KOv, HREP, HCN, HBZ, HB, HS1, HX0, HW1, hlp, hlf, hlv⟩ := h
 clear hp hf hv
 have HVal : Hid (formT (.mk 15 t n ps fs vs) = false) := Hd (by
  rw [formT_mk, show shapeK 15 = ⟨false, false, false, false, 2, -1, true⟩ from rfl, hpa]
  unfold fitsB selfB
  simp [hnf, hnv, ht0, hn0]
  omega)
 obtain ⟨f1, f2, f3, f4⟩ := no4 (m := fs.length) (n := vs.length) (by omega) (by omega)
 rw [hpa] at KAll
 have ep : (t.toList == [] && n == 0) = true := by rw [ht0, hn0]; rfl
 rw [ep] at KPl
 have p1 : decide ((2 : Int) ≤ (ps.length : Int)) = false := decide_eq_false (by omega)
 have p2 : decide (2 ≤ ps.length) = false := decide_eq_false (by omega)
 try clear hnf
 try clear hnv
 try clear hnp
 try clear hn0
 try clear hpa
 try clear ht0
 go_enter Tryz.func23, Tryz.ntmps23
 go_upto_region 1 with fail
 rw [← HW1.out]
 obtain ⟨x0, x1, x2, x3, x4, x5⟩ := HXC.out _ HB.out
 go_wp2_with fail
 refine (KAll.out _ HB.out).mono ?_
 rintro e w2 ⟨rfl, hb⟩
 have HB1 := Hd (HB.out.trans (hb.mono HB.out.size))
 clear hb
 clear x0 x1 x2 x3 x4 x5
 obtain ⟨x0, x1, x2, x3, x4, x5⟩ := HXC.out _ HB1.out
 go_wp2_with fail
 clear x0 x1 x2 x3 x4 x5
 refine wp_region_held_drew (S := (fun w' => w'.cell? ⟨w.heap.size, 0, none⟩ = some (.int .i64 15) ∧ w'.cell? ⟨w.heap.size, 1, none⟩ = some (.string t) ∧ w'.cell? ⟨w.heap.size, 2, none⟩ = some (.int .i64 n) ∧ w'.cell? ⟨w.heap.size, 3, none⟩ = some (.slice A ps.length c) ∧ w'.cell? ⟨w.heap.size, 4, none⟩ = some (.slice A' fs.length c') ∧ w'.cell? ⟨w.heap.size, 5, none⟩ = some (.slice A'' vs.length c''))) (by kernel_rfl) (HXC.out _ HB1.out.drew) (fun hHeld => ?_)
 refine Plan.start [0] ?_
 refine Plan.tk (so rfl) hHeld ?_
 try simp only [Act.put, pz1, pz2, pz3]
 refine Plan.done ?_
 refine wpAnyH_ready (rs := [1]) (by kernel_rfl) (by simp) ?_
 refine AllReadyH.cons (sd (some 115) rfl) (fun K hK => ?_) AllReadyH.nil
 go_simp
 refine (KPl.out _).mono ?_
 rintro e w4 ⟨rfl, hb⟩
 have HB2 := Hd (HB1.out.drew.trans (hb.mono HB1.out.drew.size))
 clear hb
 go_wp2_with fail
 refine hK.out _ _ (HXC.out _ HB2.out) (fun hHeld => ?_)
 clear hK K
 try simp only [Act.put, pz1, pz2, pz3]
 refine Plan.start [2, 3, 4, 5, 6] ?_
 iterate 5 (refine Plan.tk (so rfl) hHeld ?_; try simp only [Act.put, pz1, pz2, pz3])
 refine Plan.done ?_
 refine Plan.start [7, 8, 9, 10, 11, 12] ?_
 iterate 6 (refine Plan.take (v := undef) (so rfl) (by kernel_rfl) (by kernel_rfl) (by kernel_rfl) (fun _ _ _ h => h) (Or.inr ⟨by rfl, rfl⟩) hHeld ?_; try simp only [Act.put, pz1, pz2, pz3])
 refine Plan.done ?_
 refine Plan.start [13, 14] ?_
 iterate 2 (refine Plan.tk (so rfl) hHeld ?_; try simp only [Act.put, pz1, pz2, pz3])
 refine Plan.done ?_
 refine wpAnyH_done (by kernel_rfl) ?_ _
 clear hHeld
 go_wp2_with fail
 go_ret
 exact ⟨by rw [HVal.out]; rfl, HBZ.out.trans (HB2.out.mono HBZ.out.size)⟩
theorem form_15y (t : ByteArray) (n : Int) (ps : List Ty) (fs : FsT) (vs : VsT) (hp : ∀ p ∈ ps, FormR p) (hf : ∀ f ∈ fs, FormR f.2.2) (hv : ∀ v ∈ vs, ∀ b ∈ v.2, FormR b) (hnf : fs.length = 0) (hnv : vs.length = 0) (hpa : ps.all formT = true) (ht0 : t.toList = []) (hn0 : n = 0) (hnp : 2 ≤ ps.length) : FormR (.mk 15 t n ps fs vs) := by
 refine form_pre 15 t n ps fs vs hp hf hv fun K w A c A' c' A'' c'' w1 h => ?_
 obtain ⟨HXC, KAll, KPl, KNm, KOb, KBi, KOv, HREP, HCN, HBZ, HB, HS1, HX0, HW1, hlp, hlf, hlv⟩ := h
 clear hp hf hv
 have hform : ∀ x ∈ ps, formT x = true := List.all_eq_true.1 hpa
 have hflat := flatU_cnt ps
 have hcn' : cntL ps ≤ 1000000 := by have := HCN.out; omega
 have hrl := RepT.low _ _ HREP.out
 obtain ⟨B, d, B', d', B'', d'', he, -, hLl, -, -⟩ := hrl.inv
 have hAB : A = B ∧ c = d := by simp only [cells6T, List.cons.injEq, Value.slice.injEq] at he; exact ⟨he.2.2.2.1.1, he.2.2.2.1.2.2⟩
 obtain ⟨rfl, rfl⟩ := hAB
 have KUn := Hd fun wx (hx : Below w1.heap.size w1 wx) => union_ref (hLl.later (HBZ.out.trans (hx.mono HBZ.out.size))) (fun b hb => by have := HBZ.out.size; have := hx.size; omega) (fun x hx2 => by have h1 := names_cnt x; have h2 := hflat.2 x hx2; omega) (by have := hflat.1; omega)
 rw [unionR (plain_form hpa)] at KUn
 generalize hun : unionT ps = u at KUn
 obtain ⟨k2, s2, n2, ps2, fs2, vs2⟩ := u
 have HUN : Hid (shutU (sortT (keptR ps)) = .mk k2 s2 n2 ps2 fs2 vs2) := Hd (by rw [unionR (plain_form hpa), hun])
 obtain ⟨z, hz⟩ : ∃ z, ordT (.mk k2 s2 n2 ps2 fs2 vs2) (.mk 15 t n ps fs vs) = z := ⟨_, rfl⟩
 have HZ := Hd hz
 have HVal : Hid (formT (.mk 15 t n ps fs vs) = (z == 0)) := Hd (by
  have ht : t = emptyB := bytes_ext (by rw [ByteArray.toList_eq] at ht0; rw [ht0]; rfl)
  have hfs : fs = [] := List.eq_nil_of_length_eq_zero hnf
  have hvs : vs = [] := List.eq_nil_of_length_eq_zero hnv
  subst ht hn0 hfs hvs
  have h1 : formT (.mk 15 emptyB 0 ps [] []) = isUB ps := by
   rw [formT_mk, show shapeK 15 = ⟨false, false, false, false, 2, -1, true⟩ from rfl, hpa]
   unfold fitsB selfB
   simp [emptyL]
   omega
  rw [h1, Bool.eq_iff_iff, isUB_self hnp, hun, ← hz, beq_iff_eq]
  exact ordT_zero.symm)
 obtain ⟨f1, f2, f3, f4⟩ := no4 (m := fs.length) (n := vs.length) (by omega) (by omega)
 rw [hpa] at KAll
 have ep : (t.toList == [] && n == 0) = true := by rw [ht0, hn0]; rfl
 rw [ep] at KPl
 have p1 : decide ((2 : Int) ≤ (ps.length : Int)) = true := decide_eq_true (by omega)
 have p2 : decide (2 ≤ ps.length) = true := decide_eq_true (by omega)
 clear hform hflat hcn' hrl hLl he hun hz
 try clear hnf
 try clear hnv
 try clear hnp
 try clear hn0
 try clear hpa
 try clear ht0
 go_enter Tryz.func23, Tryz.ntmps23
 go_upto_region 1 with fail
 rw [← HW1.out]
 obtain ⟨x0, x1, x2, x3, x4, x5⟩ := HXC.out _ HB.out
 go_wp2_with fail
 refine (KAll.out _ HB.out).mono ?_
 rintro e w2 ⟨rfl, hb⟩
 have HB1 := Hd (HB.out.trans (hb.mono HB.out.size))
 clear hb
 clear x0 x1 x2 x3 x4 x5
 obtain ⟨x0, x1, x2, x3, x4, x5⟩ := HXC.out _ HB1.out
 go_wp2_with fail
 clear x0 x1 x2 x3 x4 x5
 refine wp_region_held_drew (S := (fun w' => w'.cell? ⟨w.heap.size, 0, none⟩ = some (.int .i64 15) ∧ w'.cell? ⟨w.heap.size, 1, none⟩ = some (.string t) ∧ w'.cell? ⟨w.heap.size, 2, none⟩ = some (.int .i64 n) ∧ w'.cell? ⟨w.heap.size, 3, none⟩ = some (.slice A ps.length c) ∧ w'.cell? ⟨w.heap.size, 4, none⟩ = some (.slice A' fs.length c') ∧ w'.cell? ⟨w.heap.size, 5, none⟩ = some (.slice A'' vs.length c''))) (by kernel_rfl) (HXC.out _ HB1.out.drew) (fun hHeld => ?_)
 refine Plan.start [0] ?_
 refine Plan.tk (so rfl) hHeld ?_
 try simp only [Act.put, pz1, pz2, pz3]
 refine Plan.done ?_
 refine wpAnyH_ready (rs := [1]) (by kernel_rfl) (by simp) ?_
 refine AllReadyH.cons (sd (some 115) rfl) (fun K hK => ?_) AllReadyH.nil
 go_simp
 refine (KPl.out _).mono ?_
 rintro e w4 ⟨rfl, hb⟩
 have HB2 := Hd (HB1.out.drew.trans (hb.mono HB1.out.drew.size))
 clear hb
 go_wp2_with fail
 refine hK.out _ _ (HXC.out _ HB2.out) (fun hHeld => ?_)
 clear hK K
 try simp only [Act.put, pz1, pz2, pz3]
 refine Plan.start [2, 3, 4, 5, 6, 7, 8, 10] ?_
 iterate 8 (refine Plan.tk (so rfl) hHeld ?_; try simp only [Act.put, pz1, pz2, pz3])
 refine Plan.done ?_
 refine wpAnyH_ready (rs := [9]) (by kernel_rfl) (by simp) ?_
 refine AllReadyH.cons (sd (some 123) rfl) (fun K hK => ?_) AllReadyH.nil
 go_simp
 refine (KUn.out _ HB2.out).mono ?_
 rintro e w5 ⟨rs, rfl, hr5, hb⟩
 have HB3 := Hd (HB2.out.trans (hb.mono HB2.out.size))
 have HRS := Hd hr5
 clear hb hr5
 obtain ⟨Aq, cq, Ag, cg, Ah, ch, rfl, -⟩ := HRS.out.inv
 simp only [cells6T] at HRS ⊢
 have KOrd := Hd fun wx (hx : Below w5.heap.size w5 wx) => order_ref (.mk k2 s2 n2 ps2 fs2 vs2) _ _ (.mk 15 t n ps fs vs) wx _ _ (HRS.out.later hx) (HREP.out.later (HBZ.out.trans ((HB3.out.trans (hx.mono HB3.out.size)).mono HBZ.out.size)))
 try simp only [cells6T] at KOrd
 rw [HZ.out] at KOrd
 go_wp2_with fail
 refine hK.out _ _ (HXC.out _ HB3.out) (fun hHeld => ?_)
 clear hK K
 try simp only [Act.put, pz1, pz2, pz3]
 refine wpAnyH_ready (rs := [11]) (by kernel_rfl) (by simp) ?_
 refine AllReadyH.cons (sd (some 125) rfl) (fun K hK => ?_) AllReadyH.nil
 go_simp
 refine (KOrd.out _ (Below.refl _ _)).mono ?_
 rintro e w6 ⟨rfl, hgw⟩
 have HB4 := Hd (HB3.out.trans (hgw.below.mono HB3.out.size))
 clear hgw
 go_wp2_with fail
 refine hK.out _ _ (HXC.out _ HB4.out) (fun hHeld => ?_)
 clear hK K
 try simp only [Act.put, pz1, pz2, pz3]
 refine Plan.start [12, 13, 14] ?_
 iterate 3 (refine Plan.tk (so rfl) hHeld ?_; try simp only [Act.put, pz1, pz2, pz3])
 refine Plan.done ?_
 refine wpAnyH_done (by kernel_rfl) ?_ _
 clear hHeld
 go_wp2_with fail
 go_ret
 exact ⟨by rw [HVal.out]; rfl, HBZ.out.trans (HB4.out.mono HBZ.out.size)⟩
end Go.Proofs.YtgjblmlibhppiaaGreatDoor
