import Derived.Test.YtlooadichhpgeaaGreatDoorMe30
namespace Go.Proofs.YtlooadichhpgeaaGreatDoor
open Go.RowKit
set_option maxRecDepth 100000 in
set_option maxHeartbeats 64000000 in
theorem form_12t (t : ByteArray) (n : Int) (ps : List Ty) (fs : List (ByteArray × Int × Ty)) (vs : List (ByteArray × List Ty)) (hp : ∀ p ∈ ps, FormR p) (hf : ∀ f ∈ fs, FormR f.2.2) (hv : ∀ v ∈ vs, ∀ b ∈ v.2, FormR b) (hnf : fs.length = 0) (hnv : vs.length = 0) (hpa : ps.all formT = true) (a0 : UInt8) (l0 : List UInt8) (ht0 : t.toList = a0 :: l0) : FormR (.mk 12 t n ps fs vs) := by
 refine form_pre 12 t n ps fs vs hp hf hv fun K w A c A' c' A'' c'' w1 h => ?_
 obtain ⟨HXC, KAll, KPl, KNm, KOb, KBi, KOv, HREP, HCN, HBZ, HB, HS1, HX0, HW1, hlp, hlf, hlv⟩ := h
 clear hp hf hv
 have HVal : Hid (formT (.mk 12 t n ps fs vs) = false) := Lib.hid (by
  rw [formT_mk, show shapeK 12 = ⟨false, false, false, false, 0, -1, true⟩ from rfl, hpa]
  unfold fitsB selfB
  simp [hnf, hnv, ht0])
 obtain ⟨f1, f2, f3, f4⟩ := no4 (m := fs.length) (n := vs.length) (by omega) (by omega)
 rw [hpa] at KAll
 have ep : (t.toList == [] && n == 0) = false := by rw [ht0]; rfl
 rw [ep] at KPl
 try clear hnf
 try clear hnv
 try clear hnp
 try clear hn0
 try clear hn1
 try clear hn3
 try clear hpa
 try clear hbi
 try clear hob
 try clear hov
 try clear hnm
 try clear ht0
 go_enter Tryz.func18, Tryz.ntmps18
 go_upto_region 1 with fail
 rw [← HW1.out]
 obtain ⟨x0, x1, x2, x3, x4, x5⟩ := HXC.out _ HB.out
 go_wp2_with fail
 refine (KAll.out _ HB.out).mono ?_
 rintro e w2 ⟨rfl, hb⟩
 have HB1 := Lib.hid (HB.out.trans (hb.mono HB.out.size))
 clear hb
 clear x0 x1 x2 x3 x4 x5
 obtain ⟨x0, x1, x2, x3, x4, x5⟩ := HXC.out _ HB1.out
 go_wp2_with fail
 refine (KPl.out _).mono ?_
 rintro e w3 ⟨rfl, hb⟩
 have HB2 := Lib.hid (HB1.out.trans (hb.mono HB1.out.size))
 clear hb
 clear x0 x1 x2 x3 x4 x5
 obtain ⟨x0, x1, x2, x3, x4, x5⟩ := HXC.out _ HB2.out
 go_wp2_with fail
 go_ret
 exact ⟨by rw [HVal.out]; rfl, HBZ.out.trans (HB2.out.mono HBZ.out.size)⟩
set_option maxRecDepth 100000 in
set_option maxHeartbeats 64000000 in
theorem form_12n (t : ByteArray) (n : Int) (ps : List Ty) (fs : List (ByteArray × Int × Ty)) (vs : List (ByteArray × List Ty)) (hp : ∀ p ∈ ps, FormR p) (hf : ∀ f ∈ fs, FormR f.2.2) (hv : ∀ v ∈ vs, ∀ b ∈ v.2, FormR b) (hnf : fs.length = 0) (hnv : vs.length = 0) (hpa : ps.all formT = true) (ht0 : t.toList = []) (hn0 : n ≠ 0) : FormR (.mk 12 t n ps fs vs) := by
 refine form_pre 12 t n ps fs vs hp hf hv fun K w A c A' c' A'' c'' w1 h => ?_
 obtain ⟨HXC, KAll, KPl, KNm, KOb, KBi, KOv, HREP, HCN, HBZ, HB, HS1, HX0, HW1, hlp, hlf, hlv⟩ := h
 clear hp hf hv
 have HVal : Hid (formT (.mk 12 t n ps fs vs) = false) := Lib.hid (by
  rw [formT_mk, show shapeK 12 = ⟨false, false, false, false, 0, -1, true⟩ from rfl, hpa]
  unfold fitsB selfB
  simp [hnf, hnv, ht0, hn0])
 obtain ⟨f1, f2, f3, f4⟩ := no4 (m := fs.length) (n := vs.length) (by omega) (by omega)
 rw [hpa] at KAll
 have ep : (t.toList == [] && n == 0) = false := by rw [ht0]; simpa using hn0
 rw [ep] at KPl
 try clear hnf
 try clear hnv
 try clear hnp
 try clear hn0
 try clear hn1
 try clear hn3
 try clear hpa
 try clear hbi
 try clear hob
 try clear hov
 try clear hnm
 try clear ht0
 go_enter Tryz.func18, Tryz.ntmps18
 go_upto_region 1 with fail
 rw [← HW1.out]
 obtain ⟨x0, x1, x2, x3, x4, x5⟩ := HXC.out _ HB.out
 go_wp2_with fail
 refine (KAll.out _ HB.out).mono ?_
 rintro e w2 ⟨rfl, hb⟩
 have HB1 := Lib.hid (HB.out.trans (hb.mono HB.out.size))
 clear hb
 clear x0 x1 x2 x3 x4 x5
 obtain ⟨x0, x1, x2, x3, x4, x5⟩ := HXC.out _ HB1.out
 go_wp2_with fail
 refine (KPl.out _).mono ?_
 rintro e w3 ⟨rfl, hb⟩
 have HB2 := Lib.hid (HB1.out.trans (hb.mono HB1.out.size))
 clear hb
 clear x0 x1 x2 x3 x4 x5
 obtain ⟨x0, x1, x2, x3, x4, x5⟩ := HXC.out _ HB2.out
 go_wp2_with fail
 go_ret
 exact ⟨by rw [HVal.out]; rfl, HBZ.out.trans (HB2.out.mono HBZ.out.size)⟩
set_option maxRecDepth 100000 in
set_option maxHeartbeats 64000000 in
theorem form_12y (t : ByteArray) (n : Int) (ps : List Ty) (fs : List (ByteArray × Int × Ty)) (vs : List (ByteArray × List Ty)) (hp : ∀ p ∈ ps, FormR p) (hf : ∀ f ∈ fs, FormR f.2.2) (hv : ∀ v ∈ vs, ∀ b ∈ v.2, FormR b) (hnf : fs.length = 0) (hnv : vs.length = 0) (hpa : ps.all formT = true) (ht0 : t.toList = []) (hn0 : n = 0) : FormR (.mk 12 t n ps fs vs) := by
 refine form_pre 12 t n ps fs vs hp hf hv fun K w A c A' c' A'' c'' w1 h => ?_
 obtain ⟨HXC, KAll, KPl, KNm, KOb, KBi, KOv, HREP, HCN, HBZ, HB, HS1, HX0, HW1, hlp, hlf, hlv⟩ := h
 clear hp hf hv
 have HVal : Hid (formT (.mk 12 t n ps fs vs) = true) := Lib.hid (by
  rw [formT_mk, show shapeK 12 = ⟨false, false, false, false, 0, -1, true⟩ from rfl, hpa]
  unfold fitsB selfB
  simp [hnf, hnv, ht0, hn0])
 obtain ⟨f1, f2, f3, f4⟩ := no4 (m := fs.length) (n := vs.length) (by omega) (by omega)
 rw [hpa] at KAll
 have ep : (t.toList == [] && n == 0) = true := by rw [ht0, hn0]; rfl
 rw [ep] at KPl
 try clear hnf
 try clear hnv
 try clear hnp
 try clear hn0
 try clear hn1
 try clear hn3
 try clear hpa
 try clear hbi
 try clear hob
 try clear hov
 try clear hnm
 try clear ht0
 go_enter Tryz.func18, Tryz.ntmps18
 go_upto_region 1 with fail
 rw [← HW1.out]
 obtain ⟨x0, x1, x2, x3, x4, x5⟩ := HXC.out _ HB.out
 go_wp2_with fail
 refine (KAll.out _ HB.out).mono ?_
 rintro e w2 ⟨rfl, hb⟩
 have HB1 := Lib.hid (HB.out.trans (hb.mono HB.out.size))
 clear hb
 clear x0 x1 x2 x3 x4 x5
 obtain ⟨x0, x1, x2, x3, x4, x5⟩ := HXC.out _ HB1.out
 go_wp2_with fail
 refine (KPl.out _).mono ?_
 rintro e w3 ⟨rfl, hb⟩
 have HB2 := Lib.hid (HB1.out.trans (hb.mono HB1.out.size))
 clear hb
 clear x0 x1 x2 x3 x4 x5
 obtain ⟨x0, x1, x2, x3, x4, x5⟩ := HXC.out _ HB2.out
 go_wp2_with fail
 go_ret
 exact ⟨by rw [HVal.out]; rfl, HBZ.out.trans (HB2.out.mono HBZ.out.size)⟩
set_option maxRecDepth 100000 in
set_option maxHeartbeats 64000000 in
theorem form_13t (t : ByteArray) (n : Int) (ps : List Ty) (fs : List (ByteArray × Int × Ty)) (vs : List (ByteArray × List Ty)) (hp : ∀ p ∈ ps, FormR p) (hf : ∀ f ∈ fs, FormR f.2.2) (hv : ∀ v ∈ vs, ∀ b ∈ v.2, FormR b) (hnf : fs.length = 0) (hpa : ps.all formT = true) (a0 : UInt8) (l0 : List UInt8) (ht0 : t.toList = a0 :: l0) : FormR (.mk 13 t n ps fs vs) := by
 refine form_pre 13 t n ps fs vs hp hf hv fun K w A c A' c' A'' c'' w1 h => ?_
 obtain ⟨HXC, KAll, KPl, KNm, KOb, KBi, KOv, HREP, HCN, HBZ, HB, HS1, HX0, HW1, hlp, hlf, hlv⟩ := h
 clear hp hf hv
 have HVal : Hid (formT (.mk 13 t n ps fs vs) = false) := Lib.hid (by
  rw [formT_mk, show shapeK 13 = ⟨false, false, false, true, 1, -1, true⟩ from rfl, hpa]
  unfold fitsB selfB
  simp [hnf, ht0])
 have f1 : decide ((0 : Int) < (fs.length : Int)) = false := decide_eq_false (by omega)
 have f2 : decide (0 < fs.length) = false := decide_eq_false (by omega)
 rw [hpa] at KAll
 have ep : (t.toList == [] && n == 0) = false := by rw [ht0]; rfl
 rw [ep] at KPl
 try clear hnf
 try clear hnv
 try clear hnp
 try clear hn0
 try clear hn1
 try clear hn3
 try clear hpa
 try clear hbi
 try clear hob
 try clear hov
 try clear hnm
 try clear ht0
 go_enter Tryz.func18, Tryz.ntmps18
 go_upto_region 1 with fail
 rw [← HW1.out]
 obtain ⟨x0, x1, x2, x3, x4, x5⟩ := HXC.out _ HB.out
 go_wp2_with fail
 refine (KAll.out _ HB.out).mono ?_
 rintro e w2 ⟨rfl, hb⟩
 have HB1 := Lib.hid (HB.out.trans (hb.mono HB.out.size))
 clear hb
 clear x0 x1 x2 x3 x4 x5
 obtain ⟨x0, x1, x2, x3, x4, x5⟩ := HXC.out _ HB1.out
 go_wp2_with fail
 refine (KPl.out _).mono ?_
 rintro e w3 ⟨rfl, hb⟩
 have HB2 := Lib.hid (HB1.out.trans (hb.mono HB1.out.size))
 clear hb
 clear x0 x1 x2 x3 x4 x5
 obtain ⟨x0, x1, x2, x3, x4, x5⟩ := HXC.out _ HB2.out
 go_wp2_with fail
 go_ret
 exact ⟨by rw [HVal.out]; rfl, HBZ.out.trans (HB2.out.mono HBZ.out.size)⟩
set_option maxRecDepth 100000 in
set_option maxHeartbeats 64000000 in
theorem form_13n (t : ByteArray) (n : Int) (ps : List Ty) (fs : List (ByteArray × Int × Ty)) (vs : List (ByteArray × List Ty)) (hp : ∀ p ∈ ps, FormR p) (hf : ∀ f ∈ fs, FormR f.2.2) (hv : ∀ v ∈ vs, ∀ b ∈ v.2, FormR b) (hnf : fs.length = 0) (hpa : ps.all formT = true) (ht0 : t.toList = []) (hn0 : n ≠ 0) : FormR (.mk 13 t n ps fs vs) := by
 refine form_pre 13 t n ps fs vs hp hf hv fun K w A c A' c' A'' c'' w1 h => ?_
 obtain ⟨HXC, KAll, KPl, KNm, KOb, KBi, KOv, HREP, HCN, HBZ, HB, HS1, HX0, HW1, hlp, hlf, hlv⟩ := h
 clear hp hf hv
 have HVal : Hid (formT (.mk 13 t n ps fs vs) = false) := Lib.hid (by
  rw [formT_mk, show shapeK 13 = ⟨false, false, false, true, 1, -1, true⟩ from rfl, hpa]
  unfold fitsB selfB
  simp [hnf, ht0, hn0])
 have f1 : decide ((0 : Int) < (fs.length : Int)) = false := decide_eq_false (by omega)
 have f2 : decide (0 < fs.length) = false := decide_eq_false (by omega)
 rw [hpa] at KAll
 have ep : (t.toList == [] && n == 0) = false := by rw [ht0]; simpa using hn0
 rw [ep] at KPl
 try clear hnf
 try clear hnv
 try clear hnp
 try clear hn0
 try clear hn1
 try clear hn3
 try clear hpa
 try clear hbi
 try clear hob
 try clear hov
 try clear hnm
 try clear ht0
 go_enter Tryz.func18, Tryz.ntmps18
 go_upto_region 1 with fail
 rw [← HW1.out]
 obtain ⟨x0, x1, x2, x3, x4, x5⟩ := HXC.out _ HB.out
 go_wp2_with fail
 refine (KAll.out _ HB.out).mono ?_
 rintro e w2 ⟨rfl, hb⟩
 have HB1 := Lib.hid (HB.out.trans (hb.mono HB.out.size))
 clear hb
 clear x0 x1 x2 x3 x4 x5
 obtain ⟨x0, x1, x2, x3, x4, x5⟩ := HXC.out _ HB1.out
 go_wp2_with fail
 refine (KPl.out _).mono ?_
 rintro e w3 ⟨rfl, hb⟩
 have HB2 := Lib.hid (HB1.out.trans (hb.mono HB1.out.size))
 clear hb
 clear x0 x1 x2 x3 x4 x5
 obtain ⟨x0, x1, x2, x3, x4, x5⟩ := HXC.out _ HB2.out
 go_wp2_with fail
 go_ret
 exact ⟨by rw [HVal.out]; rfl, HBZ.out.trans (HB2.out.mono HBZ.out.size)⟩
set_option maxRecDepth 100000 in
set_option maxHeartbeats 64000000 in
theorem form_13p (t : ByteArray) (n : Int) (ps : List Ty) (fs : List (ByteArray × Int × Ty)) (vs : List (ByteArray × List Ty)) (hp : ∀ p ∈ ps, FormR p) (hf : ∀ f ∈ fs, FormR f.2.2) (hv : ∀ v ∈ vs, ∀ b ∈ v.2, FormR b) (hnf : fs.length = 0) (hpa : ps.all formT = true) (ht0 : t.toList = []) (hn0 : n = 0) (hnp : ¬ 1 ≤ ps.length) : FormR (.mk 13 t n ps fs vs) := by
 refine form_pre 13 t n ps fs vs hp hf hv fun K w A c A' c' A'' c'' w1 h => ?_
 obtain ⟨HXC, KAll, KPl, KNm, KOb, KBi, KOv, HREP, HCN, HBZ, HB, HS1, HX0, HW1, hlp, hlf, hlv⟩ := h
 clear hp hf hv
 have HVal : Hid (formT (.mk 13 t n ps fs vs) = false) := Lib.hid (by
  rw [formT_mk, show shapeK 13 = ⟨false, false, false, true, 1, -1, true⟩ from rfl, hpa]
  unfold fitsB selfB
  simp [hnf, ht0, hn0]
  omega)
 have f1 : decide ((0 : Int) < (fs.length : Int)) = false := decide_eq_false (by omega)
 have f2 : decide (0 < fs.length) = false := decide_eq_false (by omega)
 rw [hpa] at KAll
 have ep : (t.toList == [] && n == 0) = true := by rw [ht0, hn0]; rfl
 rw [ep] at KPl
 have p1 : decide ((1 : Int) ≤ (ps.length : Int)) = false := decide_eq_false (by omega)
 have p2 : decide (1 ≤ ps.length) = false := decide_eq_false (by omega)
 try clear hnf
 try clear hnv
 try clear hnp
 try clear hn0
 try clear hn1
 try clear hn3
 try clear hpa
 try clear hbi
 try clear hob
 try clear hov
 try clear hnm
 try clear ht0
 go_enter Tryz.func18, Tryz.ntmps18
 go_upto_region 1 with fail
 rw [← HW1.out]
 obtain ⟨x0, x1, x2, x3, x4, x5⟩ := HXC.out _ HB.out
 go_wp2_with fail
 refine (KAll.out _ HB.out).mono ?_
 rintro e w2 ⟨rfl, hb⟩
 have HB1 := Lib.hid (HB.out.trans (hb.mono HB.out.size))
 clear hb
 clear x0 x1 x2 x3 x4 x5
 obtain ⟨x0, x1, x2, x3, x4, x5⟩ := HXC.out _ HB1.out
 go_wp2_with fail
 refine (KPl.out _).mono ?_
 rintro e w3 ⟨rfl, hb⟩
 have HB2 := Lib.hid (HB1.out.trans (hb.mono HB1.out.size))
 clear hb
 clear x0 x1 x2 x3 x4 x5
 obtain ⟨x0, x1, x2, x3, x4, x5⟩ := HXC.out _ HB2.out
 go_wp2_with fail
 go_ret
 exact ⟨by rw [HVal.out]; rfl, HBZ.out.trans (HB2.out.mono HBZ.out.size)⟩
set_option maxRecDepth 100000 in
set_option maxHeartbeats 64000000 in
theorem form_13bf (t : ByteArray) (n : Int) (ps : List Ty) (fs : List (ByteArray × Int × Ty)) (vs : List (ByteArray × List Ty)) (hp : ∀ p ∈ ps, FormR p) (hf : ∀ f ∈ fs, FormR f.2.2) (hv : ∀ v ∈ vs, ∀ b ∈ v.2, FormR b) (hnf : fs.length = 0) (hpa : ps.all formT = true) (ht0 : t.toList = []) (hn0 : n = 0) (hnp : 1 ≤ ps.length) (hbi : varsB (varsT vs formT) = false) : FormR (.mk 13 t n ps fs vs) := by
 refine form_pre 13 t n ps fs vs hp hf hv fun K w A c A' c' A'' c'' w1 h => ?_
 obtain ⟨HXC, KAll, KPl, KNm, KOb, KBi, KOv, HREP, HCN, HBZ, HB, HS1, HX0, HW1, hlp, hlf, hlv⟩ := h
 clear hp hf hv
 have HVal : Hid (formT (.mk 13 t n ps fs vs) = false) := Lib.hid (by
  rw [formT_mk, show shapeK 13 = ⟨false, false, false, true, 1, -1, true⟩ from rfl, hpa]
  unfold fitsB selfB
  simp [hnf, ht0, hn0, hbi])
 have f1 : decide ((0 : Int) < (fs.length : Int)) = false := decide_eq_false (by omega)
 have f2 : decide (0 < fs.length) = false := decide_eq_false (by omega)
 rw [hpa] at KAll
 have ep : (t.toList == [] && n == 0) = true := by rw [ht0, hn0]; rfl
 rw [ep] at KPl
 have p1 : decide ((1 : Int) ≤ (ps.length : Int)) = true := decide_eq_true (by omega)
 have p2 : decide (1 ≤ ps.length) = true := decide_eq_true (by omega)
 rw [hbi] at KBi
 try clear hnf
 try clear hnv
 try clear hnp
 try clear hn0
 try clear hn1
 try clear hn3
 try clear hpa
 try clear hbi
 try clear hob
 try clear hov
 try clear hnm
 try clear ht0
 go_enter Tryz.func18, Tryz.ntmps18
 go_upto_region 1 with fail
 rw [← HW1.out]
 obtain ⟨x0, x1, x2, x3, x4, x5⟩ := HXC.out _ HB.out
 go_wp2_with fail
 refine (KAll.out _ HB.out).mono ?_
 rintro e w2 ⟨rfl, hb⟩
 have HB1 := Lib.hid (HB.out.trans (hb.mono HB.out.size))
 clear hb
 clear x0 x1 x2 x3 x4 x5
 obtain ⟨x0, x1, x2, x3, x4, x5⟩ := HXC.out _ HB1.out
 go_wp2_with fail
 refine (KPl.out _).mono ?_
 rintro e w3 ⟨rfl, hb⟩
 have HB2 := Lib.hid (HB1.out.trans (hb.mono HB1.out.size))
 clear hb
 clear x0 x1 x2 x3 x4 x5
 obtain ⟨x0, x1, x2, x3, x4, x5⟩ := HXC.out _ HB2.out
 go_wp2_with fail
 refine (KBi.out _ HB2.out).mono ?_
 rintro e w4 ⟨rfl, hb⟩
 have HB3 := Lib.hid (HB2.out.trans (hb.mono HB2.out.size))
 clear hb
 clear x0 x1 x2 x3 x4 x5
 obtain ⟨x0, x1, x2, x3, x4, x5⟩ := HXC.out _ HB3.out
 go_wp2_with fail
 go_ret
 exact ⟨by rw [HVal.out]; rfl, HBZ.out.trans (HB3.out.mono HBZ.out.size)⟩
set_option maxRecDepth 100000 in
set_option maxHeartbeats 64000000 in
theorem form_13bt (t : ByteArray) (n : Int) (ps : List Ty) (fs : List (ByteArray × Int × Ty)) (vs : List (ByteArray × List Ty)) (hp : ∀ p ∈ ps, FormR p) (hf : ∀ f ∈ fs, FormR f.2.2) (hv : ∀ v ∈ vs, ∀ b ∈ v.2, FormR b) (hnf : fs.length = 0) (hpa : ps.all formT = true) (ht0 : t.toList = []) (hn0 : n = 0) (hnp : 1 ≤ ps.length) (hbi : varsB (varsT vs formT) = true) : FormR (.mk 13 t n ps fs vs) := by
 refine form_pre 13 t n ps fs vs hp hf hv fun K w A c A' c' A'' c'' w1 h => ?_
 obtain ⟨HXC, KAll, KPl, KNm, KOb, KBi, KOv, HREP, HCN, HBZ, HB, HS1, HX0, HW1, hlp, hlf, hlv⟩ := h
 clear hp hf hv
 have HVal : Hid (formT (.mk 13 t n ps fs vs) = true) := Lib.hid (by
  rw [formT_mk, show shapeK 13 = ⟨false, false, false, true, 1, -1, true⟩ from rfl, hpa]
  unfold fitsB selfB
  simp [hnf, ht0, hn0, hbi]
  omega)
 have f1 : decide ((0 : Int) < (fs.length : Int)) = false := decide_eq_false (by omega)
 have f2 : decide (0 < fs.length) = false := decide_eq_false (by omega)
 rw [hpa] at KAll
 have ep : (t.toList == [] && n == 0) = true := by rw [ht0, hn0]; rfl
 rw [ep] at KPl
 have p1 : decide ((1 : Int) ≤ (ps.length : Int)) = true := decide_eq_true (by omega)
 have p2 : decide (1 ≤ ps.length) = true := decide_eq_true (by omega)
 rw [hbi] at KBi
 try clear hnf
 try clear hnv
 try clear hnp
 try clear hn0
 try clear hn1
 try clear hn3
 try clear hpa
 try clear hbi
 try clear hob
 try clear hov
 try clear hnm
 try clear ht0
 go_enter Tryz.func18, Tryz.ntmps18
 go_upto_region 1 with fail
 rw [← HW1.out]
 obtain ⟨x0, x1, x2, x3, x4, x5⟩ := HXC.out _ HB.out
 go_wp2_with fail
 refine (KAll.out _ HB.out).mono ?_
 rintro e w2 ⟨rfl, hb⟩
 have HB1 := Lib.hid (HB.out.trans (hb.mono HB.out.size))
 clear hb
 clear x0 x1 x2 x3 x4 x5
 obtain ⟨x0, x1, x2, x3, x4, x5⟩ := HXC.out _ HB1.out
 go_wp2_with fail
 refine (KPl.out _).mono ?_
 rintro e w3 ⟨rfl, hb⟩
 have HB2 := Lib.hid (HB1.out.trans (hb.mono HB1.out.size))
 clear hb
 clear x0 x1 x2 x3 x4 x5
 obtain ⟨x0, x1, x2, x3, x4, x5⟩ := HXC.out _ HB2.out
 go_wp2_with fail
 refine (KBi.out _ HB2.out).mono ?_
 rintro e w4 ⟨rfl, hb⟩
 have HB3 := Lib.hid (HB2.out.trans (hb.mono HB2.out.size))
 clear hb
 clear x0 x1 x2 x3 x4 x5
 obtain ⟨x0, x1, x2, x3, x4, x5⟩ := HXC.out _ HB3.out
 go_wp2_with fail
 go_ret
 exact ⟨by rw [HVal.out]; rfl, HBZ.out.trans (HB3.out.mono HBZ.out.size)⟩
end Go.Proofs.YtlooadichhpgeaaGreatDoor
