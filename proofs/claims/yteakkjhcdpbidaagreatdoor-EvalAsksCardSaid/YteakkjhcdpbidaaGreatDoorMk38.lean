import Derived.Test.YteakkjhcdpbidaaGreatDoorMk34
import Derived.Test.YteakkjhcdpbidaaGreatDoorMk35
import Derived.Test.YteakkjhcdpbidaaGreatDoorMk36
import Derived.Test.YteakkjhcdpbidaaGreatDoorMk37
namespace Go.Proofs.YteakkjhcdpbidaaGreatDoor
set_option maxRecDepth 100000
set_option maxHeartbeats 64000000
open Go.RowKit
theorem form_15t (t : ByteArray) (n : Int) (ps : List Ty) (fs : FsT) (vs : VsT) (hp : ∀ p ∈ ps, FormR p) (hf : ∀ f ∈ fs, FormR f.2.2) (hv : ∀ v ∈ vs, ∀ b ∈ v.2, FormR b) (hnf : fs.length = 0) (hnv : vs.length = 0) (hpa : ps.all formT = true) (a0 : UInt8) (l0 : List UInt8) (ht0 : t.toList = a0 :: l0) : FormR (.mk 15 t n ps fs vs) := by
 refine form_pre 15 t n ps fs vs hp hf hv fun K w A c A' c' A'' c'' w1 h => ?_
 obtain ⟨HXC, KAll, KPl, KNm, KOb, KBi, KOv, HREP, HCN, HBZ, HB, HS1, HX0, HW1, hlp, hlf, hlv⟩ := h
 clear hp hf hv
 have HVal : Hid (formT (.mk 15 t n ps fs vs) = false) := Hd (by
  rw [formT_mk, show shapeK 15 = ⟨false, false, false, false, 2, -1, true⟩ from rfl, hpa]
  unfold fitsB selfB
  simp [hnf, hnv, ht0])
 obtain ⟨f1, f2, f3, f4⟩ := no4 (m := fs.length) (n := vs.length) (by omega) (by omega)
 rw [hpa] at KAll
 have ep : (t.toList == [] && n == 0) = false := by rw [ht0]; rfl
 rw [ep] at KPl
 try clear hnf
 try clear hnv
 try clear hnp
 try clear hn0
 try clear hpa
 try clear ht0
 go_enter Tryz.func28, Tryz.ntmps28
 go_upto_region 1 with fail
 rw [← HW1.out]
 obtain ⟨x0, x1, x2, x3, x4, x5⟩ := HXC.out _ HB.out
 go_wp2_with fail
 refine (KAll.out _ HB.out).mono ?_
 rintro e w2 ⟨rfl, hb⟩
 have HB1 := Hd (HB.out.trans (hb.mono HB.out.size))
 clear hb
 clear x0 x1 x2 x3 x4 x5
 obtain ⟨x0, x1, x2, x3, x4, x5⟩ := HXC.out _ HB1.out
 go_wp2_with fail
 clear x0 x1 x2 x3 x4 x5
 refine wp_region_held_drew (S := (fun w' => w'.cell? ⟨w.heap.size, 0, none⟩ = some (.int .i64 15) ∧ w'.cell? ⟨w.heap.size, 1, none⟩ = some (.string t) ∧ w'.cell? ⟨w.heap.size, 2, none⟩ = some (.int .i64 n) ∧ w'.cell? ⟨w.heap.size, 3, none⟩ = some (.slice A ps.length c) ∧ w'.cell? ⟨w.heap.size, 4, none⟩ = some (.slice A' fs.length c') ∧ w'.cell? ⟨w.heap.size, 5, none⟩ = some (.slice A'' vs.length c''))) (by kernel_rfl) (HXC.out _ HB1.out.drew) (fun hHeld => ?_)
 refine Plan.start [0] ?_
 refine Plan.tk (so rfl) hHeld ?_
 try simp only [Act.put, pz1, pz2, pz3]
 refine Plan.done ?_
 refine wpAnyH_ready (rs := [1]) (by kernel_rfl) (by simp) ?_
 refine AllReadyH.cons (sd (some 115) rfl) (fun K hK => ?_) AllReadyH.nil
 go_simp
 refine (KPl.out _).mono ?_
 rintro e w4 ⟨rfl, hb⟩
 have HB2 := Hd (HB1.out.drew.trans (hb.mono HB1.out.drew.size))
 clear hb
 go_wp2_with fail
 refine hK.out _ _ (HXC.out _ HB2.out) (fun hHeld => ?_)
 clear hK K
 try simp only [Act.put, pz1, pz2, pz3]
 refine Plan.start [2] ?_
 refine Plan.tk (so rfl) hHeld ?_
 try simp only [Act.put, pz1, pz2, pz3]
 refine Plan.done ?_
 refine Plan.start [3, 4] ?_
 iterate 2 (refine Plan.take (v := undef) (so rfl) (by kernel_rfl) (by kernel_rfl) (by kernel_rfl) (fun _ _ _ h => h) (Or.inr ⟨by rfl, rfl⟩) hHeld ?_; try simp only [Act.put, pz1, pz2, pz3])
 refine Plan.done ?_
 refine Plan.start [5, 6] ?_
 iterate 2 (refine Plan.tk (so rfl) hHeld ?_; try simp only [Act.put, pz1, pz2, pz3])
 refine Plan.done ?_
 refine Plan.start [7, 8, 9, 10, 11, 12] ?_
 iterate 6 (refine Plan.take (v := undef) (so rfl) (by kernel_rfl) (by kernel_rfl) (by kernel_rfl) (fun _ _ _ h => h) (Or.inr ⟨by rfl, rfl⟩) hHeld ?_; try simp only [Act.put, pz1, pz2, pz3])
 refine Plan.done ?_
 refine Plan.start [13, 14] ?_
 iterate 2 (refine Plan.tk (so rfl) hHeld ?_; try simp only [Act.put, pz1, pz2, pz3])
 refine Plan.done ?_
 refine wpAnyH_done (by kernel_rfl) ?_ _
 clear hHeld
 go_wp2_with fail
 go_ret
 exact ⟨by rw [HVal.out]; rfl, HBZ.out.trans (HB2.out.mono HBZ.out.size)⟩
theorem form_15n (t : ByteArray) (n : Int) (ps : List Ty) (fs : FsT) (vs : VsT) (hp : ∀ p ∈ ps, FormR p) (hf : ∀ f ∈ fs, FormR f.2.2) (hv : ∀ v ∈ vs, ∀ b ∈ v.2, FormR b) (hnf : fs.length = 0) (hnv : vs.length = 0) (hpa : ps.all formT = true) (ht0 : t.toList = []) (hn0 : n ≠ 0) : FormR (.mk 15 t n ps fs vs) := by
 refine form_pre 15 t n ps fs vs hp hf hv fun K w A c A' c' A'' c'' w1 h => ?_
 obtain ⟨HXC, KAll, KPl, KNm, KOb, KBi, KOv, HREP, HCN, HBZ, HB, HS1, HX0, HW1, hlp, hlf, hlv⟩ := h
 clear hp hf hv
 have HVal : Hid (formT (.mk 15 t n ps fs vs) = false) := Hd (by
  rw [formT_mk, show shapeK 15 = ⟨false, false, false, false, 2, -1, true⟩ from rfl, hpa]
  unfold fitsB selfB
  simp [hnf, hnv, ht0, hn0])
 obtain ⟨f1, f2, f3, f4⟩ := no4 (m := fs.length) (n := vs.length) (by omega) (by omega)
 rw [hpa] at KAll
 have ep : (t.toList == [] && n == 0) = false := by rw [ht0]; simpa using hn0
 rw [ep] at KPl
 try clear hnf
 try clear hnv
 try clear hnp
 try clear hn0
 try clear hpa
 try clear ht0
 go_enter Tryz.func28, Tryz.ntmps28
 go_upto_region 1 with fail
 rw [← HW1.out]
 obtain ⟨x0, x1, x2, x3, x4, x5⟩ := HXC.out _ HB.out
 go_wp2_with fail
 refine (KAll.out _ HB.out).mono ?_
 rintro e w2 ⟨rfl, hb⟩
 have HB1 := Hd (HB.out.trans (hb.mono HB.out.size))
 clear hb
 clear x0 x1 x2 x3 x4 x5
 obtain ⟨x0, x1, x2, x3, x4, x5⟩ := HXC.out _ HB1.out
 go_wp2_with fail
 clear x0 x1 x2 x3 x4 x5
 refine wp_region_held_drew (S := (fun w' => w'.cell? ⟨w.heap.size, 0, none⟩ = some (.int .i64 15) ∧ w'.cell? ⟨w.heap.size, 1, none⟩ = some (.string t) ∧ w'.cell? ⟨w.heap.size, 2, none⟩ = some (.int .i64 n) ∧ w'.cell? ⟨w.heap.size, 3, none⟩ = some (.slice A ps.length c) ∧ w'.cell? ⟨w.heap.size, 4, none⟩ = some (.slice A' fs.length c') ∧ w'.cell? ⟨w.heap.size, 5, none⟩ = some (.slice A'' vs.length c''))) (by kernel_rfl) (HXC.out _ HB1.out.drew) (fun hHeld => ?_)
 refine Plan.start [0] ?_
 refine Plan.tk (so rfl) hHeld ?_
 try simp only [Act.put, pz1, pz2, pz3]
 refine Plan.done ?_
 refine wpAnyH_ready (rs := [1]) (by kernel_rfl) (by simp) ?_
 refine AllReadyH.cons (sd (some 115) rfl) (fun K hK => ?_) AllReadyH.nil
 go_simp
 refine (KPl.out _).mono ?_
 rintro e w4 ⟨rfl, hb⟩
 have HB2 := Hd (HB1.out.drew.trans (hb.mono HB1.out.drew.size))
 clear hb
 go_wp2_with fail
 refine hK.out _ _ (HXC.out _ HB2.out) (fun hHeld => ?_)
 clear hK K
 try simp only [Act.put, pz1, pz2, pz3]
 refine Plan.start [2] ?_
 refine Plan.tk (so rfl) hHeld ?_
 try simp only [Act.put, pz1, pz2, pz3]
 refine Plan.done ?_
 refine Plan.start [3, 4] ?_
 iterate 2 (refine Plan.take (v := undef) (so rfl) (by kernel_rfl) (by kernel_rfl) (by kernel_rfl) (fun _ _ _ h => h) (Or.inr ⟨by rfl, rfl⟩) hHeld ?_; try simp only [Act.put, pz1, pz2, pz3])
 refine Plan.done ?_
 refine Plan.start [5, 6] ?_
 iterate 2 (refine Plan.tk (so rfl) hHeld ?_; try simp only [Act.put, pz1, pz2, pz3])
 refine Plan.done ?_
 refine Plan.start [7, 8, 9, 10, 11, 12] ?_
 iterate 6 (refine Plan.take (v := undef) (so rfl) (by kernel_rfl) (by kernel_rfl) (by kernel_rfl) (fun _ _ _ h => h) (Or.inr ⟨by rfl, rfl⟩) hHeld ?_; try simp only [Act.put, pz1, pz2, pz3])
 refine Plan.done ?_
 refine Plan.start [13, 14] ?_
 iterate 2 (refine Plan.tk (so rfl) hHeld ?_; try simp only [Act.put, pz1, pz2, pz3])
 refine Plan.done ?_
 refine wpAnyH_done (by kernel_rfl) ?_ _
 clear hHeld
 go_wp2_with fail
 go_ret
 exact ⟨by rw [HVal.out]; rfl, HBZ.out.trans (HB2.out.mono HBZ.out.size)⟩
theorem form_15p (t : ByteArray) (n : Int) (ps : List Ty) (fs : FsT) (vs : VsT) (hp : ∀ p ∈ ps, FormR p) (hf : ∀ f ∈ fs, FormR f.2.2) (hv : ∀ v ∈ vs, ∀ b ∈ v.2, FormR b) (hnf : fs.length = 0) (hnv : vs.length = 0) (hpa : ps.all formT = true) (ht0 : t.toList = []) (hn0 : n = 0) (hnp : ¬ 2 ≤ ps.length) : FormR (.mk 15 t n ps fs vs) := by
 refine form_pre 15 t n ps fs vs hp hf hv fun K w A c A' c' A'' c'' w1 h => ?_
 obtain ⟨HXC, KAll, KPl, KNm, KOb, KBi, KOv, HREP, HCN, HBZ, HB, HS1, HX0, HW1, hlp, hlf, hlv⟩ := h
 clear hp hf hv
 have HVal : Hid (formT (.mk 15 t n ps fs vs) = false) := Hd (by
  rw [formT_mk, show shapeK 15 = ⟨false, false, false, false, 2, -1, true⟩ from rfl, hpa]
  unfold fitsB selfB
  simp [hnf, hnv, ht0, hn0]
  omega)
 obtain ⟨f1, f2, f3, f4⟩ := no4 (m := fs.length) (n := vs.length) (by omega) (by omega)
 rw [hpa] at KAll
 have ep : (t.toList == [] && n == 0) = true := by rw [ht0, hn0]; rfl
 rw [ep] at KPl
 have p1 : decide ((2 : Int) ≤ (ps.length : Int)) = false := decide_eq_false (by omega)
 have p2 : decide (2 ≤ ps.length) = false := decide_eq_false (by omega)
 try clear hnf
 try clear hnv
 try clear hnp
 try clear hn0
 try clear hpa
 try clear ht0
 go_enter Tryz.func28, Tryz.ntmps28
 go_upto_region 1 with fail
 rw [← HW1.out]
 obtain ⟨x0, x1, x2, x3, x4, x5⟩ := HXC.out _ HB.out
 go_wp2_with fail
 refine (KAll.out _ HB.out).mono ?_
 rintro e w2 ⟨rfl, hb⟩
 have HB1 := Hd (HB.out.trans (hb.mono HB.out.size))
 clear hb
 clear x0 x1 x2 x3 x4 x5
 obtain ⟨x0, x1, x2, x3, x4, x5⟩ := HXC.out _ HB1.out
 go_wp2_with fail
 clear x0 x1 x2 x3 x4 x5
 refine wp_region_held_drew (S := (fun w' => w'.cell? ⟨w.heap.size, 0, none⟩ = some (.int .i64 15) ∧ w'.cell? ⟨w.heap.size, 1, none⟩ = some (.string t) ∧ w'.cell? ⟨w.heap.size, 2, none⟩ = some (.int .i64 n) ∧ w'.cell? ⟨w.heap.size, 3, none⟩ = some (.slice A ps.length c) ∧ w'.cell? ⟨w.heap.size, 4, none⟩ = some (.slice A' fs.length c') ∧ w'.cell? ⟨w.heap.size, 5, none⟩ = some (.slice A'' vs.length c''))) (by kernel_rfl) (HXC.out _ HB1.out.drew) (fun hHeld => ?_)
 refine Plan.start [0] ?_
 refine Plan.tk (so rfl) hHeld ?_
 try simp only [Act.put, pz1, pz2, pz3]
 refine Plan.done ?_
 refine wpAnyH_ready (rs := [1]) (by kernel_rfl) (by simp) ?_
 refine AllReadyH.cons (sd (some 115) rfl) (fun K hK => ?_) AllReadyH.nil
 go_simp
 refine (KPl.out _).mono ?_
 rintro e w4 ⟨rfl, hb⟩
 have HB2 := Hd (HB1.out.drew.trans (hb.mono HB1.out.drew.size))
 clear hb
 go_wp2_with fail
 refine hK.out _ _ (HXC.out _ HB2.out) (fun hHeld => ?_)
 clear hK K
 try simp only [Act.put, pz1, pz2, pz3]
 refine Plan.start [2, 3, 4, 5, 6] ?_
 iterate 5 (refine Plan.tk (so rfl) hHeld ?_; try simp only [Act.put, pz1, pz2, pz3])
 refine Plan.done ?_
 refine Plan.start [7, 8, 9, 10, 11, 12] ?_
 iterate 6 (refine Plan.take (v := undef) (so rfl) (by kernel_rfl) (by kernel_rfl) (by kernel_rfl) (fun _ _ _ h => h) (Or.inr ⟨by rfl, rfl⟩) hHeld ?_; try simp only [Act.put, pz1, pz2, pz3])
 refine Plan.done ?_
 refine Plan.start [13, 14] ?_
 iterate 2 (refine Plan.tk (so rfl) hHeld ?_; try simp only [Act.put, pz1, pz2, pz3])
 refine Plan.done ?_
 refine wpAnyH_done (by kernel_rfl) ?_ _
 clear hHeld
 go_wp2_with fail
 go_ret
 exact ⟨by rw [HVal.out]; rfl, HBZ.out.trans (HB2.out.mono HBZ.out.size)⟩
theorem form_15y (t : ByteArray) (n : Int) (ps : List Ty) (fs : FsT) (vs : VsT) (hp : ∀ p ∈ ps, FormR p) (hf : ∀ f ∈ fs, FormR f.2.2) (hv : ∀ v ∈ vs, ∀ b ∈ v.2, FormR b) (hnf : fs.length = 0) (hnv : vs.length = 0) (hpa : ps.all formT = true) (ht0 : t.toList = []) (hn0 : n = 0) (hnp : 2 ≤ ps.length) : FormR (.mk 15 t n ps fs vs) := by
 refine form_pre 15 t n ps fs vs hp hf hv fun K w A c A' c' A'' c'' w1 h => ?_
 obtain ⟨HXC, KAll, KPl, KNm, KOb, KBi, KOv, HREP, HCN, HBZ, HB, HS1, HX0, HW1, hlp, hlf, hlv⟩ := h
 clear hp hf hv
 have hform : ∀ x ∈ ps, formT x = true := List.all_eq_true.1 hpa
 have hflat := flatU_cnt ps
 have hcn' : cntL ps ≤ 1000000 := by have := HCN.out; omega
 have hrl := RepT.low _ _ HREP.out
 obtain ⟨B, d, B', d', B'', d'', he, -, hLl, -, -⟩ := hrl.inv
 have hAB : A = B ∧ c = d := by simp only [cells6T, List.cons.injEq, Value.slice.injEq] at he; exact ⟨he.2.2.2.1.1, he.2.2.2.1.2.2⟩
 obtain ⟨rfl, rfl⟩ := hAB
 have KUn := Hd fun wx (hx : Below w1.heap.size w1 wx) => union_ref (hLl.later (HBZ.out.trans (hx.mono HBZ.out.size))) (fun b hb => by have := HBZ.out.size; have := hx.size; omega) (fun x hx2 => by have h1 := names_cnt x; have h2 := hflat.2 x hx2; omega) (by have := hflat.1; omega)
 rw [unionR (plain_form hpa)] at KUn
 generalize hun : unionT ps = u at KUn
 obtain ⟨k2, s2, n2, ps2, fs2, vs2⟩ := u
 have HUN : Hid (shutU (sortT (keptR ps)) = .mk k2 s2 n2 ps2 fs2 vs2) := Hd (by rw [unionR (plain_form hpa), hun])
 obtain ⟨z, hz⟩ : ∃ z, ordT (.mk k2 s2 n2 ps2 fs2 vs2) (.mk 15 t n ps fs vs) = z := ⟨_, rfl⟩
 have HZ := Hd hz
 have HVal : Hid (formT (.mk 15 t n ps fs vs) = (z == 0)) := Hd (by
  have ht : t = emptyB := bytes_ext (by rw [ByteArray.toList_eq] at ht0; rw [ht0]; rfl)
  have hfs : fs = [] := List.eq_nil_of_length_eq_zero hnf
  have hvs : vs = [] := List.eq_nil_of_length_eq_zero hnv
  subst ht hn0 hfs hvs
  have h1 : formT (.mk 15 emptyB 0 ps [] []) = isUB ps := by
   rw [formT_mk, show shapeK 15 = ⟨false, false, false, false, 2, -1, true⟩ from rfl, hpa]
   unfold fitsB selfB
   simp [emptyL]
   omega
  rw [h1, Bool.eq_iff_iff, isUB_self hnp, hun, ← hz, beq_iff_eq]
  exact ordT_zero.symm)
 obtain ⟨f1, f2, f3, f4⟩ := no4 (m := fs.length) (n := vs.length) (by omega) (by omega)
 rw [hpa] at KAll
 have ep : (t.toList == [] && n == 0) = true := by rw [ht0, hn0]; rfl
 rw [ep] at KPl
 have p1 : decide ((2 : Int) ≤ (ps.length : Int)) = true := decide_eq_true (by omega)
 have p2 : decide (2 ≤ ps.length) = true := decide_eq_true (by omega)
 clear hform hflat hcn' hrl hLl he hun hz
 try clear hnf
 try clear hnv
 try clear hnp
 try clear hn0
 try clear hpa
 try clear ht0
 go_enter Tryz.func28, Tryz.ntmps28
 go_upto_region 1 with fail
 rw [← HW1.out]
 obtain ⟨x0, x1, x2, x3, x4, x5⟩ := HXC.out _ HB.out
 go_wp2_with fail
 refine (KAll.out _ HB.out).mono ?_
 rintro e w2 ⟨rfl, hb⟩
 have HB1 := Hd (HB.out.trans (hb.mono HB.out.size))
 clear hb
 clear x0 x1 x2 x3 x4 x5
 obtain ⟨x0, x1, x2, x3, x4, x5⟩ := HXC.out _ HB1.out
 go_wp2_with fail
 clear x0 x1 x2 x3 x4 x5
 refine wp_region_held_drew (S := (fun w' => w'.cell? ⟨w.heap.size, 0, none⟩ = some (.int .i64 15) ∧ w'.cell? ⟨w.heap.size, 1, none⟩ = some (.string t) ∧ w'.cell? ⟨w.heap.size, 2, none⟩ = some (.int .i64 n) ∧ w'.cell? ⟨w.heap.size, 3, none⟩ = some (.slice A ps.length c) ∧ w'.cell? ⟨w.heap.size, 4, none⟩ = some (.slice A' fs.length c') ∧ w'.cell? ⟨w.heap.size, 5, none⟩ = some (.slice A'' vs.length c''))) (by kernel_rfl) (HXC.out _ HB1.out.drew) (fun hHeld => ?_)
 refine Plan.start [0] ?_
 refine Plan.tk (so rfl) hHeld ?_
 try simp only [Act.put, pz1, pz2, pz3]
 refine Plan.done ?_
 refine wpAnyH_ready (rs := [1]) (by kernel_rfl) (by simp) ?_
 refine AllReadyH.cons (sd (some 115) rfl) (fun K hK => ?_) AllReadyH.nil
 go_simp
 refine (KPl.out _).mono ?_
 rintro e w4 ⟨rfl, hb⟩
 have HB2 := Hd (HB1.out.drew.trans (hb.mono HB1.out.drew.size))
 clear hb
 go_wp2_with fail
 refine hK.out _ _ (HXC.out _ HB2.out) (fun hHeld => ?_)
 clear hK K
 try simp only [Act.put, pz1, pz2, pz3]
 refine Plan.start [2, 3, 4, 5, 6, 7, 8, 10] ?_
 iterate 8 (refine Plan.tk (so rfl) hHeld ?_; try simp only [Act.put, pz1, pz2, pz3])
 refine Plan.done ?_
 refine wpAnyH_ready (rs := [9]) (by kernel_rfl) (by simp) ?_
 refine AllReadyH.cons (sd (some 123) rfl) (fun K hK => ?_) AllReadyH.nil
 go_simp
 refine (KUn.out _ HB2.out).mono ?_
 rintro e w5 ⟨rs, rfl, hr5, hb⟩
 have HB3 := Hd (HB2.out.trans (hb.mono HB2.out.size))
 have HRS := Hd hr5
 clear hb hr5
 obtain ⟨Aq, cq, Ag, cg, Ah, ch, rfl, -⟩ := HRS.out.inv
 simp only [cells6T] at HRS ⊢
 have KOrd := Hd fun wx (hx : Below w5.heap.size w5 wx) => order_ref (.mk k2 s2 n2 ps2 fs2 vs2) _ _ (.mk 15 t n ps fs vs) wx _ _ (HRS.out.later hx) (HREP.out.later (HBZ.out.trans ((HB3.out.trans (hx.mono HB3.out.size)).mono HBZ.out.size)))
 try simp only [cells6T] at KOrd
 rw [HZ.out] at KOrd
 go_wp2_with fail
 refine hK.out _ _ (HXC.out _ HB3.out) (fun hHeld => ?_)
 clear hK K
 try simp only [Act.put, pz1, pz2, pz3]
 refine wpAnyH_ready (rs := [11]) (by kernel_rfl) (by simp) ?_
 refine AllReadyH.cons (sd (some 125) rfl) (fun K hK => ?_) AllReadyH.nil
 go_simp
 refine (KOrd.out _ (Below.refl _ _)).mono ?_
 rintro e w6 ⟨rfl, hgw⟩
 have HB4 := Hd (HB3.out.trans (hgw.below.mono HB3.out.size))
 clear hgw
 go_wp2_with fail
 refine hK.out _ _ (HXC.out _ HB4.out) (fun hHeld => ?_)
 clear hK K
 try simp only [Act.put, pz1, pz2, pz3]
 refine Plan.start [12, 13, 14] ?_
 iterate 3 (refine Plan.tk (so rfl) hHeld ?_; try simp only [Act.put, pz1, pz2, pz3])
 refine Plan.done ?_
 refine wpAnyH_done (by kernel_rfl) ?_ _
 clear hHeld
 go_wp2_with fail
 go_ret
 exact ⟨by rw [HVal.out]; rfl, HBZ.out.trans (HB4.out.mono HBZ.out.size)⟩
theorem form_step15 (t : ByteArray) (n : Int) (ps : List Ty) (fs : FsT) (vs : VsT) (hp : ∀ p ∈ ps, FormR p) (hf : ∀ f ∈ fs, FormR f.2.2) (hv : ∀ v ∈ vs, ∀ b ∈ v.2, FormR b) (hnf : fs.length = 0) (hnv : vs.length = 0) (hpa : ps.all formT = true) : FormR (.mk 15 t n ps fs vs) := by
 by_cases ht0 : t.toList = []
 ·by_cases hn0 : n = 0
  ·by_cases hnp : 2 ≤ ps.length
   ·exact form_15y t n ps fs vs hp hf hv hnf hnv hpa ht0 hn0 hnp
   ·exact form_15p t n ps fs vs hp hf hv hnf hnv hpa ht0 hn0 hnp
  ·exact form_15n t n ps fs vs hp hf hv hnf hnv hpa ht0 hn0
 ·obtain ⟨a0, l0, h⟩ := List.exists_cons_of_ne_nil ht0
  exact form_15t t n ps fs vs hp hf hv hnf hnv hpa a0 l0 h
theorem form_stepL (k : Int) (hk : k = 1 ∨ k = 2 ∨ k = 3 ∨ k = 4 ∨ k = 5 ∨ k = 6 ∨ k = 7 ∨ k = 8) (t : ByteArray) (n : Int) (ps : List Ty) (fs : FsT) (vs : VsT) (hp : ∀ p ∈ ps, FormR p) (hf : ∀ f ∈ fs, FormR f.2.2) (hv : ∀ v ∈ vs, ∀ b ∈ v.2, FormR b) (hnf : fs.length = 0) (hnv : vs.length = 0) (hpa : ps.all formT = true) : FormR (.mk k t n ps fs vs) := by
 by_cases ht0 : t.toList = []
 ·by_cases hn0 : n = 0
  ·by_cases hnp : ps.length = 0
   ·exact form_Ly k hk t n ps fs vs hp hf hv hnf hnv hpa ht0 hn0 hnp
   ·exact form_Lp k hk t n ps fs vs hp hf hv hnf hnv hpa ht0 hn0 hnp
  ·exact form_Ln k hk t n ps fs vs hp hf hv hnf hnv hpa ht0 hn0
 ·obtain ⟨a0, l0, h⟩ := List.exists_cons_of_ne_nil ht0
  exact form_Lt k hk t n ps fs vs hp hf hv hnf hnv hpa a0 l0 h
theorem form_step9 (t : ByteArray) (n : Int) (ps : List Ty) (fs : FsT) (vs : VsT) (hp : ∀ p ∈ ps, FormR p) (hf : ∀ f ∈ fs, FormR f.2.2) (hv : ∀ v ∈ vs, ∀ b ∈ v.2, FormR b) (hnf : fs.length = 0) (hnv : vs.length = 0) (hpa : ps.all formT = true) : FormR (.mk 9 t n ps fs vs) := by
 by_cases ht0 : t.toList = []
 ·by_cases hn0 : 0 ≤ n
  ·by_cases hnp : ps.length = 0
   ·exact form_9y t n ps fs vs hp hf hv hnf hnv hpa ht0 hn0 hnp
   ·exact form_9p t n ps fs vs hp hf hv hnf hnv hpa ht0 hn0 hnp
  ·exact form_9n t n ps fs vs hp hf hv hnf hnv hpa ht0 hn0
 ·obtain ⟨a0, l0, h⟩ := List.exists_cons_of_ne_nil ht0
  exact form_9t t n ps fs vs hp hf hv hnf hnv hpa a0 l0 h
theorem form_step10 (t : ByteArray) (n : Int) (ps : List Ty) (fs : FsT) (vs : VsT) (hp : ∀ p ∈ ps, FormR p) (hf : ∀ f ∈ fs, FormR f.2.2) (hv : ∀ v ∈ vs, ∀ b ∈ v.2, FormR b) (hnf : fs.length = 0) (hnv : vs.length = 0) (hpa : ps.all formT = true) : FormR (.mk 10 t n ps fs vs) := by
 by_cases hn0 : n = 0
 ·by_cases hnp : ps.length = 0
  ·exact form_10y t n ps fs vs hp hf hv hnf hnv hpa hn0 hnp
  ·exact form_10p t n ps fs vs hp hf hv hnf hnv hpa hn0 hnp
 ·exact form_10n t n ps fs vs hp hf hv hnf hnv hpa hn0
theorem form_step11 (t : ByteArray) (n : Int) (ps : List Ty) (fs : FsT) (vs : VsT) (hp : ∀ p ∈ ps, FormR p) (hf : ∀ f ∈ fs, FormR f.2.2) (hv : ∀ v ∈ vs, ∀ b ∈ v.2, FormR b) (hnf : fs.length = 0) (hnv : vs.length = 0) (hpa : ps.all formT = true) : FormR (.mk 11 t n ps fs vs) := by
 by_cases ht0 : t.toList = []
 ·by_cases hn0 : n = 0
  ·by_cases hnp : ps.length = 1
   ·exact form_Ry 11 (by omega) t n ps fs vs hp hf hv hnf hnv hpa ht0 hn0 hnp
   ·exact form_Rp 11 (by omega) t n ps fs vs hp hf hv hnf hnv hpa ht0 hn0 hnp
  ·exact form_Rn 11 (by omega) t n ps fs vs hp hf hv hnf hnv hpa ht0 hn0
 ·obtain ⟨a0, l0, h⟩ := List.exists_cons_of_ne_nil ht0
  exact form_Rt 11 (by omega) t n ps fs vs hp hf hv hnf hnv hpa a0 l0 h
theorem form_step12 (t : ByteArray) (n : Int) (ps : List Ty) (fs : FsT) (vs : VsT) (hp : ∀ p ∈ ps, FormR p) (hf : ∀ f ∈ fs, FormR f.2.2) (hv : ∀ v ∈ vs, ∀ b ∈ v.2, FormR b) (hnf : fs.length = 0) (hnv : vs.length = 0) (hpa : ps.all formT = true) : FormR (.mk 12 t n ps fs vs) := by
 by_cases ht0 : t.toList = []
 ·by_cases hn0 : n = 0
  ·exact form_12y t n ps fs vs hp hf hv hnf hnv hpa ht0 hn0
  ·exact form_12n t n ps fs vs hp hf hv hnf hnv hpa ht0 hn0
 ·obtain ⟨a0, l0, h⟩ := List.exists_cons_of_ne_nil ht0
  exact form_12t t n ps fs vs hp hf hv hnf hnv hpa a0 l0 h
theorem form_step13 (t : ByteArray) (n : Int) (ps : List Ty) (fs : FsT) (vs : VsT) (hp : ∀ p ∈ ps, FormR p) (hf : ∀ f ∈ fs, FormR f.2.2) (hv : ∀ v ∈ vs, ∀ b ∈ v.2, FormR b) (hnf : fs.length = 0) (hpa : ps.all formT = true) : FormR (.mk 13 t n ps fs vs) := by
 by_cases ht0 : t.toList = []
 ·by_cases hn0 : n = 0
  ·by_cases hnp : 1 ≤ ps.length
   ·cases hq : varsB (varsT vs formT) with
    | false => exact form_13bf t n ps fs vs hp hf hv hnf hpa ht0 hn0 hnp hq
    | true => exact form_13bt t n ps fs vs hp hf hv hnf hpa ht0 hn0 hnp hq
   ·exact form_13p t n ps fs vs hp hf hv hnf hpa ht0 hn0 hnp
  ·exact form_13n t n ps fs vs hp hf hv hnf hpa ht0 hn0
 ·obtain ⟨a0, l0, h⟩ := List.exists_cons_of_ne_nil ht0
  exact form_13t t n ps fs vs hp hf hv hnf hpa a0 l0 h
theorem form_step14 (t : ByteArray) (n : Int) (ps : List Ty) (fs : FsT) (vs : VsT) (hp : ∀ p ∈ ps, FormR p) (hf : ∀ f ∈ fs, FormR f.2.2) (hv : ∀ v ∈ vs, ∀ b ∈ v.2, FormR b) (hnv : vs.length = 0) (hpa : ps.all formT = true) : FormR (.mk 14 t n ps fs vs) := by
 by_cases ht0 : t.toList = []
 ·by_cases hn0 : n = 0
  ·by_cases hnp : ps.length = 0
   ·cases hq : fieldsB (fieldsT fs formT) with
    | false => exact form_14bf t n ps fs vs hp hf hv hnv hpa ht0 hn0 hnp hq
    | true => exact form_14bt t n ps fs vs hp hf hv hnv hpa ht0 hn0 hnp hq
   ·exact form_14p t n ps fs vs hp hf hv hnv hpa ht0 hn0 hnp
  ·exact form_14n t n ps fs vs hp hf hv hnv hpa ht0 hn0
 ·obtain ⟨a0, l0, h⟩ := List.exists_cons_of_ne_nil ht0
  exact form_14t t n ps fs vs hp hf hv hnv hpa a0 l0 h
theorem form_step16 (t : ByteArray) (n : Int) (ps : List Ty) (fs : FsT) (vs : VsT) (hp : ∀ p ∈ ps, FormR p) (hf : ∀ f ∈ fs, FormR f.2.2) (hv : ∀ v ∈ vs, ∀ b ∈ v.2, FormR b) (hnf : fs.length = 0) (hnv : vs.length = 0) (hpa : ps.all formT = true) : FormR (.mk 16 t n ps fs vs) := by
 cases hnm : nameT t with
 | false => exact form_Mm 16 (by omega) t n ps fs vs hp hf hv hnf hnv hpa hnm
 | true =>
  by_cases hn0 : n = 0
  ·by_cases hnp : ps.length = 0
   ·exact form_My 16 (by omega) t n ps fs vs hp hf hv hnf hnv hpa hnm hn0 hnp
   ·exact form_Mp 16 (by omega) t n ps fs vs hp hf hv hnf hnv hpa hnm hn0 hnp
  ·exact form_Mn 16 (by omega) t n ps fs vs hp hf hv hnf hnv hpa hnm hn0
theorem form_step17 (t : ByteArray) (n : Int) (ps : List Ty) (fs : FsT) (vs : VsT) (hp : ∀ p ∈ ps, FormR p) (hf : ∀ f ∈ fs, FormR f.2.2) (hv : ∀ v ∈ vs, ∀ b ∈ v.2, FormR b) (hnf : fs.length = 0) (hnv : vs.length = 0) (hpa : ps.all formT = true) : FormR (.mk 17 t n ps fs vs) := by
 cases hnm : nameT t with
 | false => exact form_17m t n ps fs vs hp hf hv hnf hnv hpa hnm
 | true =>
  by_cases hn0 : n = 0
  ·exact form_17y t n ps fs vs hp hf hv hnf hnv hpa hnm hn0
  ·exact form_17n t n ps fs vs hp hf hv hnf hnv hpa hnm hn0
theorem form_step18 (t : ByteArray) (n : Int) (ps : List Ty) (fs : FsT) (vs : VsT) (hp : ∀ p ∈ ps, FormR p) (hf : ∀ f ∈ fs, FormR f.2.2) (hv : ∀ v ∈ vs, ∀ b ∈ v.2, FormR b) (hnf : fs.length = 0) (hnv : vs.length = 0) (hpa : ps.all formT = true) : FormR (.mk 18 t n ps fs vs) := by
 by_cases ht0 : t.toList = []
 ·by_cases hn0 : n = 0
  ·by_cases hnp : ps.length = 1
   ·exact form_Ry 18 (by omega) t n ps fs vs hp hf hv hnf hnv hpa ht0 hn0 hnp
   ·exact form_Rp 18 (by omega) t n ps fs vs hp hf hv hnf hnv hpa ht0 hn0 hnp
  ·exact form_Rn 18 (by omega) t n ps fs vs hp hf hv hnf hnv hpa ht0 hn0
 ·obtain ⟨a0, l0, h⟩ := List.exists_cons_of_ne_nil ht0
  exact form_Rt 18 (by omega) t n ps fs vs hp hf hv hnf hnv hpa a0 l0 h
theorem form_step19 (t : ByteArray) (n : Int) (ps : List Ty) (fs : FsT) (vs : VsT) (hp : ∀ p ∈ ps, FormR p) (hf : ∀ f ∈ fs, FormR f.2.2) (hv : ∀ v ∈ vs, ∀ b ∈ v.2, FormR b) (hnf : fs.length = 0) (hnv : vs.length = 0) (hpa : ps.all formT = true) : FormR (.mk 19 t n ps fs vs) := by
 by_cases ht0 : t.toList = []
 ·by_cases hn0 : n = 0
  ·by_cases hnp : ps.length = 2
   ·exact form_19y t n ps fs vs hp hf hv hnf hnv hpa ht0 hn0 hnp
   ·exact form_19p t n ps fs vs hp hf hv hnf hnv hpa ht0 hn0 hnp
  ·exact form_19n t n ps fs vs hp hf hv hnf hnv hpa ht0 hn0
 ·obtain ⟨a0, l0, h⟩ := List.exists_cons_of_ne_nil ht0
  exact form_19t t n ps fs vs hp hf hv hnf hnv hpa a0 l0 h
theorem form_step20 (t : ByteArray) (n : Int) (ps : List Ty) (fs : FsT) (vs : VsT) (hp : ∀ p ∈ ps, FormR p) (hf : ∀ f ∈ fs, FormR f.2.2) (hv : ∀ v ∈ vs, ∀ b ∈ v.2, FormR b) (hnf : fs.length = 0) (hnv : vs.length = 0) (hpa : ps.all formT = true) : FormR (.mk 20 t n ps fs vs) := by
 cases hnm : nameT t with
 | false => exact form_20m t n ps fs vs hp hf hv hnf hnv hpa hnm
 | true =>
  by_cases hn0 : 0 ≤ n
  ·by_cases hn3 : n ≤ 3
   ·by_cases hnp : ps.length = 2
    ·exact form_20y t n ps fs vs hp hf hv hnf hnv hpa hnm hn0 hn3 hnp
    ·exact form_20p t n ps fs vs hp hf hv hnf hnv hpa hnm hn0 hn3 hnp
   ·exact form_20o t n ps fs vs hp hf hv hnf hnv hpa hnm hn0 hn3
  ·exact form_20n t n ps fs vs hp hf hv hnf hnv hpa hnm hn0
theorem form_step21 (t : ByteArray) (n : Int) (ps : List Ty) (fs : FsT) (vs : VsT) (hp : ∀ p ∈ ps, FormR p) (hf : ∀ f ∈ fs, FormR f.2.2) (hv : ∀ v ∈ vs, ∀ b ∈ v.2, FormR b) (hnf : fs.length = 0) (hnv : vs.length = 0) (hpa : ps.all formT = true) : FormR (.mk 21 t n ps fs vs) := by
 by_cases hnp : ps.length = 4
 ·by_cases hn0 : n = 0
  ·by_cases ht0 : t.toList = []
   ·exact form_21a t n ps fs vs hp hf hv hnf hnv hpa hnp hn0 ht0
   ·obtain ⟨a0, l0, h⟩ := List.exists_cons_of_ne_nil ht0
    exact form_21b t n ps fs vs hp hf hv hnf hnv hpa hnp hn0 a0 l0 h
  ·by_cases hn1 : n = 1
   ·cases hnm : nameT t with
    | false => exact form_21mf t n ps fs vs hp hf hv hnf hnv hpa hnp hn0 hn1 hnm
    | true => exact form_21mt t n ps fs vs hp hf hv hnf hnv hpa hnp hn0 hn1 hnm
   ·exact form_21c t n ps fs vs hp hf hv hnf hnv hpa hnp hn0 hn1
 ·exact form_21p t n ps fs vs hp hf hv hnf hnv hpa hnp
theorem form_step22 (t : ByteArray) (n : Int) (ps : List Ty) (fs : FsT) (vs : VsT) (hp : ∀ p ∈ ps, FormR p) (hf : ∀ f ∈ fs, FormR f.2.2) (hv : ∀ v ∈ vs, ∀ b ∈ v.2, FormR b) (hnf : fs.length = 0) (hnv : vs.length = 0) (hpa : ps.all formT = true) : FormR (.mk 22 t n ps fs vs) := by
 cases hnm : nameT t with
 | false => exact form_Mm 22 (by omega) t n ps fs vs hp hf hv hnf hnv hpa hnm
 | true =>
  by_cases hn0 : n = 0
  ·by_cases hnp : ps.length = 0
   ·exact form_My 22 (by omega) t n ps fs vs hp hf hv hnf hnv hpa hnm hn0 hnp
   ·exact form_Mp 22 (by omega) t n ps fs vs hp hf hv hnf hnv hpa hnm hn0 hnp
  ·exact form_Mn 22 (by omega) t n ps fs vs hp hf hv hnf hnv hpa hnm hn0
theorem form_step23 (t : ByteArray) (n : Int) (ps : List Ty) (fs : FsT) (vs : VsT) (hp : ∀ p ∈ ps, FormR p) (hf : ∀ f ∈ fs, FormR f.2.2) (hv : ∀ v ∈ vs, ∀ b ∈ v.2, FormR b) (hnf : fs.length = 0) (hnv : vs.length = 0) (hpa : ps.all formT = true) : FormR (.mk 23 t n ps fs vs) := by
 by_cases ht0 : t.toList = []
 ·by_cases hn0 : n = 0
  ·by_cases hnp : 2 ≤ ps.length
   ·cases hq : overT ps with
    | false => exact form_23bf t n ps fs vs hp hf hv hnf hnv hpa ht0 hn0 hnp hq
    | true => exact form_23bt t n ps fs vs hp hf hv hnf hnv hpa ht0 hn0 hnp hq
   ·exact form_23p t n ps fs vs hp hf hv hnf hnv hpa ht0 hn0 hnp
  ·exact form_23n t n ps fs vs hp hf hv hnf hnv hpa ht0 hn0
 ·obtain ⟨a0, l0, h⟩ := List.exists_cons_of_ne_nil ht0
  exact form_23t t n ps fs vs hp hf hv hnf hnv hpa a0 l0 h
theorem formr_step (k : Int) (t : ByteArray) (n : Int) (ps : List Ty) (fs : FsT) (vs : VsT) (hp : ∀ p ∈ ps, FormR p) (hf : ∀ f ∈ fs, FormR f.2.2) (hv : ∀ v ∈ vs, ∀ b ∈ v.2, FormR b) : FormR (.mk k t n ps fs vs) := by
 by_cases h14 : k = 14
 ·subst h14
  by_cases hnv : vs.length = 0
  ·cases hpa : ps.all formT with
   | false => exact form_pa14 t n ps fs vs hp hf hv hnv hpa
   | true => exact form_step14 t n ps fs vs hp hf hv hnv hpa
  ·exact form_nv14 t n ps fs vs hp hf hv (by omega)
 by_cases hnf : fs.length = 0
 ·by_cases h13 : k = 13
  ·subst h13
   cases hpa : ps.all formT with
   | false => exact form_pa13 t n ps fs vs hp hf hv hnf hpa
   | true => exact form_step13 t n ps fs vs hp hf hv hnf hpa
  by_cases hnv : vs.length = 0
  ·cases hpa : ps.all formT with
   | false => exact form_pa k t n ps fs vs hp hf hv h14 hnf h13 hnv hpa
   | true =>
    by_cases hL : k = 1 ∨ k = 2 ∨ k = 3 ∨ k = 4 ∨ k = 5 ∨ k = 6 ∨ k = 7 ∨ k = 8
    ·exact form_stepL k hL t n ps fs vs hp hf hv hnf hnv hpa
    by_cases h9 : k = 9
    ·subst h9; exact form_step9 t n ps fs vs hp hf hv hnf hnv hpa
    by_cases h10 : k = 10
    ·subst h10; exact form_step10 t n ps fs vs hp hf hv hnf hnv hpa
    by_cases h11 : k = 11
    ·subst h11; exact form_step11 t n ps fs vs hp hf hv hnf hnv hpa
    by_cases h12 : k = 12
    ·subst h12; exact form_step12 t n ps fs vs hp hf hv hnf hnv hpa
    by_cases h15 : k = 15
    ·subst h15; exact form_step15 t n ps fs vs hp hf hv hnf hnv hpa
    by_cases h16 : k = 16
    ·subst h16; exact form_step16 t n ps fs vs hp hf hv hnf hnv hpa
    by_cases h17 : k = 17
    ·subst h17; exact form_step17 t n ps fs vs hp hf hv hnf hnv hpa
    by_cases h18 : k = 18
    ·subst h18; exact form_step18 t n ps fs vs hp hf hv hnf hnv hpa
    by_cases h19 : k = 19
    ·subst h19; exact form_step19 t n ps fs vs hp hf hv hnf hnv hpa
    by_cases h20 : k = 20
    ·subst h20; exact form_step20 t n ps fs vs hp hf hv hnf hnv hpa
    by_cases h21 : k = 21
    ·subst h21; exact form_step21 t n ps fs vs hp hf hv hnf hnv hpa
    by_cases h22 : k = 22
    ·subst h22; exact form_step22 t n ps fs vs hp hf hv hnf hnv hpa
    by_cases h23 : k = 23
    ·subst h23; exact form_step23 t n ps fs vs hp hf hv hnf hnv hpa
    exact form_no k t n ps fs vs hp hf hv (by omega) (by omega) (by omega) (by omega) (by omega) (by omega) (by omega) (by omega) h9 h10 h11 h12 h13 h14 h15 h16 h17 h18 h19 h20 h21 h22 h23 hnf hnv hpa
  ·exact form_nv k t n ps fs vs hp hf hv h14 hnf h13 (by omega)
 ·exact form_nf k t n ps fs vs hp hf hv h14 (by omega)
theorem form_ref (t : Ty) : FormR t := Ty.ind (C := FormR) (fun k t n ps fs vs hp hf hv => formr_step k t n ps fs vs hp hf hv) t
end Go.Proofs.YteakkjhcdpbidaaGreatDoor
