import Derived.Test.YtlooadichhpgeaaGreatDoorMe30
namespace Go.Proofs.YtlooadichhpgeaaGreatDoor
open Go.RowKit
set_option maxRecDepth 100000 in
set_option maxHeartbeats 64000000 in
theorem form_15t (t : ByteArray) (n : Int) (ps : List Ty) (fs : List (ByteArray × Int × Ty)) (vs : List (ByteArray × List Ty)) (hp : ∀ p ∈ ps, FormR p) (hf : ∀ f ∈ fs, FormR f.2.2) (hv : ∀ v ∈ vs, ∀ b ∈ v.2, FormR b) (hnf : fs.length = 0) (hnv : vs.length = 0) (hpa : ps.all formT = true) (a0 : UInt8) (l0 : List UInt8) (ht0 : t.toList = a0 :: l0) : FormR (.mk 15 t n ps fs vs) := by
 refine form_pre 15 t n ps fs vs hp hf hv fun K w A c A' c' A'' c'' w1 h => ?_
 obtain ⟨HXC, KAll, KPl, KNm, KOb, KBi, KOv, HREP, HCN, HBZ, HB, HS1, HX0, HW1, hlp, hlf, hlv⟩ := h
 clear hp hf hv
 have HVal : Hid (formT (.mk 15 t n ps fs vs) = false) := Lib.hid (by
  rw [formT_mk, show shapeK 15 = ⟨false, false, false, false, 2, -1, true⟩ from rfl, hpa]
  unfold fitsB selfB
  simp [hnf, hnv, ht0])
 obtain ⟨f1, f2, f3, f4⟩ := no4 (m := fs.length) (n := vs.length) (by omega) (by omega)
 rw [hpa] at KAll
 have ep : (t.toList == [] && n == 0) = false := by rw [ht0]; rfl
 rw [ep] at KPl
 try clear hnf
 try clear hnv
 try clear hnp
 try clear hn0
 try clear hpa
 try clear ht0
 go_enter Tryz.func18, Tryz.ntmps18
 go_upto_region 1 with fail
 rw [← HW1.out]
 obtain ⟨x0, x1, x2, x3, x4, x5⟩ := HXC.out _ HB.out
 go_wp2_with fail
 refine (KAll.out _ HB.out).mono ?_
 rintro e w2 ⟨rfl, hb⟩
 have HB1 := Lib.hid (HB.out.trans (hb.mono HB.out.size))
 clear hb
 clear x0 x1 x2 x3 x4 x5
 obtain ⟨x0, x1, x2, x3, x4, x5⟩ := HXC.out _ HB1.out
 go_wp2_with fail
 clear x0 x1 x2 x3 x4 x5
 refine wp_region_held_drew (S := (fun w' => w'.cell? ⟨w.heap.size, 0, none⟩ = some (.int .i64 15) ∧ w'.cell? ⟨w.heap.size, 1, none⟩ = some (.string t) ∧ w'.cell? ⟨w.heap.size, 2, none⟩ = some (.int .i64 n) ∧ w'.cell? ⟨w.heap.size, 3, none⟩ = some (.slice A ps.length c) ∧ w'.cell? ⟨w.heap.size, 4, none⟩ = some (.slice A' fs.length c') ∧ w'.cell? ⟨w.heap.size, 5, none⟩ = some (.slice A'' vs.length c''))) (by kernel_rfl) (HXC.out _ HB1.out.drew) (fun hHeld => ?_)
 refine wpAnyH_take (i := 0) (v := ?_) (sd (some 114) rfl) (by kernel_rfl) (by kernel_rfl) (by kernel_rfl) (fun _ _ _ h => h) (Or.inl ⟨by rfl, ?_⟩) hHeld ?_
 rotate_left
 ·intro w' hSw
  (try dsimp only at hSw)
  go_simp
  try with_reducible rfl
 try simp only [Act.put, List.setIfInBounds_toArray, List.set_cons_zero, List.set_cons_succ]
 refine wpAnyH_ready (rs := [1]) (by kernel_rfl) (by simp) ?_
 refine AllReadyH.cons (sd (some 115) rfl) (fun K hK => ?_) AllReadyH.nil
 go_simp
 refine (KPl.out _).mono ?_
 rintro e w4 ⟨rfl, hb⟩
 have HB2 := Lib.hid (HB1.out.drew.trans (hb.mono HB1.out.drew.size))
 clear hb
 go_wp2_with fail
 refine hK.out _ _ (HXC.out _ HB2.out) (fun hHeld => ?_)
 clear hK K
 try simp only [Act.put, List.setIfInBounds_toArray, List.set_cons_zero, List.set_cons_succ]
 refine wpAnyH_take (i := 2) (v := ?_) (sd (some 116) rfl) (by kernel_rfl) (by kernel_rfl) (by kernel_rfl) (fun _ _ _ h => h) (Or.inl ⟨by rfl, ?_⟩) hHeld ?_
 rotate_left
 ·intro w' hSw
  (try dsimp only at hSw)
  go_simp
  try with_reducible rfl
 try simp only [Act.put, List.setIfInBounds_toArray, List.set_cons_zero, List.set_cons_succ]
 refine Plan.start [3, 4] ?_
 iterate 2 (refine Plan.take (v := undef) (so rfl) (by kernel_rfl) (by kernel_rfl) (by kernel_rfl) (fun _ _ _ h => h) (Or.inr ⟨by rfl, rfl⟩) hHeld ?_; try simp only [Act.put, List.setIfInBounds_toArray, List.set_cons_zero, List.set_cons_succ])
 refine Plan.done ?_
 refine Plan.start [5, 6] ?_
 iterate 2 ((refine Plan.take (v := ?_) (so rfl) (by kernel_rfl) (by kernel_rfl) (by kernel_rfl) (fun _ _ _ h => h) (Or.inl ⟨by rfl, ?_⟩) hHeld ?_; rotate_left; focus (intro w' hSw; (try dsimp only at hSw); go_simp; try with_reducible rfl)); try simp only [Act.put, List.setIfInBounds_toArray, List.set_cons_zero, List.set_cons_succ])
 refine Plan.done ?_
 refine Plan.start [7, 8, 9, 10, 11, 12] ?_
 iterate 6 (refine Plan.take (v := undef) (so rfl) (by kernel_rfl) (by kernel_rfl) (by kernel_rfl) (fun _ _ _ h => h) (Or.inr ⟨by rfl, rfl⟩) hHeld ?_; try simp only [Act.put, List.setIfInBounds_toArray, List.set_cons_zero, List.set_cons_succ])
 refine Plan.done ?_
 refine Plan.start [13, 14] ?_
 iterate 2 ((refine Plan.take (v := ?_) (so rfl) (by kernel_rfl) (by kernel_rfl) (by kernel_rfl) (fun _ _ _ h => h) (Or.inl ⟨by rfl, ?_⟩) hHeld ?_; rotate_left; focus (intro w' hSw; (try dsimp only at hSw); go_simp; try with_reducible rfl)); try simp only [Act.put, List.setIfInBounds_toArray, List.set_cons_zero, List.set_cons_succ])
 refine Plan.done ?_
 refine wpAnyH_done (by kernel_rfl) ?_ _
 clear hHeld
 go_wp2_with fail
 go_ret
 exact ⟨by rw [HVal.out]; rfl, HBZ.out.trans (HB2.out.mono HBZ.out.size)⟩
set_option maxRecDepth 100000 in
set_option maxHeartbeats 64000000 in
theorem form_15n (t : ByteArray) (n : Int) (ps : List Ty) (fs : List (ByteArray × Int × Ty)) (vs : List (ByteArray × List Ty)) (hp : ∀ p ∈ ps, FormR p) (hf : ∀ f ∈ fs, FormR f.2.2) (hv : ∀ v ∈ vs, ∀ b ∈ v.2, FormR b) (hnf : fs.length = 0) (hnv : vs.length = 0) (hpa : ps.all formT = true) (ht0 : t.toList = []) (hn0 : n ≠ 0) : FormR (.mk 15 t n ps fs vs) := by
 refine form_pre 15 t n ps fs vs hp hf hv fun K w A c A' c' A'' c'' w1 h => ?_
 obtain ⟨HXC, KAll, KPl, KNm, KOb, KBi, KOv, HREP, HCN, HBZ, HB, HS1, HX0, HW1, hlp, hlf, hlv⟩ := h
 clear hp hf hv
 have HVal : Hid (formT (.mk 15 t n ps fs vs) = false) := Lib.hid (by
  rw [formT_mk, show shapeK 15 = ⟨false, false, false, false, 2, -1, true⟩ from rfl, hpa]
  unfold fitsB selfB
  simp [hnf, hnv, ht0, hn0])
 obtain ⟨f1, f2, f3, f4⟩ := no4 (m := fs.length) (n := vs.length) (by omega) (by omega)
 rw [hpa] at KAll
 have ep : (t.toList == [] && n == 0) = false := by rw [ht0]; simpa using hn0
 rw [ep] at KPl
 try clear hnf
 try clear hnv
 try clear hnp
 try clear hn0
 try clear hpa
 try clear ht0
 go_enter Tryz.func18, Tryz.ntmps18
 go_upto_region 1 with fail
 rw [← HW1.out]
 obtain ⟨x0, x1, x2, x3, x4, x5⟩ := HXC.out _ HB.out
 go_wp2_with fail
 refine (KAll.out _ HB.out).mono ?_
 rintro e w2 ⟨rfl, hb⟩
 have HB1 := Lib.hid (HB.out.trans (hb.mono HB.out.size))
 clear hb
 clear x0 x1 x2 x3 x4 x5
 obtain ⟨x0, x1, x2, x3, x4, x5⟩ := HXC.out _ HB1.out
 go_wp2_with fail
 clear x0 x1 x2 x3 x4 x5
 refine wp_region_held_drew (S := (fun w' => w'.cell? ⟨w.heap.size, 0, none⟩ = some (.int .i64 15) ∧ w'.cell? ⟨w.heap.size, 1, none⟩ = some (.string t) ∧ w'.cell? ⟨w.heap.size, 2, none⟩ = some (.int .i64 n) ∧ w'.cell? ⟨w.heap.size, 3, none⟩ = some (.slice A ps.length c) ∧ w'.cell? ⟨w.heap.size, 4, none⟩ = some (.slice A' fs.length c') ∧ w'.cell? ⟨w.heap.size, 5, none⟩ = some (.slice A'' vs.length c''))) (by kernel_rfl) (HXC.out _ HB1.out.drew) (fun hHeld => ?_)
 refine wpAnyH_take (i := 0) (v := ?_) (sd (some 114) rfl) (by kernel_rfl) (by kernel_rfl) (by kernel_rfl) (fun _ _ _ h => h) (Or.inl ⟨by rfl, ?_⟩) hHeld ?_
 rotate_left
 ·intro w' hSw
  (try dsimp only at hSw)
  go_simp
  try with_reducible rfl
 try simp only [Act.put, List.setIfInBounds_toArray, List.set_cons_zero, List.set_cons_succ]
 refine wpAnyH_ready (rs := [1]) (by kernel_rfl) (by simp) ?_
 refine AllReadyH.cons (sd (some 115) rfl) (fun K hK => ?_) AllReadyH.nil
 go_simp
 refine (KPl.out _).mono ?_
 rintro e w4 ⟨rfl, hb⟩
 have HB2 := Lib.hid (HB1.out.drew.trans (hb.mono HB1.out.drew.size))
 clear hb
 go_wp2_with fail
 refine hK.out _ _ (HXC.out _ HB2.out) (fun hHeld => ?_)
 clear hK K
 try simp only [Act.put, List.setIfInBounds_toArray, List.set_cons_zero, List.set_cons_succ]
 refine wpAnyH_take (i := 2) (v := ?_) (sd (some 116) rfl) (by kernel_rfl) (by kernel_rfl) (by kernel_rfl) (fun _ _ _ h => h) (Or.inl ⟨by rfl, ?_⟩) hHeld ?_
 rotate_left
 ·intro w' hSw
  (try dsimp only at hSw)
  go_simp
  try with_reducible rfl
 try simp only [Act.put, List.setIfInBounds_toArray, List.set_cons_zero, List.set_cons_succ]
 refine Plan.start [3, 4] ?_
 iterate 2 (refine Plan.take (v := undef) (so rfl) (by kernel_rfl) (by kernel_rfl) (by kernel_rfl) (fun _ _ _ h => h) (Or.inr ⟨by rfl, rfl⟩) hHeld ?_; try simp only [Act.put, List.setIfInBounds_toArray, List.set_cons_zero, List.set_cons_succ])
 refine Plan.done ?_
 refine Plan.start [5, 6] ?_
 iterate 2 ((refine Plan.take (v := ?_) (so rfl) (by kernel_rfl) (by kernel_rfl) (by kernel_rfl) (fun _ _ _ h => h) (Or.inl ⟨by rfl, ?_⟩) hHeld ?_; rotate_left; focus (intro w' hSw; (try dsimp only at hSw); go_simp; try with_reducible rfl)); try simp only [Act.put, List.setIfInBounds_toArray, List.set_cons_zero, List.set_cons_succ])
 refine Plan.done ?_
 refine Plan.start [7, 8, 9, 10, 11, 12] ?_
 iterate 6 (refine Plan.take (v := undef) (so rfl) (by kernel_rfl) (by kernel_rfl) (by kernel_rfl) (fun _ _ _ h => h) (Or.inr ⟨by rfl, rfl⟩) hHeld ?_; try simp only [Act.put, List.setIfInBounds_toArray, List.set_cons_zero, List.set_cons_succ])
 refine Plan.done ?_
 refine Plan.start [13, 14] ?_
 iterate 2 ((refine Plan.take (v := ?_) (so rfl) (by kernel_rfl) (by kernel_rfl) (by kernel_rfl) (fun _ _ _ h => h) (Or.inl ⟨by rfl, ?_⟩) hHeld ?_; rotate_left; focus (intro w' hSw; (try dsimp only at hSw); go_simp; try with_reducible rfl)); try simp only [Act.put, List.setIfInBounds_toArray, List.set_cons_zero, List.set_cons_succ])
 refine Plan.done ?_
 refine wpAnyH_done (by kernel_rfl) ?_ _
 clear hHeld
 go_wp2_with fail
 go_ret
 exact ⟨by rw [HVal.out]; rfl, HBZ.out.trans (HB2.out.mono HBZ.out.size)⟩
set_option maxRecDepth 100000 in
set_option maxHeartbeats 64000000 in
theorem form_15p (t : ByteArray) (n : Int) (ps : List Ty) (fs : List (ByteArray × Int × Ty)) (vs : List (ByteArray × List Ty)) (hp : ∀ p ∈ ps, FormR p) (hf : ∀ f ∈ fs, FormR f.2.2) (hv : ∀ v ∈ vs, ∀ b ∈ v.2, FormR b) (hnf : fs.length = 0) (hnv : vs.length = 0) (hpa : ps.all formT = true) (ht0 : t.toList = []) (hn0 : n = 0) (hnp : ¬ 2 ≤ ps.length) : FormR (.mk 15 t n ps fs vs) := by
 refine form_pre 15 t n ps fs vs hp hf hv fun K w A c A' c' A'' c'' w1 h => ?_
 obtain ⟨HXC, KAll, KPl, KNm, KOb, KBi, KOv, HREP, HCN, HBZ, HB, HS1, HX0, HW1, hlp, hlf, hlv⟩ := h
 clear hp hf hv
 have HVal : Hid (formT (.mk 15 t n ps fs vs) = false) := Lib.hid (by
  rw [formT_mk, show shapeK 15 = ⟨false, false, false, false, 2, -1, true⟩ from rfl, hpa]
  unfold fitsB selfB
  simp [hnf, hnv, ht0, hn0]
  omega)
 obtain ⟨f1, f2, f3, f4⟩ := no4 (m := fs.length) (n := vs.length) (by omega) (by omega)
 rw [hpa] at KAll
 have ep : (t.toList == [] && n == 0) = true := by rw [ht0, hn0]; rfl
 rw [ep] at KPl
 have p1 : decide ((2 : Int) ≤ (ps.length : Int)) = false := decide_eq_false (by omega)
 have p2 : decide (2 ≤ ps.length) = false := decide_eq_false (by omega)
 try clear hnf
 try clear hnv
 try clear hnp
 try clear hn0
 try clear hpa
 try clear ht0
 go_enter Tryz.func18, Tryz.ntmps18
 go_upto_region 1 with fail
 rw [← HW1.out]
 obtain ⟨x0, x1, x2, x3, x4, x5⟩ := HXC.out _ HB.out
 go_wp2_with fail
 refine (KAll.out _ HB.out).mono ?_
 rintro e w2 ⟨rfl, hb⟩
 have HB1 := Lib.hid (HB.out.trans (hb.mono HB.out.size))
 clear hb
 clear x0 x1 x2 x3 x4 x5
 obtain ⟨x0, x1, x2, x3, x4, x5⟩ := HXC.out _ HB1.out
 go_wp2_with fail
 clear x0 x1 x2 x3 x4 x5
 refine wp_region_held_drew (S := (fun w' => w'.cell? ⟨w.heap.size, 0, none⟩ = some (.int .i64 15) ∧ w'.cell? ⟨w.heap.size, 1, none⟩ = some (.string t) ∧ w'.cell? ⟨w.heap.size, 2, none⟩ = some (.int .i64 n) ∧ w'.cell? ⟨w.heap.size, 3, none⟩ = some (.slice A ps.length c) ∧ w'.cell? ⟨w.heap.size, 4, none⟩ = some (.slice A' fs.length c') ∧ w'.cell? ⟨w.heap.size, 5, none⟩ = some (.slice A'' vs.length c''))) (by kernel_rfl) (HXC.out _ HB1.out.drew) (fun hHeld => ?_)
 refine wpAnyH_take (i := 0) (v := ?_) (sd (some 114) rfl) (by kernel_rfl) (by kernel_rfl) (by kernel_rfl) (fun _ _ _ h => h) (Or.inl ⟨by rfl, ?_⟩) hHeld ?_
 rotate_left
 ·intro w' hSw
  (try dsimp only at hSw)
  go_simp
  try with_reducible rfl
 try simp only [Act.put, List.setIfInBounds_toArray, List.set_cons_zero, List.set_cons_succ]
 refine wpAnyH_ready (rs := [1]) (by kernel_rfl) (by simp) ?_
 refine AllReadyH.cons (sd (some 115) rfl) (fun K hK => ?_) AllReadyH.nil
 go_simp
 refine (KPl.out _).mono ?_
 rintro e w4 ⟨rfl, hb⟩
 have HB2 := Lib.hid (HB1.out.drew.trans (hb.mono HB1.out.drew.size))
 clear hb
 go_wp2_with fail
 refine hK.out _ _ (HXC.out _ HB2.out) (fun hHeld => ?_)
 clear hK K
 try simp only [Act.put, List.setIfInBounds_toArray, List.set_cons_zero, List.set_cons_succ]
 refine Plan.start [2, 3, 4, 5, 6] ?_
 iterate 5 ((refine Plan.take (v := ?_) (so rfl) (by kernel_rfl) (by kernel_rfl) (by kernel_rfl) (fun _ _ _ h => h) (Or.inl ⟨by rfl, ?_⟩) hHeld ?_; rotate_left; focus (intro w' hSw; (try dsimp only at hSw); go_simp; try with_reducible rfl)); try simp only [Act.put, List.setIfInBounds_toArray, List.set_cons_zero, List.set_cons_succ])
 refine Plan.done ?_
 refine Plan.start [7, 8, 9, 10, 11, 12] ?_
 iterate 6 (refine Plan.take (v := undef) (so rfl) (by kernel_rfl) (by kernel_rfl) (by kernel_rfl) (fun _ _ _ h => h) (Or.inr ⟨by rfl, rfl⟩) hHeld ?_; try simp only [Act.put, List.setIfInBounds_toArray, List.set_cons_zero, List.set_cons_succ])
 refine Plan.done ?_
 refine Plan.start [13, 14] ?_
 iterate 2 ((refine Plan.take (v := ?_) (so rfl) (by kernel_rfl) (by kernel_rfl) (by kernel_rfl) (fun _ _ _ h => h) (Or.inl ⟨by rfl, ?_⟩) hHeld ?_; rotate_left; focus (intro w' hSw; (try dsimp only at hSw); go_simp; try with_reducible rfl)); try simp only [Act.put, List.setIfInBounds_toArray, List.set_cons_zero, List.set_cons_succ])
 refine Plan.done ?_
 refine wpAnyH_done (by kernel_rfl) ?_ _
 clear hHeld
 go_wp2_with fail
 go_ret
 exact ⟨by rw [HVal.out]; rfl, HBZ.out.trans (HB2.out.mono HBZ.out.size)⟩
set_option maxRecDepth 100000 in
set_option maxHeartbeats 64000000 in
theorem form_15y (t : ByteArray) (n : Int) (ps : List Ty) (fs : List (ByteArray × Int × Ty)) (vs : List (ByteArray × List Ty)) (hp : ∀ p ∈ ps, FormR p) (hf : ∀ f ∈ fs, FormR f.2.2) (hv : ∀ v ∈ vs, ∀ b ∈ v.2, FormR b) (hnf : fs.length = 0) (hnv : vs.length = 0) (hpa : ps.all formT = true) (ht0 : t.toList = []) (hn0 : n = 0) (hnp : 2 ≤ ps.length) : FormR (.mk 15 t n ps fs vs) := by
 refine form_pre 15 t n ps fs vs hp hf hv fun K w A c A' c' A'' c'' w1 h => ?_
 obtain ⟨HXC, KAll, KPl, KNm, KOb, KBi, KOv, HREP, HCN, HBZ, HB, HS1, HX0, HW1, hlp, hlf, hlv⟩ := h
 clear hp hf hv
 have hform : ∀ x ∈ ps, formT x = true := List.all_eq_true.1 hpa
 have hflat := flatU_cnt ps
 have hcn' : cntL ps ≤ 1000000 := by have := HCN.out; omega
 have hrl := RepT.low _ _ HREP.out
 obtain ⟨B, d, B', d', B'', d'', he, -, hLl, -, -⟩ := hrl.inv
 have hAB : A = B ∧ c = d := by simp only [cells6T, List.cons.injEq, Value.slice.injEq] at he; exact ⟨he.2.2.2.1.1, he.2.2.2.1.2.2⟩
 obtain ⟨rfl, rfl⟩ := hAB
 have KUn := Lib.hid fun wx (hx : Below w1.heap.size w1 wx) => union_ref (hLl.later (HBZ.out.trans (hx.mono HBZ.out.size))) (fun b hb => by have := HBZ.out.size; have := hx.size; omega) (fun x hx2 => by have h1 := names_cnt x; have h2 := hflat.2 x hx2; omega) (by have := hflat.1; omega)
 rw [unionR (plain_form hpa)] at KUn
 generalize hun : unionT ps = u at KUn
 obtain ⟨k2, s2, n2, ps2, fs2, vs2⟩ := u
 have HUN : Hid (shutU (sortT (keptR ps)) = .mk k2 s2 n2 ps2 fs2 vs2) := Lib.hid (by rw [unionR (plain_form hpa), hun])
 obtain ⟨z, hz⟩ : ∃ z, ordT (.mk k2 s2 n2 ps2 fs2 vs2) (.mk 15 t n ps fs vs) = z := ⟨_, rfl⟩
 have HZ := Lib.hid hz
 have HVal : Hid (formT (.mk 15 t n ps fs vs) = (z == 0)) := Lib.hid (by
  have ht : t = emptyB := bytes_ext (by rw [ByteArray.toList_eq] at ht0; rw [ht0]; rfl)
  have hfs : fs = [] := List.eq_nil_of_length_eq_zero hnf
  have hvs : vs = [] := List.eq_nil_of_length_eq_zero hnv
  subst ht hn0 hfs hvs
  have h1 : formT (.mk 15 emptyB 0 ps [] []) = isUB ps := by
   rw [formT_mk, show shapeK 15 = ⟨false, false, false, false, 2, -1, true⟩ from rfl, hpa]
   unfold fitsB selfB
   simp [emptyL]
   omega
  rw [h1, Bool.eq_iff_iff, isUB_self hnp, hun, ← hz, beq_iff_eq]
  exact ordT_zero.symm)
 obtain ⟨f1, f2, f3, f4⟩ := no4 (m := fs.length) (n := vs.length) (by omega) (by omega)
 rw [hpa] at KAll
 have ep : (t.toList == [] && n == 0) = true := by rw [ht0, hn0]; rfl
 rw [ep] at KPl
 have p1 : decide ((2 : Int) ≤ (ps.length : Int)) = true := decide_eq_true (by omega)
 have p2 : decide (2 ≤ ps.length) = true := decide_eq_true (by omega)
 clear hform hflat hcn' hrl hLl he hun hz
 try clear hnf
 try clear hnv
 try clear hnp
 try clear hn0
 try clear hpa
 try clear ht0
 go_enter Tryz.func18, Tryz.ntmps18
 go_upto_region 1 with fail
 rw [← HW1.out]
 obtain ⟨x0, x1, x2, x3, x4, x5⟩ := HXC.out _ HB.out
 go_wp2_with fail
 refine (KAll.out _ HB.out).mono ?_
 rintro e w2 ⟨rfl, hb⟩
 have HB1 := Lib.hid (HB.out.trans (hb.mono HB.out.size))
 clear hb
 clear x0 x1 x2 x3 x4 x5
 obtain ⟨x0, x1, x2, x3, x4, x5⟩ := HXC.out _ HB1.out
 go_wp2_with fail
 clear x0 x1 x2 x3 x4 x5
 refine wp_region_held_drew (S := (fun w' => w'.cell? ⟨w.heap.size, 0, none⟩ = some (.int .i64 15) ∧ w'.cell? ⟨w.heap.size, 1, none⟩ = some (.string t) ∧ w'.cell? ⟨w.heap.size, 2, none⟩ = some (.int .i64 n) ∧ w'.cell? ⟨w.heap.size, 3, none⟩ = some (.slice A ps.length c) ∧ w'.cell? ⟨w.heap.size, 4, none⟩ = some (.slice A' fs.length c') ∧ w'.cell? ⟨w.heap.size, 5, none⟩ = some (.slice A'' vs.length c''))) (by kernel_rfl) (HXC.out _ HB1.out.drew) (fun hHeld => ?_)
 refine wpAnyH_take (i := 0) (v := ?_) (sd (some 114) rfl) (by kernel_rfl) (by kernel_rfl) (by kernel_rfl) (fun _ _ _ h => h) (Or.inl ⟨by rfl, ?_⟩) hHeld ?_
 rotate_left
 ·intro w' hSw
  (try dsimp only at hSw)
  go_simp
  try with_reducible rfl
 try simp only [Act.put, List.setIfInBounds_toArray, List.set_cons_zero, List.set_cons_succ]
 refine wpAnyH_ready (rs := [1]) (by kernel_rfl) (by simp) ?_
 refine AllReadyH.cons (sd (some 115) rfl) (fun K hK => ?_) AllReadyH.nil
 go_simp
 refine (KPl.out _).mono ?_
 rintro e w4 ⟨rfl, hb⟩
 have HB2 := Lib.hid (HB1.out.drew.trans (hb.mono HB1.out.drew.size))
 clear hb
 go_wp2_with fail
 refine hK.out _ _ (HXC.out _ HB2.out) (fun hHeld => ?_)
 clear hK K
 try simp only [Act.put, List.setIfInBounds_toArray, List.set_cons_zero, List.set_cons_succ]
 refine Plan.start [2, 3, 4, 5, 6, 7, 8, 10] ?_
 iterate 8 ((refine Plan.take (v := ?_) (so rfl) (by kernel_rfl) (by kernel_rfl) (by kernel_rfl) (fun _ _ _ h => h) (Or.inl ⟨by rfl, ?_⟩) hHeld ?_; rotate_left; focus (intro w' hSw; (try dsimp only at hSw); go_simp; try with_reducible rfl)); try simp only [Act.put, List.setIfInBounds_toArray, List.set_cons_zero, List.set_cons_succ])
 refine Plan.done ?_
 refine wpAnyH_ready (rs := [9]) (by kernel_rfl) (by simp) ?_
 refine AllReadyH.cons (sd (some 123) rfl) (fun K hK => ?_) AllReadyH.nil
 go_simp
 refine (KUn.out _ HB2.out).mono ?_
 rintro e w5 ⟨rs, rfl, hr5, hb⟩
 have HB3 := Lib.hid (HB2.out.trans (hb.mono HB2.out.size))
 have HRS := Lib.hid hr5
 clear hb hr5
 obtain ⟨Aq, cq, Ag, cg, Ah, ch, rfl, -⟩ := HRS.out.inv
 simp only [cells6T] at HRS ⊢
 have KOrd := Lib.hid fun wx (hx : Below w5.heap.size w5 wx) => order_ref (.mk k2 s2 n2 ps2 fs2 vs2) _ _ (.mk 15 t n ps fs vs) wx _ _ (HRS.out.later hx) (HREP.out.later (HBZ.out.trans ((HB3.out.trans (hx.mono HB3.out.size)).mono HBZ.out.size)))
 try simp only [cells6T] at KOrd
 rw [HZ.out] at KOrd
 go_wp2_with fail
 refine hK.out _ _ (HXC.out _ HB3.out) (fun hHeld => ?_)
 clear hK K
 try simp only [Act.put, List.setIfInBounds_toArray, List.set_cons_zero, List.set_cons_succ]
 refine wpAnyH_ready (rs := [11]) (by kernel_rfl) (by simp) ?_
 refine AllReadyH.cons (sd (some 125) rfl) (fun K hK => ?_) AllReadyH.nil
 go_simp
 refine (KOrd.out _ (Below.refl _ _)).mono ?_
 rintro e w6 ⟨rfl, hgw⟩
 have HB4 := Lib.hid (HB3.out.trans (hgw.below.mono HB3.out.size))
 clear hgw
 go_wp2_with fail
 refine hK.out _ _ (HXC.out _ HB4.out) (fun hHeld => ?_)
 clear hK K
 try simp only [Act.put, List.setIfInBounds_toArray, List.set_cons_zero, List.set_cons_succ]
 refine Plan.start [12, 13, 14] ?_
 iterate 3 ((refine Plan.take (v := ?_) (so rfl) (by kernel_rfl) (by kernel_rfl) (by kernel_rfl) (fun _ _ _ h => h) (Or.inl ⟨by rfl, ?_⟩) hHeld ?_; rotate_left; focus (intro w' hSw; (try dsimp only at hSw); go_simp; try with_reducible rfl)); try simp only [Act.put, List.setIfInBounds_toArray, List.set_cons_zero, List.set_cons_succ])
 refine Plan.done ?_
 refine wpAnyH_done (by kernel_rfl) ?_ _
 clear hHeld
 go_wp2_with fail
 go_ret
 exact ⟨by rw [HVal.out]; rfl, HBZ.out.trans (HB4.out.mono HBZ.out.size)⟩
theorem form_11 {t : ByteArray} {n : Int} {ps : List Ty} {fs : List (ByteArray × Int × Ty)} {vs : List (ByteArray × List Ty)} (h : formT (.mk 11 t n ps fs vs) = true) : ∃ q, ps = [q] := by
 have hf := form_fits h
 have hs : shapeK 11 = ⟨false, false, false, false, 1, 1, true⟩ := rfl
 rw [hs] at hf
 unfold fitsB at hf
 simp only [Bool.and_eq_true, Bool.not_eq_true', Bool.or_eq_false_iff, Bool.or_eq_true, decide_eq_true_eq, beq_iff_eq, Bool.not_false, Bool.true_and, decide_eq_false_iff_not] at hf
 obtain ⟨_, h5, h6⟩ := hf
 have h7 : ps.length = 1 := by omega
 exact List.length_eq_one_iff.1 h7
set_option maxRecDepth 100000 in
set_option maxHeartbeats 16000000 in
theorem ins_array {p t : Ty} (hk : p.k = 11) (hk2 : t.k = 11) (hinf : infT p = true) (ih : ∀ q u, q ∈ p.ps → u ∈ t.ps → HoldP q u) : InsP p t := by
 intro K K' w0 w m F G b o b' o' hT hP hKT hKP hG hB hfp hft hct hlen
 obtain ⟨k, s, n, ps, fs, vs⟩ := p
 obtain ⟨k2, s2, n2, ps2, fs2, vs2⟩ := t
 obtain rfl : k = 11 := hk
 obtain rfl : k2 = 11 := hk2
 obtain ⟨q, rfl⟩ := form_11 hfp
 obtain ⟨u, rfl⟩ := form_11 hft
 have hga : gathT (.mk 11 s n [q] fs vs) (.mk 11 s2 n2 [u] fs2 vs2) = gathT q u := by
  rw [gathT_eq, if_neg (by rw [hinf]; decide), if_neg (by show ¬ ((11 : Int) = 22); decide), if_neg (by show ¬ ((11 : Int) = 15); decide), if_neg (by show ¬ (isComp 11 = false); decide), if_neg (by show ¬ ((11 : Int) = 15); decide), if_neg (by show ¬ ((11 : Int) = 11 ∧ (11 : Int) = 12); decide), if_neg (by show ¬ ((11 : Int) ≠ 11); decide), if_pos (show (Ty.mk 11 s n [q] fs vs).k = 11 from rfl)]
  rfl
 rw [hga] at hlen ⊢
 obtain ⟨A, c, A', c', A'', c'', ⟨x0, x1, x2, x3, x4, x5⟩, -, hLp, hLf, hLv⟩ := hP.six
 obtain ⟨A2, c2, B2, d2, C2, e2, ⟨y0, y1, y2, y3, y4, y5⟩, -, hLt, hLg, hLu⟩ := hT.six
 obtain ⟨pb, po, hA, hKb, hat⟩ := hLp.at (by simp)
 subst hA
 obtain ⟨qb, qo, hA2, hKb2, hat2⟩ := hLt.at (by simp)
 subst hA2
 have hq := hat 0 (by simp)
 have hu := hat2 0 (by simp)
 rw [Nat.zero_mul, Nat.add_zero] at hq hu
 simp only [List.length_cons, List.length_nil, Nat.zero_add] at x3 y3
 have hnb := (hKT b (.inr rfl)).2
 have hnb' := (hKP b' (.inr rfl)).2
 have HSW : Hid (∀ wx G', HoldMid w0 w m F G' wx → (wx.cell? ⟨b', o', none⟩ = some (.int .i64 11) ∧ wx.cell? ⟨b', o' + 3, none⟩ = some (.slice (some ⟨pb, po, none⟩) 1 c)) ∧ (wx.cell? ⟨b, o, none⟩ = some (.int .i64 11) ∧ wx.cell? ⟨b, o + 3, none⟩ = some (.slice (some ⟨qb, qo, none⟩) 1 c2))) := Lib.hid fun wx G' hm => by
  obtain ⟨F', _, hb, _⟩ := hm
  exact ⟨⟨but_cell hb hnb' x0, but_cell hb hnb' x3⟩, but_cell hb hnb y0, but_cell hb hnb y3⟩
 have KC : Hid (∀ wr, HoldMid w0 w m F G wr → Calls Tryz.prog 40 #[.map (some m), .pointer (some ⟨qb, qo, none⟩), .pointer (some ⟨pb, po, none⟩)] wr fun e w' => e = .returned (.tuple #[]) ∧ HoldMid w0 w m F (G ++ gathT q u) w') := Lib.hid fun wr hm =>
  GatP.go (ih q u (List.mem_singleton.2 rfl) (List.mem_singleton.2 rfl)) hm hu hq (fun x hx => hKT x (hx.elim .inl fun e => .inl (by rw [e]; exact hKb2))) (fun x hx => hKP x (hx.elim .inl fun e => .inl (by rw [e]; exact hKb))) hB (form_ps hfp _ (List.mem_singleton.2 rfl)) (form_ps hft _ (List.mem_singleton.2 rfl)) (by have h2 := cnt_ps (.mk 11 s n [q] fs vs); have h4 := cnt_ps (.mk 11 s2 n2 [u] fs2 vs2); simp only [Ty.ps, cntL_cons, cntL_nil] at h2 h4; omega) hlen
 have HST1 := Lib.hid (HoldMid.start hG).drew
 have HST2 := Lib.hid (HoldMid.start hG).drew.drew
 clear hT hP hKT hKP hG hB hfp hft hct hlen hga hLp hLf hLv hLt hLg hLu hat hat2 hKb hKb2 ih hnb hnb' hinf hq hu x1 x2 x4 x5 y1 y2 y4 y5
 generalize gathT q u = gg at KC ⊢
 go_enter Tryz.func57, Tryz.ntmps57
 go_upto_region 3 with fail
 clear x0 x3 y0 y3
 refine wp_region_held_drew (S := (fun w' => (w'.cell? ⟨b', o', none⟩ = some (.int .i64 11) ∧ w'.cell? ⟨b', o' + 3, none⟩ = some (.slice (some ⟨pb, po, none⟩) 1 c)) ∧ (w'.cell? ⟨b, o, none⟩ = some (.int .i64 11) ∧ w'.cell? ⟨b, o + 3, none⟩ = some (.slice (some ⟨qb, qo, none⟩) 1 c2)))) (by kernel_rfl) (HSW.out _ _ HST1.out) (fun hHeld => ?_)
 refine Plan.start [0, 1, 2, 3, 4, 5, 6, 7, 8, 9] ?_
 iterate 10 ((refine Plan.take (v := ?_) (so rfl) (by kernel_rfl) (by kernel_rfl) (by kernel_rfl) (fun _ _ _ h => h) (Or.inl ⟨by rfl, ?_⟩) hHeld ?_; rotate_left; focus (intro w' hSw; (try dsimp only at hSw); go_simp; try with_reducible rfl)); try simp only [Act.put, List.setIfInBounds_toArray, List.set_cons_zero, List.set_cons_succ])
 refine Plan.done ?_
 refine wpAnyH_done (by kernel_rfl) ?_ _
 clear hHeld
 obtain ⟨⟨z0, z3⟩, v0, v3⟩ := HSW.out _ _ HST1.out
 go_upto_region 5 with fail
 clear z0 z3 v0 v3
 refine wp_region_held_drew (S := (fun w' => (w'.cell? ⟨b', o', none⟩ = some (.int .i64 11) ∧ w'.cell? ⟨b', o' + 3, none⟩ = some (.slice (some ⟨pb, po, none⟩) 1 c)) ∧ (w'.cell? ⟨b, o, none⟩ = some (.int .i64 11) ∧ w'.cell? ⟨b, o + 3, none⟩ = some (.slice (some ⟨qb, qo, none⟩) 1 c2)))) (by kernel_rfl) (HSW.out _ _ HST2.out) (fun hHeld => ?_)
 refine Plan.start [0, 1, 2, 3, 4, 5, 6, 7, 8, 9, 10] ?_
 iterate 11 ((refine Plan.take (v := ?_) (so rfl) (by kernel_rfl) (by kernel_rfl) (by kernel_rfl) (fun _ _ _ h => h) (Or.inl ⟨by rfl, ?_⟩) hHeld ?_; rotate_left; focus (intro w' hSw; (try dsimp only at hSw); go_simp; try with_reducible rfl)); try simp only [Act.put, List.setIfInBounds_toArray, List.set_cons_zero, List.set_cons_succ])
 refine Plan.done ?_
 refine wpAnyH_ready (rs := [11]) (by kernel_rfl) (by simp) ?_
 refine AllReadyH.cons (sd (some 66) rfl) (fun Kx hK => ?_) AllReadyH.nil
 go_simp
 refine (KC.out _ HST2.out).mono ?_
 rintro e w9 ⟨rfl, hm2⟩
 have HM2 := Lib.hid hm2
 clear hm2
 go_wp2_with fail
 refine hK.out _ _ (HSW.out _ _ HM2.out) (fun hHeld => ?_)
 clear hK Kx
 try simp only [Act.put, List.setIfInBounds_toArray, List.set_cons_zero, List.set_cons_succ]
 refine wpAnyH_done (by kernel_rfl) ?_ _
 clear hHeld
 go_wp2_with fail
 exact bodyPost_end (v := .tuple #[]) (by simp [results, Tryz.results57, go_sem]) rfl ⟨rfl, HM2.out⟩
set_option maxRecDepth 100000 in
set_option maxHeartbeats 16000000 in
theorem ins_tuple {p t : Ty} (hk : p.k = 11) (hk2 : t.k = 12) (hinf : infT p = true) (ih : ∀ q, q ∈ p.ps → HoldP q (unionT t.ps)) : InsP p t := by
 intro K K' w0 w m F G b o b' o' hT hP hKT hKP hG hB hfp hft hct hlen
 obtain ⟨k, s, n, ps, fs, vs⟩ := p
 obtain ⟨k2, s2, n2, ps2, fs2, vs2⟩ := t
 obtain rfl : k = 11 := hk
 obtain rfl : k2 = 12 := hk2
 obtain ⟨q, rfl⟩ := form_11 hfp
 have hga : gathT (.mk 11 s n [q] fs vs) (.mk 12 s2 n2 ps2 fs2 vs2) = gathT q (unionT ps2) := by
  rw [gathT_eq, if_neg (by rw [hinf]; decide), if_neg (by show ¬ ((11 : Int) = 22); decide), if_neg (by show ¬ ((11 : Int) = 15); decide), if_neg (by show ¬ (isComp 11 = false); decide), if_neg (by show ¬ ((12 : Int) = 15); decide), if_pos (by show (11 : Int) = 11 ∧ (12 : Int) = 12; decide)]
  rfl
 rw [hga] at hlen ⊢
 have ihq : HoldP q (unionT ps2) := ih q (List.mem_singleton.2 rfl)
 have hfu : formT (unionT ps2) = true := form_union (form_ps hft)
 have hcu : cntT (unionT ps2) ≤ cntT (.mk 12 s2 n2 ps2 fs2 vs2) := by have h1 := cnt_union ps2; have h2 := cnt_ps (.mk 12 s2 n2 ps2 fs2 vs2); simp only [Ty.ps] at h2; omega
 obtain ⟨A, c, A', c', A'', c'', ⟨x0, x1, x2, x3, x4, x5⟩, -, hLp, hLf, hLv⟩ := hP.six
 obtain ⟨A2, c2, B2, d2, C2, e2, ⟨y0, y1, y2, y3, y4, y5⟩, -, hLt, hLg, hLu⟩ := hT.six
 obtain ⟨pb, po, hA, hKb, hat⟩ := hLp.at (by simp)
 subst hA
 have hq := hat 0 (by simp)
 rw [Nat.zero_mul, Nat.add_zero] at hq
 simp only [List.length_cons, List.length_nil, Nat.zero_add] at x3
 have hfl : (flatU ps2).length ≤ 1099511627776 := by have h1 := (flatU_cnt ps2).1; have h2 := cnt_ps (.mk 12 s2 n2 ps2 fs2 vs2); simp only [Ty.ps] at h2; omega
 have KU := Lib.hid (union_p _ w ps2 A2 c2 (hLt.weak fun x hx => hKT x (.inl hx)) hfl fun x hx => hx.1)
 have hnb' := (hKP b' (.inr rfl)).2
 have HX : Hid (∀ wx, Below w.heap.size w wx → wx.cell? ⟨b', o', none⟩ = some (.int .i64 11) ∧ wx.cell? ⟨b', o' + 3, none⟩ = some (.slice (some ⟨pb, po, none⟩) 1 c)) := Lib.hid fun wx hx => ⟨cell_stays hx x0, cell_stays hx x3⟩
 have HG := Lib.hid hG
 have HB := Lib.hid hB
 have KC : Hid (∀ w2 g, Below w.heap.size w w2 → w.heap.size ≤ g → g < w2.heap.size → AtT (fun x => ((x < w.heap.size ∧ ¬ rowB m F x) ∨ w.heap.size ≤ x) ∧ x < w2.heap.size) w2 (unionT ps2) g 0 → Calls Tryz.prog 40 #[.map (some m), .pointer (some ⟨g, 0, none⟩), .pointer (some ⟨pb, po, none⟩)] w2 fun e w' => e = .returned (.tuple #[]) ∧ HoldMid w0 w m F (G ++ gathT q (unionT ps2)) w') := Lib.hid fun w2 g hb hg hg2 hat2 => by
  have hnr : ∀ x, w.heap.size ≤ x → ¬ rowB m F x := fun x hx hr => by have := (hG.lt hr).2; omega
  refine (ihq _ _ w0 w2 m F G g 0 pb po hat2 (hq.later hb) (fun x hx => ?_) (fun x hx => ?_) (hG.later hb) (Nat.le_trans hB hb.size) (form_ps hfp _ (List.mem_singleton.2 rfl)) hfu (by have h2 := cnt_ps (.mk 11 s n [q] fs vs); simp only [Ty.ps, cntL_cons, cntL_nil] at h2; omega) hlen).mono ?_
  ·rcases hx with ⟨h1 | h1, h2⟩ | rfl
   ·exact ⟨h2, h1.2⟩
   ·exact ⟨h2, hnr x h1⟩
   ·exact ⟨hg2, hnr x hg⟩
  ·have h1 := hKP x (hx.elim .inl fun e => .inl (by rw [e]; exact hKb))
   exact ⟨Nat.lt_of_lt_of_le h1.1 hb.size, h1.2⟩
  ·rintro e w' ⟨rfl, hm⟩
   exact ⟨rfl, hm.comp (ButG.refl _ _) (fun _ h => .inl h) (ButG.of_below hb)⟩
 clear hT hP hKT hKP hG hB hfp hft hct hlen hga hLp hLf hLv hLt hLg hLu hat hKb ih ihq hnb' hinf hq hfu hcu hfl x1 x2 x4 x5 y1 y2 y4 y5
 generalize gathT q (unionT ps2) = gg at KC ⊢
 generalize unionT ps2 = tu at KC KU
 go_enter Tryz.func57, Tryz.ntmps57
 go_wp2_with fail
 refine KU.out.mono ?_
 rintro e w1 ⟨rs, rfl, hr, hb⟩
 obtain ⟨ku, su, nu, pu, fu, vu⟩ := tu
 obtain ⟨Au, cu, Bu, du, Cu, eu, rfl, -⟩ := hr.inv
 simp only [cells6T] at hr ⊢
 have HB1 := Lib.hid hb
 have HR := Lib.hid hr.both
 clear x0 x3 y0 y3 hr hb
 go_upto_region 2 with fail
 generalize hW : w1.alloc (.cells #[.int .i64 ku, .string su, .int .i64 nu, .slice Au pu.length cu, .slice Bu fu.length du, .slice Cu vu.length eu] 26) = w2
 have hbn : Below w1.heap.size w1 w2 := by rw [← hW]; exact (Below.refl _ _).alloc (Nat.le_refl _) _
 have hg2 : w1.heap.size < w2.heap.size := by rw [← hW]; simp
 have hat2 := AtT.box 26 HR.out
 rw [show (([.int .i64 ku, .string su, .int .i64 nu, .slice Au pu.length cu, .slice Bu fu.length du, .slice Cu vu.length eu] : List Value).toArray) = #[.int .i64 ku, .string su, .int .i64 nu, .slice Au pu.length cu, .slice Bu fu.length du, .slice Cu vu.length eu] from rfl, hW] at hat2
 have HB2 := Lib.hid (HB1.out.trans (hbn.mono HB1.out.size))
 have KK := Lib.hid (KC.out w2 w1.heap.size HB2.out HB1.out.size hg2 (hat2.keep (fun x hx => ⟨hx.1, Nat.lt_of_lt_of_le hx.2 hbn.size⟩) (fun _ _ _ _ h => h) (fun _ _ h => h)))
 obtain ⟨x0, x3⟩ := HX.out _ HB2.out
 clear hW hbn hg2 hat2 HR KC
 go_wp2_with fail
 refine KK.out.mono ?_
 rintro e w9 ⟨rfl, hm⟩
 have HM := Lib.hid hm
 clear hm
 go_wp2_with fail
 exact bodyPost_end (v := .tuple #[]) (by simp [results, Tryz.results57, go_sem]) rfl ⟨rfl, HM.out⟩
end Go.Proofs.YtlooadichhpgeaaGreatDoor
