import Derived.Test.YtllhfnpchplibaaGreatDoorMc31
import Derived.Test.YtllhfnpchplibaaGreatDoorMc32
namespace Go.Proofs.YtllhfnpchplibaaGreatDoor
open Go.RowKit
set_option maxRecDepth 100000 in
set_option maxHeartbeats 64000000 in
theorem form_15t (t : ByteArray) (n : Int) (ps : List Ty) (fs : List (ByteArray × Int × Ty)) (vs : List (ByteArray × List Ty)) (hp : ∀ p ∈ ps, FormR p) (hf : ∀ f ∈ fs, FormR f.2.2) (hv : ∀ v ∈ vs, ∀ b ∈ v.2, FormR b) (hnf : fs.length = 0) (hnv : vs.length = 0) (hpa : ps.all formT = true) (a0 : UInt8) (l0 : List UInt8) (ht0 : t.toList = a0 :: l0) : FormR (.mk 15 t n ps fs vs) := by
 refine form_pre 15 t n ps fs vs hp hf hv fun K w A c A' c' A'' c'' w1 h => ?_
 obtain ⟨HXC, KAll, KPl, KNm, KOb, KBi, KOv, HREP, HCN, HBZ, HB, HS1, HX0, HW1, hlp, hlf, hlv⟩ := h
 clear hp hf hv
 have HVal : Hid (formT (.mk 15 t n ps fs vs) = false) := Lib.hid (by
  rw [formT_mk, show shapeK 15 = ⟨false, false, false, false, 2, -1, true⟩ from rfl, hpa]
  unfold fitsB selfB
  simp [hnf, hnv, ht0])
 obtain ⟨f1, f2, f3, f4⟩ := no4 (m := fs.length) (n := vs.length) (by omega) (by omega)
 rw [hpa] at KAll
 have ep : (t.toList == [] && n == 0) = false := by rw [ht0]; rfl
 rw [ep] at KPl
 try clear hnf
 try clear hnv
 try clear hnp
 try clear hn0
 try clear hpa
 try clear ht0
 go_enter Tryz.func16, Tryz.ntmps16
 go_upto_region 1 with fail
 rw [← HW1.out]
 obtain ⟨x0, x1, x2, x3, x4, x5⟩ := HXC.out _ HB.out
 go_wp2_with fail
 refine (KAll.out _ HB.out).mono ?_
 rintro e w2 ⟨rfl, hb⟩
 have HB1 := Lib.hid (HB.out.trans (hb.mono HB.out.size))
 clear hb
 clear x0 x1 x2 x3 x4 x5
 obtain ⟨x0, x1, x2, x3, x4, x5⟩ := HXC.out _ HB1.out
 go_wp2_with fail
 clear x0 x1 x2 x3 x4 x5
 refine wp_region_held_drew (S := (fun w' => w'.cell? ⟨w.heap.size, 0, none⟩ = some (.int .i64 15) ∧ w'.cell? ⟨w.heap.size, 1, none⟩ = some (.string t) ∧ w'.cell? ⟨w.heap.size, 2, none⟩ = some (.int .i64 n) ∧ w'.cell? ⟨w.heap.size, 3, none⟩ = some (.slice A ps.length c) ∧ w'.cell? ⟨w.heap.size, 4, none⟩ = some (.slice A' fs.length c') ∧ w'.cell? ⟨w.heap.size, 5, none⟩ = some (.slice A'' vs.length c''))) (by kernel_rfl) (HXC.out _ HB1.out.drew) (fun hHeld => ?_)
 refine wpAnyH_take (i := 0) (v := ?_) (sd (some 114) rfl) (by kernel_rfl) (by kernel_rfl) (by kernel_rfl) (fun _ _ _ h => h) (Or.inl ⟨by rfl, ?_⟩) hHeld ?_
 rotate_left
 ·intro w' hSw
  (try dsimp only at hSw)
  go_simp
  try with_reducible rfl
 try simp only [Act.put, List.setIfInBounds_toArray, List.set_cons_zero, List.set_cons_succ]
 refine wpAnyH_ready (rs := [1]) (by kernel_rfl) (by simp) ?_
 refine AllReadyH.cons (sd (some 115) rfl) (fun K hK => ?_) AllReadyH.nil
 go_simp
 refine (KPl.out _).mono ?_
 rintro e w4 ⟨rfl, hb⟩
 have HB2 := Lib.hid (HB1.out.drew.trans (hb.mono HB1.out.drew.size))
 clear hb
 go_wp2_with fail
 refine hK.out _ _ (HXC.out _ HB2.out) (fun hHeld => ?_)
 clear hK K
 try simp only [Act.put, List.setIfInBounds_toArray, List.set_cons_zero, List.set_cons_succ]
 refine wpAnyH_take (i := 2) (v := ?_) (sd (some 116) rfl) (by kernel_rfl) (by kernel_rfl) (by kernel_rfl) (fun _ _ _ h => h) (Or.inl ⟨by rfl, ?_⟩) hHeld ?_
 rotate_left
 ·intro w' hSw
  (try dsimp only at hSw)
  go_simp
  try with_reducible rfl
 try simp only [Act.put, List.setIfInBounds_toArray, List.set_cons_zero, List.set_cons_succ]
 refine Plan.start [3, 4] ?_
 iterate 2 (refine Plan.take (v := undef) (so rfl) (by kernel_rfl) (by kernel_rfl) (by kernel_rfl) (fun _ _ _ h => h) (Or.inr ⟨by rfl, rfl⟩) hHeld ?_; try simp only [Act.put, List.setIfInBounds_toArray, List.set_cons_zero, List.set_cons_succ])
 refine Plan.done ?_
 refine Plan.start [5, 6] ?_
 iterate 2 ((refine Plan.take (v := ?_) (so rfl) (by kernel_rfl) (by kernel_rfl) (by kernel_rfl) (fun _ _ _ h => h) (Or.inl ⟨by rfl, ?_⟩) hHeld ?_; rotate_left; focus (intro w' hSw; (try dsimp only at hSw); go_simp; try with_reducible rfl)); try simp only [Act.put, List.setIfInBounds_toArray, List.set_cons_zero, List.set_cons_succ])
 refine Plan.done ?_
 refine Plan.start [7, 8, 9, 10, 11, 12] ?_
 iterate 6 (refine Plan.take (v := undef) (so rfl) (by kernel_rfl) (by kernel_rfl) (by kernel_rfl) (fun _ _ _ h => h) (Or.inr ⟨by rfl, rfl⟩) hHeld ?_; try simp only [Act.put, List.setIfInBounds_toArray, List.set_cons_zero, List.set_cons_succ])
 refine Plan.done ?_
 refine Plan.start [13, 14] ?_
 iterate 2 ((refine Plan.take (v := ?_) (so rfl) (by kernel_rfl) (by kernel_rfl) (by kernel_rfl) (fun _ _ _ h => h) (Or.inl ⟨by rfl, ?_⟩) hHeld ?_; rotate_left; focus (intro w' hSw; (try dsimp only at hSw); go_simp; try with_reducible rfl)); try simp only [Act.put, List.setIfInBounds_toArray, List.set_cons_zero, List.set_cons_succ])
 refine Plan.done ?_
 refine wpAnyH_done (by kernel_rfl) ?_ _
 clear hHeld
 go_wp2_with fail
 go_ret
 exact ⟨by rw [HVal.out]; rfl, HBZ.out.trans (HB2.out.mono HBZ.out.size)⟩
set_option maxRecDepth 100000 in
set_option maxHeartbeats 64000000 in
theorem form_15n (t : ByteArray) (n : Int) (ps : List Ty) (fs : List (ByteArray × Int × Ty)) (vs : List (ByteArray × List Ty)) (hp : ∀ p ∈ ps, FormR p) (hf : ∀ f ∈ fs, FormR f.2.2) (hv : ∀ v ∈ vs, ∀ b ∈ v.2, FormR b) (hnf : fs.length = 0) (hnv : vs.length = 0) (hpa : ps.all formT = true) (ht0 : t.toList = []) (hn0 : n ≠ 0) : FormR (.mk 15 t n ps fs vs) := by
 refine form_pre 15 t n ps fs vs hp hf hv fun K w A c A' c' A'' c'' w1 h => ?_
 obtain ⟨HXC, KAll, KPl, KNm, KOb, KBi, KOv, HREP, HCN, HBZ, HB, HS1, HX0, HW1, hlp, hlf, hlv⟩ := h
 clear hp hf hv
 have HVal : Hid (formT (.mk 15 t n ps fs vs) = false) := Lib.hid (by
  rw [formT_mk, show shapeK 15 = ⟨false, false, false, false, 2, -1, true⟩ from rfl, hpa]
  unfold fitsB selfB
  simp [hnf, hnv, ht0, hn0])
 obtain ⟨f1, f2, f3, f4⟩ := no4 (m := fs.length) (n := vs.length) (by omega) (by omega)
 rw [hpa] at KAll
 have ep : (t.toList == [] && n == 0) = false := by rw [ht0]; simpa using hn0
 rw [ep] at KPl
 try clear hnf
 try clear hnv
 try clear hnp
 try clear hn0
 try clear hpa
 try clear ht0
 go_enter Tryz.func16, Tryz.ntmps16
 go_upto_region 1 with fail
 rw [← HW1.out]
 obtain ⟨x0, x1, x2, x3, x4, x5⟩ := HXC.out _ HB.out
 go_wp2_with fail
 refine (KAll.out _ HB.out).mono ?_
 rintro e w2 ⟨rfl, hb⟩
 have HB1 := Lib.hid (HB.out.trans (hb.mono HB.out.size))
 clear hb
 clear x0 x1 x2 x3 x4 x5
 obtain ⟨x0, x1, x2, x3, x4, x5⟩ := HXC.out _ HB1.out
 go_wp2_with fail
 clear x0 x1 x2 x3 x4 x5
 refine wp_region_held_drew (S := (fun w' => w'.cell? ⟨w.heap.size, 0, none⟩ = some (.int .i64 15) ∧ w'.cell? ⟨w.heap.size, 1, none⟩ = some (.string t) ∧ w'.cell? ⟨w.heap.size, 2, none⟩ = some (.int .i64 n) ∧ w'.cell? ⟨w.heap.size, 3, none⟩ = some (.slice A ps.length c) ∧ w'.cell? ⟨w.heap.size, 4, none⟩ = some (.slice A' fs.length c') ∧ w'.cell? ⟨w.heap.size, 5, none⟩ = some (.slice A'' vs.length c''))) (by kernel_rfl) (HXC.out _ HB1.out.drew) (fun hHeld => ?_)
 refine wpAnyH_take (i := 0) (v := ?_) (sd (some 114) rfl) (by kernel_rfl) (by kernel_rfl) (by kernel_rfl) (fun _ _ _ h => h) (Or.inl ⟨by rfl, ?_⟩) hHeld ?_
 rotate_left
 ·intro w' hSw
  (try dsimp only at hSw)
  go_simp
  try with_reducible rfl
 try simp only [Act.put, List.setIfInBounds_toArray, List.set_cons_zero, List.set_cons_succ]
 refine wpAnyH_ready (rs := [1]) (by kernel_rfl) (by simp) ?_
 refine AllReadyH.cons (sd (some 115) rfl) (fun K hK => ?_) AllReadyH.nil
 go_simp
 refine (KPl.out _).mono ?_
 rintro e w4 ⟨rfl, hb⟩
 have HB2 := Lib.hid (HB1.out.drew.trans (hb.mono HB1.out.drew.size))
 clear hb
 go_wp2_with fail
 refine hK.out _ _ (HXC.out _ HB2.out) (fun hHeld => ?_)
 clear hK K
 try simp only [Act.put, List.setIfInBounds_toArray, List.set_cons_zero, List.set_cons_succ]
 refine wpAnyH_take (i := 2) (v := ?_) (sd (some 116) rfl) (by kernel_rfl) (by kernel_rfl) (by kernel_rfl) (fun _ _ _ h => h) (Or.inl ⟨by rfl, ?_⟩) hHeld ?_
 rotate_left
 ·intro w' hSw
  (try dsimp only at hSw)
  go_simp
  try with_reducible rfl
 try simp only [Act.put, List.setIfInBounds_toArray, List.set_cons_zero, List.set_cons_succ]
 refine Plan.start [3, 4] ?_
 iterate 2 (refine Plan.take (v := undef) (so rfl) (by kernel_rfl) (by kernel_rfl) (by kernel_rfl) (fun _ _ _ h => h) (Or.inr ⟨by rfl, rfl⟩) hHeld ?_; try simp only [Act.put, List.setIfInBounds_toArray, List.set_cons_zero, List.set_cons_succ])
 refine Plan.done ?_
 refine Plan.start [5, 6] ?_
 iterate 2 ((refine Plan.take (v := ?_) (so rfl) (by kernel_rfl) (by kernel_rfl) (by kernel_rfl) (fun _ _ _ h => h) (Or.inl ⟨by rfl, ?_⟩) hHeld ?_; rotate_left; focus (intro w' hSw; (try dsimp only at hSw); go_simp; try with_reducible rfl)); try simp only [Act.put, List.setIfInBounds_toArray, List.set_cons_zero, List.set_cons_succ])
 refine Plan.done ?_
 refine Plan.start [7, 8, 9, 10, 11, 12] ?_
 iterate 6 (refine Plan.take (v := undef) (so rfl) (by kernel_rfl) (by kernel_rfl) (by kernel_rfl) (fun _ _ _ h => h) (Or.inr ⟨by rfl, rfl⟩) hHeld ?_; try simp only [Act.put, List.setIfInBounds_toArray, List.set_cons_zero, List.set_cons_succ])
 refine Plan.done ?_
 refine Plan.start [13, 14] ?_
 iterate 2 ((refine Plan.take (v := ?_) (so rfl) (by kernel_rfl) (by kernel_rfl) (by kernel_rfl) (fun _ _ _ h => h) (Or.inl ⟨by rfl, ?_⟩) hHeld ?_; rotate_left; focus (intro w' hSw; (try dsimp only at hSw); go_simp; try with_reducible rfl)); try simp only [Act.put, List.setIfInBounds_toArray, List.set_cons_zero, List.set_cons_succ])
 refine Plan.done ?_
 refine wpAnyH_done (by kernel_rfl) ?_ _
 clear hHeld
 go_wp2_with fail
 go_ret
 exact ⟨by rw [HVal.out]; rfl, HBZ.out.trans (HB2.out.mono HBZ.out.size)⟩
set_option maxRecDepth 100000 in
set_option maxHeartbeats 64000000 in
theorem form_15p (t : ByteArray) (n : Int) (ps : List Ty) (fs : List (ByteArray × Int × Ty)) (vs : List (ByteArray × List Ty)) (hp : ∀ p ∈ ps, FormR p) (hf : ∀ f ∈ fs, FormR f.2.2) (hv : ∀ v ∈ vs, ∀ b ∈ v.2, FormR b) (hnf : fs.length = 0) (hnv : vs.length = 0) (hpa : ps.all formT = true) (ht0 : t.toList = []) (hn0 : n = 0) (hnp : ¬ 2 ≤ ps.length) : FormR (.mk 15 t n ps fs vs) := by
 refine form_pre 15 t n ps fs vs hp hf hv fun K w A c A' c' A'' c'' w1 h => ?_
 obtain ⟨HXC, KAll, KPl, KNm, KOb, KBi, KOv, HREP, HCN, HBZ, HB, HS1, HX0, HW1, hlp, hlf, hlv⟩ := h
 clear hp hf hv
 have HVal : Hid (formT (.mk 15 t n ps fs vs) = false) := Lib.hid (by
  rw [formT_mk, show shapeK 15 = ⟨false, false, false, false, 2, -1, true⟩ from rfl, hpa]
  unfold fitsB selfB
  simp [hnf, hnv, ht0, hn0]
  omega)
 obtain ⟨f1, f2, f3, f4⟩ := no4 (m := fs.length) (n := vs.length) (by omega) (by omega)
 rw [hpa] at KAll
 have ep : (t.toList == [] && n == 0) = true := by rw [ht0, hn0]; rfl
 rw [ep] at KPl
 have p1 : decide ((2 : Int) ≤ (ps.length : Int)) = false := decide_eq_false (by omega)
 have p2 : decide (2 ≤ ps.length) = false := decide_eq_false (by omega)
 try clear hnf
 try clear hnv
 try clear hnp
 try clear hn0
 try clear hpa
 try clear ht0
 go_enter Tryz.func16, Tryz.ntmps16
 go_upto_region 1 with fail
 rw [← HW1.out]
 obtain ⟨x0, x1, x2, x3, x4, x5⟩ := HXC.out _ HB.out
 go_wp2_with fail
 refine (KAll.out _ HB.out).mono ?_
 rintro e w2 ⟨rfl, hb⟩
 have HB1 := Lib.hid (HB.out.trans (hb.mono HB.out.size))
 clear hb
 clear x0 x1 x2 x3 x4 x5
 obtain ⟨x0, x1, x2, x3, x4, x5⟩ := HXC.out _ HB1.out
 go_wp2_with fail
 clear x0 x1 x2 x3 x4 x5
 refine wp_region_held_drew (S := (fun w' => w'.cell? ⟨w.heap.size, 0, none⟩ = some (.int .i64 15) ∧ w'.cell? ⟨w.heap.size, 1, none⟩ = some (.string t) ∧ w'.cell? ⟨w.heap.size, 2, none⟩ = some (.int .i64 n) ∧ w'.cell? ⟨w.heap.size, 3, none⟩ = some (.slice A ps.length c) ∧ w'.cell? ⟨w.heap.size, 4, none⟩ = some (.slice A' fs.length c') ∧ w'.cell? ⟨w.heap.size, 5, none⟩ = some (.slice A'' vs.length c''))) (by kernel_rfl) (HXC.out _ HB1.out.drew) (fun hHeld => ?_)
 refine wpAnyH_take (i := 0) (v := ?_) (sd (some 114) rfl) (by kernel_rfl) (by kernel_rfl) (by kernel_rfl) (fun _ _ _ h => h) (Or.inl ⟨by rfl, ?_⟩) hHeld ?_
 rotate_left
 ·intro w' hSw
  (try dsimp only at hSw)
  go_simp
  try with_reducible rfl
 try simp only [Act.put, List.setIfInBounds_toArray, List.set_cons_zero, List.set_cons_succ]
 refine wpAnyH_ready (rs := [1]) (by kernel_rfl) (by simp) ?_
 refine AllReadyH.cons (sd (some 115) rfl) (fun K hK => ?_) AllReadyH.nil
 go_simp
 refine (KPl.out _).mono ?_
 rintro e w4 ⟨rfl, hb⟩
 have HB2 := Lib.hid (HB1.out.drew.trans (hb.mono HB1.out.drew.size))
 clear hb
 go_wp2_with fail
 refine hK.out _ _ (HXC.out _ HB2.out) (fun hHeld => ?_)
 clear hK K
 try simp only [Act.put, List.setIfInBounds_toArray, List.set_cons_zero, List.set_cons_succ]
 refine Plan.start [2, 3, 4, 5, 6] ?_
 iterate 5 ((refine Plan.take (v := ?_) (so rfl) (by kernel_rfl) (by kernel_rfl) (by kernel_rfl) (fun _ _ _ h => h) (Or.inl ⟨by rfl, ?_⟩) hHeld ?_; rotate_left; focus (intro w' hSw; (try dsimp only at hSw); go_simp; try with_reducible rfl)); try simp only [Act.put, List.setIfInBounds_toArray, List.set_cons_zero, List.set_cons_succ])
 refine Plan.done ?_
 refine Plan.start [7, 8, 9, 10, 11, 12] ?_
 iterate 6 (refine Plan.take (v := undef) (so rfl) (by kernel_rfl) (by kernel_rfl) (by kernel_rfl) (fun _ _ _ h => h) (Or.inr ⟨by rfl, rfl⟩) hHeld ?_; try simp only [Act.put, List.setIfInBounds_toArray, List.set_cons_zero, List.set_cons_succ])
 refine Plan.done ?_
 refine Plan.start [13, 14] ?_
 iterate 2 ((refine Plan.take (v := ?_) (so rfl) (by kernel_rfl) (by kernel_rfl) (by kernel_rfl) (fun _ _ _ h => h) (Or.inl ⟨by rfl, ?_⟩) hHeld ?_; rotate_left; focus (intro w' hSw; (try dsimp only at hSw); go_simp; try with_reducible rfl)); try simp only [Act.put, List.setIfInBounds_toArray, List.set_cons_zero, List.set_cons_succ])
 refine Plan.done ?_
 refine wpAnyH_done (by kernel_rfl) ?_ _
 clear hHeld
 go_wp2_with fail
 go_ret
 exact ⟨by rw [HVal.out]; rfl, HBZ.out.trans (HB2.out.mono HBZ.out.size)⟩
set_option maxRecDepth 100000 in
set_option maxHeartbeats 64000000 in
theorem form_15y (t : ByteArray) (n : Int) (ps : List Ty) (fs : List (ByteArray × Int × Ty)) (vs : List (ByteArray × List Ty)) (hp : ∀ p ∈ ps, FormR p) (hf : ∀ f ∈ fs, FormR f.2.2) (hv : ∀ v ∈ vs, ∀ b ∈ v.2, FormR b) (hnf : fs.length = 0) (hnv : vs.length = 0) (hpa : ps.all formT = true) (ht0 : t.toList = []) (hn0 : n = 0) (hnp : 2 ≤ ps.length) : FormR (.mk 15 t n ps fs vs) := by
 refine form_pre 15 t n ps fs vs hp hf hv fun K w A c A' c' A'' c'' w1 h => ?_
 obtain ⟨HXC, KAll, KPl, KNm, KOb, KBi, KOv, HREP, HCN, HBZ, HB, HS1, HX0, HW1, hlp, hlf, hlv⟩ := h
 clear hp hf hv
 have hform : ∀ x ∈ ps, formT x = true := List.all_eq_true.1 hpa
 have hflat := flatU_cnt ps
 have hcn' : cntL ps ≤ 1000000 := by have := HCN.out; omega
 have hrl := RepT.low _ _ HREP.out
 obtain ⟨B, d, B', d', B'', d'', he, -, hLl, -, -⟩ := hrl.inv
 have hAB : A = B ∧ c = d := by simp only [cells6T, List.cons.injEq, Value.slice.injEq] at he; exact ⟨he.2.2.2.1.1, he.2.2.2.1.2.2⟩
 obtain ⟨rfl, rfl⟩ := hAB
 have KUn := Lib.hid fun wx (hx : Below w1.heap.size w1 wx) => union_ref (hLl.later (HBZ.out.trans (hx.mono HBZ.out.size))) (fun b hb => by have := HBZ.out.size; have := hx.size; omega) (fun x hx2 => by have h1 := names_cnt x; have h2 := hflat.2 x hx2; omega) (by have := hflat.1; omega)
 rw [unionR (plain_form hpa)] at KUn
 generalize hun : unionT ps = u at KUn
 obtain ⟨k2, s2, n2, ps2, fs2, vs2⟩ := u
 have HUN : Hid (shutU (sortT (keptR ps)) = .mk k2 s2 n2 ps2 fs2 vs2) := Lib.hid (by rw [unionR (plain_form hpa), hun])
 obtain ⟨z, hz⟩ : ∃ z, ordT (.mk k2 s2 n2 ps2 fs2 vs2) (.mk 15 t n ps fs vs) = z := ⟨_, rfl⟩
 have HZ := Lib.hid hz
 have HVal : Hid (formT (.mk 15 t n ps fs vs) = (z == 0)) := Lib.hid (by
  have ht : t = emptyB := bytes_ext (by rw [ByteArray.toList_eq] at ht0; rw [ht0]; rfl)
  have hfs : fs = [] := List.eq_nil_of_length_eq_zero hnf
  have hvs : vs = [] := List.eq_nil_of_length_eq_zero hnv
  subst ht hn0 hfs hvs
  have h1 : formT (.mk 15 emptyB 0 ps [] []) = isUB ps := by
   rw [formT_mk, show shapeK 15 = ⟨false, false, false, false, 2, -1, true⟩ from rfl, hpa]
   unfold fitsB selfB
   simp [emptyL]
   omega
  rw [h1, Bool.eq_iff_iff, isUB_self hnp, hun, ← hz, beq_iff_eq]
  exact ordT_zero.symm)
 obtain ⟨f1, f2, f3, f4⟩ := no4 (m := fs.length) (n := vs.length) (by omega) (by omega)
 rw [hpa] at KAll
 have ep : (t.toList == [] && n == 0) = true := by rw [ht0, hn0]; rfl
 rw [ep] at KPl
 have p1 : decide ((2 : Int) ≤ (ps.length : Int)) = true := decide_eq_true (by omega)
 have p2 : decide (2 ≤ ps.length) = true := decide_eq_true (by omega)
 clear hform hflat hcn' hrl hLl he hun hz
 try clear hnf
 try clear hnv
 try clear hnp
 try clear hn0
 try clear hpa
 try clear ht0
 go_enter Tryz.func16, Tryz.ntmps16
 go_upto_region 1 with fail
 rw [← HW1.out]
 obtain ⟨x0, x1, x2, x3, x4, x5⟩ := HXC.out _ HB.out
 go_wp2_with fail
 refine (KAll.out _ HB.out).mono ?_
 rintro e w2 ⟨rfl, hb⟩
 have HB1 := Lib.hid (HB.out.trans (hb.mono HB.out.size))
 clear hb
 clear x0 x1 x2 x3 x4 x5
 obtain ⟨x0, x1, x2, x3, x4, x5⟩ := HXC.out _ HB1.out
 go_wp2_with fail
 clear x0 x1 x2 x3 x4 x5
 refine wp_region_held_drew (S := (fun w' => w'.cell? ⟨w.heap.size, 0, none⟩ = some (.int .i64 15) ∧ w'.cell? ⟨w.heap.size, 1, none⟩ = some (.string t) ∧ w'.cell? ⟨w.heap.size, 2, none⟩ = some (.int .i64 n) ∧ w'.cell? ⟨w.heap.size, 3, none⟩ = some (.slice A ps.length c) ∧ w'.cell? ⟨w.heap.size, 4, none⟩ = some (.slice A' fs.length c') ∧ w'.cell? ⟨w.heap.size, 5, none⟩ = some (.slice A'' vs.length c''))) (by kernel_rfl) (HXC.out _ HB1.out.drew) (fun hHeld => ?_)
 refine wpAnyH_take (i := 0) (v := ?_) (sd (some 114) rfl) (by kernel_rfl) (by kernel_rfl) (by kernel_rfl) (fun _ _ _ h => h) (Or.inl ⟨by rfl, ?_⟩) hHeld ?_
 rotate_left
 ·intro w' hSw
  (try dsimp only at hSw)
  go_simp
  try with_reducible rfl
 try simp only [Act.put, List.setIfInBounds_toArray, List.set_cons_zero, List.set_cons_succ]
 refine wpAnyH_ready (rs := [1]) (by kernel_rfl) (by simp) ?_
 refine AllReadyH.cons (sd (some 115) rfl) (fun K hK => ?_) AllReadyH.nil
 go_simp
 refine (KPl.out _).mono ?_
 rintro e w4 ⟨rfl, hb⟩
 have HB2 := Lib.hid (HB1.out.drew.trans (hb.mono HB1.out.drew.size))
 clear hb
 go_wp2_with fail
 refine hK.out _ _ (HXC.out _ HB2.out) (fun hHeld => ?_)
 clear hK K
 try simp only [Act.put, List.setIfInBounds_toArray, List.set_cons_zero, List.set_cons_succ]
 refine Plan.start [2, 3, 4, 5, 6, 7, 8, 10] ?_
 iterate 8 ((refine Plan.take (v := ?_) (so rfl) (by kernel_rfl) (by kernel_rfl) (by kernel_rfl) (fun _ _ _ h => h) (Or.inl ⟨by rfl, ?_⟩) hHeld ?_; rotate_left; focus (intro w' hSw; (try dsimp only at hSw); go_simp; try with_reducible rfl)); try simp only [Act.put, List.setIfInBounds_toArray, List.set_cons_zero, List.set_cons_succ])
 refine Plan.done ?_
 refine wpAnyH_ready (rs := [9]) (by kernel_rfl) (by simp) ?_
 refine AllReadyH.cons (sd (some 123) rfl) (fun K hK => ?_) AllReadyH.nil
 go_simp
 refine (KUn.out _ HB2.out).mono ?_
 rintro e w5 ⟨rs, rfl, hr5, hb⟩
 have HB3 := Lib.hid (HB2.out.trans (hb.mono HB2.out.size))
 have HRS := Lib.hid hr5
 clear hb hr5
 obtain ⟨Aq, cq, Ag, cg, Ah, ch, rfl, -⟩ := HRS.out.inv
 simp only [cells6T] at HRS ⊢
 have KOrd := Lib.hid fun wx (hx : Below w5.heap.size w5 wx) => order_ref (.mk k2 s2 n2 ps2 fs2 vs2) _ _ (.mk 15 t n ps fs vs) wx _ _ (HRS.out.later hx) (HREP.out.later (HBZ.out.trans ((HB3.out.trans (hx.mono HB3.out.size)).mono HBZ.out.size)))
 try simp only [cells6T] at KOrd
 rw [HZ.out] at KOrd
 go_wp2_with fail
 refine hK.out _ _ (HXC.out _ HB3.out) (fun hHeld => ?_)
 clear hK K
 try simp only [Act.put, List.setIfInBounds_toArray, List.set_cons_zero, List.set_cons_succ]
 refine wpAnyH_ready (rs := [11]) (by kernel_rfl) (by simp) ?_
 refine AllReadyH.cons (sd (some 125) rfl) (fun K hK => ?_) AllReadyH.nil
 go_simp
 refine (KOrd.out _ (Below.refl _ _)).mono ?_
 rintro e w6 ⟨rfl, hgw⟩
 have HB4 := Lib.hid (HB3.out.trans (hgw.below.mono HB3.out.size))
 clear hgw
 go_wp2_with fail
 refine hK.out _ _ (HXC.out _ HB4.out) (fun hHeld => ?_)
 clear hK K
 try simp only [Act.put, List.setIfInBounds_toArray, List.set_cons_zero, List.set_cons_succ]
 refine Plan.start [12, 13, 14] ?_
 iterate 3 ((refine Plan.take (v := ?_) (so rfl) (by kernel_rfl) (by kernel_rfl) (by kernel_rfl) (fun _ _ _ h => h) (Or.inl ⟨by rfl, ?_⟩) hHeld ?_; rotate_left; focus (intro w' hSw; (try dsimp only at hSw); go_simp; try with_reducible rfl)); try simp only [Act.put, List.setIfInBounds_toArray, List.set_cons_zero, List.set_cons_succ])
 refine Plan.done ?_
 refine wpAnyH_done (by kernel_rfl) ?_ _
 clear hHeld
 go_wp2_with fail
 go_ret
 exact ⟨by rw [HVal.out]; rfl, HBZ.out.trans (HB4.out.mono HBZ.out.size)⟩
def AtP (t k : Ty) : Prop := ∀ (K : Nat → Prop) (w : World) (cs ds : List Value), RepT K w t cs → RepT K w k ds → (∀ b, K b → b < w.heap.size) → formT t = true → formT k = true → cntT t ≤ 5000 → cntT k ≤ 5000 →
 Calls Tryz.prog 22 #[.agg cs.toArray, .agg ds.toArray] w (TyPost K w (atT t k))
theorem flat_len (l : List Ty) : (flatU l).length ≤ cntL l := (flatU_cnt l).1
theorem cnt_num {a b c : Nat} (h : c ≤ 2 * a * b) (ha : a ≤ 5000) (hb : b ≤ 5000) : c ≤ 50000000 := by
 have h1 : 2 * a ≤ 10000 := by omega
 have h2 : 2 * a * b ≤ 10000 * 5000 := Nat.mul_le_mul h1 hb
 omega
theorem at_step (t k : Ty) (h1 : ∀ p ∈ k.ps, AtP t p) (h2 : ∀ p ∈ t.ps, AtP p k) : AtP t k := by
 intro K w cs ds hr hp hlo ht hk hct hck
 have hpsk := form_ps hk
 have hpst := form_ps ht
 have hcp := cnt_ps k
 have hct2 := cnt_ps t
 have hL1 : cntL (k.ps.map (atT t)) ≤ 50000000 := by
  have h := cntL_map_le (g := atT t) (c := 2 * cntT t) (l := k.ps) fun p _ => cnt_at t p
  exact cnt_num h hct (by omega)
 have hL2 : cntL (t.ps.map fun p => atT p k) ≤ 50000000 := by
  have h := cntL_map_le (g := fun p => atT p k) (c := 2 * cntT k) (l := t.ps) fun p _ => by
   have := cnt_at p k
   rw [Nat.mul_right_comm] at this; exact this
  exact cnt_num h hck (by omega)
 have hl1 := Nat.le_trans (flat_len (k.ps.map (atT t))) hL1
 have hl2 := Nat.le_trans (flat_len (t.ps.map fun p => atT p k)) hL2
 have hl3 := flat_len (tyK 4 :: t.ps)
 rw [cntL_cons, cnt_kind] at hl3
 have len : ∀ l : List Ty, l.length ≤ cntL l := fun l => by
  induction l with
  | nil => simp
  | cons a l ih => rw [cntL_cons, List.length_cons]; have := cntT_pos a; omega
 have hn1 := len k.ps
 have hn2 := len t.ps
 have hAt := atT_eq t k
 have KA1 : ∀ p ∈ k.ps, ∀ wx dx, Below w.heap.size w wx → RepT K wx p dx → Calls Tryz.prog 22 #[.agg cs.toArray, .agg dx.toArray] wx (TyPost K wx (atT t p)) := fun p hpm wx dx hx hd =>
  h1 p hpm K wx cs dx (hr.later hx) hd (fun b h => Nat.lt_of_lt_of_le (hlo b h) hx.size) ht (hpsk p hpm) hct (by have := cntL_mem hpm; omega)
 have KA2 : ∀ p ∈ t.ps, ∀ wx dx, Below w.heap.size w wx → RepT K wx p dx → Calls Tryz.prog 22 #[.agg dx.toArray, .agg ds.toArray] wx (TyPost K wx (atT p k)) := fun p hpm wx dx hx hd =>
  h2 p hpm K wx dx ds hd (hp.later hx) (fun b h => Nat.lt_of_lt_of_le (hlo b h) hx.size) (hpst p hpm) hk (by have := cntL_mem hpm; omega) hck
 obtain ⟨kt, s, n, ps, fs, vs⟩ := t
 obtain ⟨kk, s3, n3, ps3, fs3, vs3⟩ := k
 have e1 : Ty.ps (.mk kt s n ps fs vs) = ps := rfl
 have e2 : Ty.ps (.mk kk s3 n3 ps3 fs3 vs3) = ps3 := rfl
 have e3 : Ty.k (.mk kt s n ps fs vs) = kt := rfl
 have e4 : Ty.k (.mk kk s3 n3 ps3 fs3 vs3) = kk := rfl
 have e5 : Ty.fs (.mk kt s n ps fs vs) = fs := rfl
 have e6 : Ty.t (.mk kk s3 n3 ps3 fs3 vs3) = s3 := rfl
 have e7 : Ty.n (.mk kk s3 n3 ps3 fs3 vs3) = n3 := rfl
 rw [e1] at hl2 hl3 hn2 KA2 hct2
 rw [e2] at hl1 hn1 KA1 hcp
 rw [e1, e2, e3, e4, e5, e6] at hAt
 rw [hAt]
 by_cases c1 : kk = 1
 ·subst c1; rw [if_pos rfl]
  exact at_c1 union_p kt s n ps fs vs s3 n3 ps3 fs3 vs3 hr hp hlo
 rw [if_neg c1]
 by_cases c2 : kt = 3
 ·subst c2; rw [if_pos (.inl rfl)]
  exact at_c2 union_p s n ps fs vs kk s3 n3 ps3 fs3 vs3 hr hp hlo c1
 by_cases c3 : kt = 1
 ·subst c3; rw [if_pos (.inr rfl)]
  exact at_c3 union_p s n ps fs vs kk s3 n3 ps3 fs3 vs3 hr hp hlo c1
 rw [if_neg (by omega)]
 by_cases c4 : kk = 15
 ·subst c4; rw [if_pos rfl]
  exact at_c4 union_p kt s n ps fs vs s3 n3 ps3 fs3 vs3 hr hp hlo c2 c3 KA1 (by omega) (by omega)
 rw [if_neg c4]
 by_cases c5 : kt = 15
 ·subst c5; rw [if_pos rfl]
  exact at_c5 union_p s n ps fs vs kk s3 n3 ps3 fs3 vs3 hr hp hlo c1 c4 KA2 (by omega) (by omega)
 rw [if_neg c5]
 have hrow : ∀ u, rowT (.mk kt s n ps fs vs) (.mk kk s3 n3 ps3 fs3 vs3) = u → (¬ (kt = 14 ∧ kk = 10)) → (if kt = 14 ∧ kk = 10 then fieldT fs s3 else rowT (.mk kt s n ps fs vs) (.mk kk s3 n3 ps3 fs3 vs3)) = u := fun u h1 h2 => by rw [if_neg h2]; exact h1
 by_cases c6 : kt = 14
 ·subst c6
  by_cases c7 : kk = 10
  ·subst c7; rw [if_pos ⟨rfl, rfl⟩]
   exact at_c6 union_p s n ps fs vs s3 n3 ps3 fs3 vs3 hr hp hlo ht (by omega)
  ·rw [hrow (tyK 2) (by unfold rowT; rw [e3, e4, if_neg (by omega), if_neg (by omega), if_neg (by omega)]) (by omega)]
   exact at_u1 union_p s n ps fs vs kk s3 n3 ps3 fs3 vs3 hr hp hlo c1 c4 c7
 by_cases c8 : kt = 11
 ·subst c8
  by_cases c9 : kk = 7
  ·subst c9
   rw [hrow (unionT (tyK 4 :: ps)) (by unfold rowT; rw [e3, e4, e1, if_pos ⟨rfl, .inl rfl⟩]) (by omega)]
   exact at_n0 union_p s n ps fs vs s3 n3 ps3 fs3 vs3 hr hp hlo (by omega) (by omega)
  ·by_cases c10 : kk = 9
   ·subst c10
    rw [hrow (unionT (tyK 4 :: ps)) (by unfold rowT; rw [e3, e4, e1, if_pos ⟨rfl, .inr rfl⟩]) (by omega)]
    exact at_n1 union_p s n ps fs vs s3 n3 ps3 fs3 vs3 hr hp hlo (by omega) (by omega)
   ·rw [hrow (tyK 2) (by unfold rowT; rw [e3, e4, if_neg (by omega), if_neg (by omega), if_neg (by omega)]) (by omega)]
    exact at_u2 union_p s n ps fs vs kk s3 n3 ps3 fs3 vs3 hr hp hlo c1 c4 c9 c10
 by_cases c11 : kt = 12
 ·subst c11
  by_cases c9 : kk = 7
  ·subst c9
   rw [hrow (unionT (tyK 4 :: ps)) (by unfold rowT; rw [e3, e4, e1, if_neg (by omega), if_neg (by omega), if_pos ⟨rfl, rfl⟩]) (by omega)]
   exact at_n2 union_p s n ps fs vs s3 n3 ps3 fs3 vs3 hr hp hlo (by omega) (by omega)
  ·by_cases c10 : kk = 9
   ·subst c10
    have hn0 : 0 ≤ n3 := by
     have := form_self hk
     unfold selfB at this
     simpa using this
    obtain ⟨m, rfl⟩ := Int.eq_ofNat_of_zero_le hn0
    by_cases hm : m < ps.length
    ·rw [hrow ps[m] (by unfold rowT; rw [e3, e4, e1, e7, if_neg (by omega), if_pos ⟨rfl, rfl⟩, if_neg (by omega), Int.toNat_natCast, List.getElem?_eq_getElem hm]; rfl) (by omega)]
     exact at_i1 union_p s n ps fs vs s3 m ps3 fs3 vs3 hr hp hlo hm
    ·rw [hrow (tyK 4) (by unfold rowT; rw [e3, e4, e1, e7, if_neg (by omega), if_pos ⟨rfl, rfl⟩, if_neg (by omega), Int.toNat_natCast, List.getElem?_eq_none (by omega)]; rfl) (by omega)]
     exact at_i0 union_p s n ps fs vs s3 m ps3 fs3 vs3 hr hp hlo (by omega)
   ·rw [hrow (tyK 2) (by unfold rowT; rw [e3, e4, if_neg (by omega), if_neg (by omega), if_neg (by omega)]) (by omega)]
    exact at_u3 union_p s n ps fs vs kk s3 n3 ps3 fs3 vs3 hr hp hlo c1 c4 c9 c10
 ·rw [hrow (tyK 2) (by unfold rowT; rw [e3, e4, if_neg (by omega), if_neg (by omega), if_neg (by omega)]) (by omega)]
  exact at_u0 union_p kt s n ps fs vs kk s3 n3 ps3 fs3 vs3 hr hp hlo c1 c4 c2 c3 c5 c6 c8 c11
theorem at_any (t k : Ty) : AtP t k := two_ind (C := AtP) (fun t k h1 h2 => at_step t k h1 h2) t k
end Go.Proofs.YtllhfnpchplibaaGreatDoor
