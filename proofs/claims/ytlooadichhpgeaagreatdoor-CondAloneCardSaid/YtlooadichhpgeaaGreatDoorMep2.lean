import Derived.Test.YtlooadichhpgeaaGreatDoorMep1
namespace Go.Proofs.YtlooadichhpgeaaGreatDoor
open Go.RowKit
open Classical in
noncomputable def tyMK (V : Value) : MK Tryz.prog Bool where
 T := 60
 S := 9
 E := 26
 val := fun b => if b then V else .agg #[.int .i64 0, .string ⟨#[]⟩, .int .i64 0, .slice none 0 0, .slice none 0 0, .slice none 0 0]
 dat := fun b => if b ∧ V ≠ .agg #[.int .i64 0, .string ⟨#[]⟩, .int .i64 0, .slice none 0 0, .slice none 0 0, .slice none 0 0] then .agg [] else .nil
 zero := false
 R := fun v => if v = .agg #[.int .i64 0, .string ⟨#[]⟩, .int .i64 0, .slice none 0 0, .slice none 0 0, .slice none 0 0] then some (.nil, []) else if v = V then some (.agg [], []) else none
 hR := fun b => by
  cases b
  ·simp
  ·by_cases h : V = .agg #[.int .i64 0, .string ⟨#[]⟩, .int .i64 0, .slice none 0 0, .slice none 0 0, .slice none 0 0]
   ·simp [h]
   ·simp [h]
 inv := by
  intro v b ps h
  by_cases hz : v = .agg #[.int .i64 0, .string ⟨#[]⟩, .int .i64 0, .slice none 0 0, .slice none 0 0, .slice none 0 0]
  ·rw [if_pos hz] at h
   cases b
   ·simp [hz]
   ·by_cases hV : V = .agg #[.int .i64 0, .string ⟨#[]⟩, .int .i64 0, .slice none 0 0, .slice none 0 0, .slice none 0 0]
    ·simp [hz, hV]
    ·simp [hV] at h
  ·rw [if_neg hz] at h
   by_cases hv : v = V
   ·rw [if_pos hv] at h
    cases b
    ·simp at h
    ·simp [hv]
   ·rw [if_neg hv] at h; cases h
 hS := Tryz.underlying9
 hT := Tryz.underlying60
 hz := Tryz.zeroValue26
theorem cells_eq {w : World} {b : Nat} {cs ds : List Value} (h : ∀ j u, cs[j]? = some u → w.cell? ⟨b, 0 + j, none⟩ = some u) (hl : cs.length = ds.length) (h' : ∀ j u, ds[j]? = some u → w.cell? ⟨b, 0 + j, none⟩ = some u) : cs = ds := by
 refine List.ext_getElem hl fun j h1 h2 => ?_
 have e1 := h j _ (List.getElem?_eq_getElem h1)
 have e2 := h' j _ (List.getElem?_eq_getElem h2)
 rw [e1] at e2
 injection e2
set_option maxRecDepth 100000 in
set_option maxHeartbeats 32000000 in
theorem cfill_one {K K' : Nat → Prop} {w : World} {p t : Ty} {ds cs : List Value} {f c0 : Nat} {nm : ByteArray} (hr : RepT K w p ds) (ht : RepT K' w t cs) (hc : ∀ j u, (Value.string nm :: cs)[j]? = some u → w.cell? ⟨f, j, none⟩ = some u) (hfp : formedT p = true) (hft : formedT t = true) (hno : infT p = false) (hcp : cntT p ≤ 4096) (hnm : nm.size ≤ maxLen) :
  Calls Tryz.prog 15 #[.agg ds.toArray, .slice (some ⟨f, 0, none⟩) 1 c0] w fun e w' => e = .returned (.tuple #[.agg ds.toArray, .int .i64 0]) ∧ Below w.heap.size w w' := by
 have kf1 := fun (wx : World) (hx : Below w.heap.size w wx) => Formed_any (hr.later hx)
 have kf2 := fun (wx : World) (hx : Below w.heap.size w wx) => Formed_any (ht.later hx)
 rw [hfp] at kf1
 rw [hft] at kf2
 obtain ⟨k, s, n, ps, fs, vs⟩ := p
 obtain ⟨k3, s3, n3, ps3, fs3, vs3⟩ := t
 obtain ⟨A, c, B, d, C, e0, rfl, -⟩ := hr.inv
 obtain ⟨A3, c3, B3, d3, C3, e3, rfl, -⟩ := ht.inv
 simp only [cells6T] at hr ht hc kf1 kf2 ⊢
 obtain ⟨wa, hwa⟩ : ∃ x, x = w.alloc (.cells #[.int .i64 k, .string s, .int .i64 n, .slice A ps.length c, .slice B fs.length d, .slice C vs.length e0] 26) := ⟨_, rfl⟩
 obtain ⟨wb, hwb⟩ : ∃ x, x = wa.alloc (.cells #[.int .i64 0, .string ⟨#[]⟩, .int .i64 0, .slice none 0 0, .slice none 0 0, .slice none 0 0] 26) := ⟨_, rfl⟩
 have hba : Below w.heap.size w wa := by rw [hwa]; exact (Below.refl _ _).alloc (Nat.le_refl _) _
 have hbb : Below wa.heap.size wa wb := by rw [hwb]; exact (Below.refl _ _).alloc (Nat.le_refl _) _
 have hsa : wa.heap.size = w.heap.size + 1 := by rw [hwa]; simp
 have hsb : wb.heap.size = w.heap.size + 2 := by rw [hwb]; simp [hsa]
 have hxa : wb.heap[w.heap.size]? = some (.cells #[.int .i64 k, .string s, .int .i64 n, .slice A ps.length c, .slice B fs.length d, .slice C vs.length e0] 26 (0, 0)) := box_up hbb (by omega) (by rw [hwa]; exact heap_alloc_new w _)
 have hxb : wb.heap[w.heap.size + 1]? = some (.cells #[.int .i64 0, .string ⟨#[]⟩, .int .i64 0, .slice none 0 0, .slice none 0 0, .slice none 0 0] 26 (0, 0)) := by
  have h := heap_alloc_new wa (.cells #[.int .i64 0, .string ⟨#[]⟩, .int .i64 0, .slice none 0 0, .slice none 0 0, .slice none 0 0] 26)
  rw [hsa] at h
  rw [hwb]
  exact h
 have hatp : AtT (fun b => b < w.heap.size) wb (.mk k s n ps fs vs) w.heap.size 0 := (AtT.later (by rw [hwa]; exact AtT.box 26 (RepT.low _ _ hr)) hbb)
 have HKF1 := Lib.hid kf1
 have HKF2 := Lib.hid kf2
 have HBb := Lib.hid (hba.trans (hbb.mono hba.size))
 have HXA := Lib.hid hxa
 have HXB := Lib.hid hxb
 have HSB := Lib.hid hsb
 have HAT := Lib.hid hatp
 have HC := Lib.hid hc
 have HWA := Lib.hid hwa
 have HWB := Lib.hid hwb
 have HNO := Lib.hid hno
 have HCP := Lib.hid hcp
 have HNM := Lib.hid hnm
 have HLF : Hid (f < w.heap.size) := Lib.hid (World.block_lt_of_cell? _ _ (hc 0 _ rfl))
 obtain ⟨x0, x1, x2, x3, x4, x5⟩ : wb.cell? ⟨w.heap.size, 0, none⟩ = some (.int .i64 k) ∧ wb.cell? ⟨w.heap.size, 1, none⟩ = some (.string s) ∧ wb.cell? ⟨w.heap.size, 2, none⟩ = some (.int .i64 n) ∧ wb.cell? ⟨w.heap.size, 3, none⟩ = some (.slice A ps.length c) ∧ wb.cell? ⟨w.heap.size, 4, none⟩ = some (.slice B fs.length d) ∧ wb.cell? ⟨w.heap.size, 5, none⟩ = some (.slice C vs.length e0) := ⟨Lib.cell_of_heap hxa 0, Lib.cell_of_heap hxa 1, Lib.cell_of_heap hxa 2, Lib.cell_of_heap hxa 3, Lib.cell_of_heap hxa 4, Lib.cell_of_heap hxa 5⟩
 clear kf1 kf2 hr ht hfp hft hno hcp hnm hc hba hbb hsa hsb hxa hxb hatp hwa hwb
 go_enter Tryz.func15, Tryz.ntmps15
 go_upto_region 1 with fail
 rw [← HWA.out, ← HWB.out]
 clear HWA HWB
 go_wp2_with fail
 refine (HKF1.out _ HBb.out).mono ?_
 rintro e w1 ⟨rfl, hb1⟩
 have HB1 := Lib.hid hb1
 have HBw1 := Lib.hid (HBb.out.trans (hb1.mono HBb.out.size))
 clear hb1 x0 x1 x2 x3 x4 x5 HKF1
 obtain ⟨m, hm⟩ : ∃ m, m = w1.heap.size := ⟨_, rfl⟩
 obtain ⟨wd, hwd⟩ : ∃ x, x = w1.alloc (.map #[] 0) := ⟨_, rfl⟩
 obtain ⟨we, hwe⟩ : ∃ x, x = wd.alloc (.cells #[.map (some m), .int .i64 0] 62) := ⟨_, rfl⟩
 have hbd : Below w1.heap.size w1 wd := by rw [hwd]; exact (Below.refl _ _).alloc (Nat.le_refl _) _
 have hbe : Below wd.heap.size wd we := by rw [hwe]; exact (Below.refl _ _).alloc (Nat.le_refl _) _
 have hsd : wd.heap.size = m + 1 := by rw [hwd, hm]; simp
 have hxg : we.heap[m + 1]? = some (.cells #[.map (some m), .int .i64 0] 62 (0, 0)) := by
  have h := heap_alloc_new wd (.cells #[.map (some m), .int .i64 0] 62)
  rw [hsd] at h
  rw [hwe]
  exact h
 have hmap : MapIs (tyMK (.agg #[.int .i64 k3, .string s3, .int .i64 n3, .slice A3 ps3.length c3, .slice B3 fs3.length d3, .slice C3 vs3.length e3])) we m 0 (fun _ => none) := (by rw [hwd, hm]; exact MapIs.new _ w1 : MapIs (tyMK (.agg #[.int .i64 k3, .string s3, .int .i64 n3, .slice A3 ps3.length c3, .slice B3 fs3.length d3, .slice C3 vs3.length e3])) wd m 0 (fun _ => none)).later hbe
 have HM := Lib.hid hm
 have HMAP := Lib.hid hmap
 have HXG := Lib.hid hxg
 have HB1E := Lib.hid (hbd.trans (hbe.mono hbd.size))
 have HBbE := Lib.hid (HB1.out.trans (HB1E.out.mono HB1.out.size))
 have HBwE := Lib.hid (HBb.out.trans (HBbE.out.mono HBb.out.size))
 have HWD := Lib.hid hwd
 have HWE := Lib.hid hwe
 have HMW : Hid (w.heap.size + 2 ≤ m) := Lib.hid (by have h1 := HSB.out; have h2 := HB1.out.size; omega)
 clear hwd hwe hbd hbe hsd hxg hmap hm
 have hmm := @run_makeMap Tryz.prog
 go_upto_region 4 with fail
 clear hmm
 rw [← HWD.out, ← HM.out, ← HWE.out]
 clear HWD HWE
 have HN7 : Hid (∀ wx, Below we.heap.size we wx → wx.cell? ⟨f, 0, none⟩ = some (.string nm) ∧ wx.cell? ⟨f, 1, none⟩ = some (.int .i64 k3) ∧ wx.cell? ⟨f, 2, none⟩ = some (.string s3) ∧ wx.cell? ⟨f, 3, none⟩ = some (.int .i64 n3) ∧ wx.cell? ⟨f, 4, none⟩ = some (.slice A3 ps3.length c3) ∧ wx.cell? ⟨f, 5, none⟩ = some (.slice B3 fs3.length d3) ∧ wx.cell? ⟨f, 6, none⟩ = some (.slice C3 vs3.length e3)) := Lib.hid fun wx hx => ⟨cell_stays (HBwE.out.trans (hx.mono HBwE.out.size)) (HC.out 0 _ rfl), cell_stays (HBwE.out.trans (hx.mono HBwE.out.size)) (HC.out 1 _ rfl), cell_stays (HBwE.out.trans (hx.mono HBwE.out.size)) (HC.out 2 _ rfl), cell_stays (HBwE.out.trans (hx.mono HBwE.out.size)) (HC.out 3 _ rfl), cell_stays (HBwE.out.trans (hx.mono HBwE.out.size)) (HC.out 4 _ rfl), cell_stays (HBwE.out.trans (hx.mono HBwE.out.size)) (HC.out 5 _ rfl), cell_stays (HBwE.out.trans (hx.mono HBwE.out.size)) (HC.out 6 _ rfl)⟩
 go_wp2_with fail
 go_loopw [21] (fun v wr => (v = .int .i64 0 ∧ wr = we) ∨ (v = .int .i64 1 ∧ ButG (fun x => x = m) we wr)) (fun v _ => 1 - (intOf v).toNat)
 case atStart => exact .inl ⟨rfl, rfl⟩
 case round =>
  rcases hrel with ⟨rfl, rfl⟩ | ⟨rfl, hb⟩
  ·obtain ⟨q0, q1, q2, q3, q4, q5, q6⟩ := HN7.out _ (Below.refl _ _)
   obtain ⟨w2, hw2⟩ : ∃ x, x = wr.alloc (.cells #[.string nm, .int .i64 k3, .string s3, .int .i64 n3, .slice A3 ps3.length c3, .slice B3 fs3.length d3, .slice C3 vs3.length e3] 37) := ⟨_, rfl⟩
   have hb2 : Below wr.heap.size wr w2 := by rw [hw2]; exact (Below.refl _ _).alloc (Nat.le_refl _) _
   have hx2 : w2.heap[wr.heap.size]? = some (.cells #[.string nm, .int .i64 k3, .string s3, .int .i64 n3, .slice A3 ps3.length c3, .slice B3 fs3.length d3, .slice C3 vs3.length e3] 37 (0, 0)) := by rw [hw2]; exact heap_alloc_new wr _
   have HBE2 := Lib.hid hb2
   have HX2 := Lib.hid hx2
   have HW2 := Lib.hid hw2
   obtain ⟨z0, z1, z2, z3, z4, z5, z6⟩ : w2.cell? ⟨wr.heap.size, 0, none⟩ = some (.string nm) ∧ w2.cell? ⟨wr.heap.size, 1, none⟩ = some (.int .i64 k3) ∧ w2.cell? ⟨wr.heap.size, 2, none⟩ = some (.string s3) ∧ w2.cell? ⟨wr.heap.size, 3, none⟩ = some (.int .i64 n3) ∧ w2.cell? ⟨wr.heap.size, 4, none⟩ = some (.slice A3 ps3.length c3) ∧ w2.cell? ⟨wr.heap.size, 5, none⟩ = some (.slice B3 fs3.length d3) ∧ w2.cell? ⟨wr.heap.size, 6, none⟩ = some (.slice C3 vs3.length e3) := ⟨Lib.cell_of_heap hx2 0, Lib.cell_of_heap hx2 1, Lib.cell_of_heap hx2 2, Lib.cell_of_heap hx2 3, Lib.cell_of_heap hx2 4, Lib.cell_of_heap hx2 5, Lib.cell_of_heap hx2 6⟩
   clear hb2 hx2 hw2
   go_upto_region 7 with fail
   rw [← HW2.out]
   clear HW2 q0 q1 q2 q3 q4 q5 q6
   go_wp2_with fail
   refine (HKF2.out _ (HBwE.out.trans (HBE2.out.mono HBwE.out.size))).mono ?_
   rintro e w3 ⟨rfl, hb3⟩
   have HB23 := Lib.hid hb3
   have HBE3 := Lib.hid (HBE2.out.trans (hb3.mono HBE2.out.size))
   clear hb3 z0 z1 z2 z3 z4 z5 z6
   have hg3 := box_up HBE3.out (Array.getElem?_eq_some_iff.1 HXG.out).1 HXG.out
   have hx3 := box_up HB23.out (Array.getElem?_eq_some_iff.1 HX2.out).1 HX2.out
   have HG3 := Lib.hid hg3
   have HX3 := Lib.hid hx3
   have HS9 : Hid (∀ wx, Below w3.heap.size w3 wx → (wx.cell? ⟨m + 1, 0, none⟩ = some (.map (some m))) ∧ (wx.cell? ⟨wr.heap.size, 0, none⟩ = some (.string nm) ∧ wx.cell? ⟨wr.heap.size, 1, none⟩ = some (.int .i64 k3) ∧ wx.cell? ⟨wr.heap.size, 2, none⟩ = some (.string s3) ∧ wx.cell? ⟨wr.heap.size, 3, none⟩ = some (.int .i64 n3) ∧ wx.cell? ⟨wr.heap.size, 4, none⟩ = some (.slice A3 ps3.length c3) ∧ wx.cell? ⟨wr.heap.size, 5, none⟩ = some (.slice B3 fs3.length d3) ∧ wx.cell? ⟨wr.heap.size, 6, none⟩ = some (.slice C3 vs3.length e3))) := Lib.hid fun wx hx => by
    have h1 := box_up hx (Array.getElem?_eq_some_iff.1 HG3.out).1 HG3.out
    have h2 := box_up hx (Array.getElem?_eq_some_iff.1 HX3.out).1 HX3.out
    exact ⟨Lib.cell_of_heap h1 0, Lib.cell_of_heap h2 0, Lib.cell_of_heap h2 1, Lib.cell_of_heap h2 2, Lib.cell_of_heap h2 3, Lib.cell_of_heap h2 4, Lib.cell_of_heap h2 5, Lib.cell_of_heap h2 6⟩
   have HB30 := Lib.hid (Below.refl w3.heap.size w3).drew
   clear hg3 hx3
   go_upto_region 9 with fail
   have HMLT : Hid (m + 1 < wr.heap.size) := Lib.hid (Array.getElem?_eq_some_iff.1 HXG.out).1
   refine wp_region_held_drew (S := (fun w' => (w'.cell? ⟨m + 1, 0, none⟩ = some (.map (some m))) ∧ (w'.cell? ⟨wr.heap.size, 0, none⟩ = some (.string nm) ∧ w'.cell? ⟨wr.heap.size, 1, none⟩ = some (.int .i64 k3) ∧ w'.cell? ⟨wr.heap.size, 2, none⟩ = some (.string s3) ∧ w'.cell? ⟨wr.heap.size, 3, none⟩ = some (.int .i64 n3) ∧ w'.cell? ⟨wr.heap.size, 4, none⟩ = some (.slice A3 ps3.length c3) ∧ w'.cell? ⟨wr.heap.size, 5, none⟩ = some (.slice B3 fs3.length d3) ∧ w'.cell? ⟨wr.heap.size, 6, none⟩ = some (.slice C3 vs3.length e3)))) (by kernel_rfl) (HS9.out _ HB30.out) (fun hHeld => ?_)
   refine Plan.start [0, 1, 2, 3, 4, 5] ?_
   iterate 6 ((refine Plan.take (v := ?_) (so rfl) (by kernel_rfl) (by kernel_rfl) (by kernel_rfl) (fun _ _ _ h => h) (Or.inl ⟨by rfl, ?_⟩) hHeld ?_; rotate_left; focus (intro w' hSw; (try dsimp only at hSw); go_simp; try with_reducible rfl)); try simp only [Act.put, List.setIfInBounds_toArray, List.set_cons_zero, List.set_cons_succ])
   refine Plan.done ?_
   refine wpAnyH_ready (rs := [6, 10]) (by kernel_rfl) (by simp) ?_
   refine AllReadyH.cons (sd (some 37) rfl) (fun Kx hK => ?_) (AllReadyH.cons (sd (some 9) rfl) (fun Kx hK => ?_) AllReadyH.nil)
   ·go_simp
    have lk : (Instr.lookup 60 (.map (some m)) (.string nm) true).run Tryz.prog w3.drew = .ok (.tuple #[.agg #[.int .i64 0, .string ⟨#[]⟩, .int .i64 0, .slice none 0 0, .slice none 0 0, .slice none 0 0], .bool false]) w3.drew := (HMAP.out.later HBE3.out.drew).look2 nm HNM.out
    go_simp
    clear lk
    refine hK.out _ _ (HS9.out _ HB30.out) (fun hHeld => ?_)
    clear hK Kx
    try simp only [Act.put, List.setIfInBounds_toArray, List.set_cons_zero, List.set_cons_succ]
    refine Plan.start [7, 8, 9] ?_
    iterate 3 ((refine Plan.take (v := ?_) (so rfl) (by kernel_rfl) (by kernel_rfl) (by kernel_rfl) (fun _ _ _ h => h) (Or.inl ⟨by rfl, ?_⟩) hHeld ?_; rotate_left; focus (intro w' hSw; (try dsimp only at hSw); go_simp; try with_reducible rfl)); try simp only [Act.put, List.setIfInBounds_toArray, List.set_cons_zero, List.set_cons_succ])
    refine Plan.done ?_
    refine wpAnyH_ready (rs := [10]) (by kernel_rfl) (by simp) ?_
    refine AllReadyH.cons (sd (some 9) rfl) (fun Kx hK => ?_) AllReadyH.nil
    go_simp
    generalize hW : (w3.alloc (.cells #[.int .i64 0, .string ⟨#[]⟩, .int .i64 0, .slice none 0 0, .slice none 0 0, .slice none 0 0] 26)).drew = w4
    have hb : Below w3.heap.size w3 w4 := by rw [← hW]; exact ((Below.refl _ _).alloc (Nat.le_refl _) _).drew
    have rs : w4.heap[w3.heap.size]? = some (.cells #[.int .i64 0, .string ⟨#[]⟩, .int .i64 0, .slice none 0 0, .slice none 0 0, .slice none 0 0] 26 (0, 0)) := by rw [← hW]; exact heap_alloc_new w3 _
    have HB34 := Lib.hid hb
    have HBE4 := Lib.hid (HBE3.out.trans (hb.mono HBE3.out.size))
    have HX4 := Lib.hid rs
    clear hW hb rs
    refine hK.out _ _ (HS9.out _ HB34.out) (fun hHeld => ?_)
    clear hK Kx
    try simp only [Act.put, List.setIfInBounds_toArray, List.set_cons_zero, List.set_cons_succ]
    refine wpAnyH_ready (rs := [11]) (by kernel_rfl) (by simp) ?_
    refine AllReadyH.cons (sd none rfl) (fun Kx hK => ?_) AllReadyH.nil
    go_simp
    have qq0 := Lib.cell_of_heap HX4.out 0
    have zz0 := Lib.frozen_of_heap HX4.out 0
    have qq1 := Lib.cell_of_heap HX4.out 1
    have zz1 := Lib.frozen_of_heap HX4.out 1
    have qq2 := Lib.cell_of_heap HX4.out 2
    have zz2 := Lib.frozen_of_heap HX4.out 2
    have qq3 := Lib.cell_of_heap HX4.out 3
    have zz3 := Lib.frozen_of_heap HX4.out 3
    have qq4 := Lib.cell_of_heap HX4.out 4
    have zz4 := Lib.frozen_of_heap HX4.out 4
    have qq5 := Lib.cell_of_heap HX4.out 5
    have zz5 := Lib.frozen_of_heap HX4.out 5
    simp only [List.getElem?_toArray, List.getElem?_cons_zero, List.getElem?_cons_succ] at qq0 qq1 qq2 qq3 qq4 qq5
    go_simp
    clear qq0 zz0 qq1 zz1 qq2 zz2 qq3 zz3 qq4 zz4 qq5 zz5
    have hb : Below w3.heap.size w3 ((((((w4.setCell ⟨w3.heap.size, 0, none⟩ (.int .i64 0)).setCell ⟨w3.heap.size, 1, none⟩ (.string ⟨#[]⟩)).setCell ⟨w3.heap.size, 2, none⟩ (.int .i64 0)).setCell ⟨w3.heap.size, 3, none⟩ (.slice none 0 0)).setCell ⟨w3.heap.size, 4, none⟩ (.slice none 0 0)).setCell ⟨w3.heap.size, 5, none⟩ (.slice none 0 0)) := (((((HB34.out.setCell (Nat.le_refl _) _).setCell (Nat.le_refl _) _).setCell (Nat.le_refl _) _).setCell (Nat.le_refl _) _).setCell (Nat.le_refl _) _).setCell (Nat.le_refl _) _
    generalize hW : (((((w4.setCell ⟨w3.heap.size, 0, none⟩ (.int .i64 0)).setCell ⟨w3.heap.size, 1, none⟩ (.string ⟨#[]⟩)).setCell ⟨w3.heap.size, 2, none⟩ (.int .i64 0)).setCell ⟨w3.heap.size, 3, none⟩ (.slice none 0 0)).setCell ⟨w3.heap.size, 4, none⟩ (.slice none 0 0)).setCell ⟨w3.heap.size, 5, none⟩ (.slice none 0 0) = w5 at hb
    have HB35 := Lib.hid hb
    have HBE5 := Lib.hid (HBE3.out.trans (hb.mono HBE3.out.size))
    clear hW hb
    refine hK.out _ _ (HS9.out _ HB35.out) (fun hHeld => ?_)
    clear hK Kx
    try simp only [Act.put, List.setIfInBounds_toArray, List.set_cons_zero, List.set_cons_succ]
    refine wpAnyH_take (i := 12) (v := ?_) (sd (some 10) rfl) (by kernel_rfl) (by kernel_rfl) (by kernel_rfl) (fun _ _ _ h => h) (Or.inl ⟨by rfl, ?_⟩) hHeld ?_
    rotate_left
    ·intro w' hSw
     (try dsimp only at hSw)
     go_simp
     try with_reducible rfl
    try simp only [Act.put, List.setIfInBounds_toArray, List.set_cons_zero, List.set_cons_succ]
    refine wpAnyH_done (by kernel_rfl) ?_ _
    clear hHeld
    go_upto_region 11 with fail
    have HB350 := Lib.hid HB35.out.drew
    have HBE50 := Lib.hid HBE5.out.drew
    refine wp_region_held_drew (S := (fun w' => (w'.cell? ⟨m + 1, 0, none⟩ = some (.map (some m))) ∧ (w'.cell? ⟨wr.heap.size, 0, none⟩ = some (.string nm) ∧ w'.cell? ⟨wr.heap.size, 1, none⟩ = some (.int .i64 k3) ∧ w'.cell? ⟨wr.heap.size, 2, none⟩ = some (.string s3) ∧ w'.cell? ⟨wr.heap.size, 3, none⟩ = some (.int .i64 n3) ∧ w'.cell? ⟨wr.heap.size, 4, none⟩ = some (.slice A3 ps3.length c3) ∧ w'.cell? ⟨wr.heap.size, 5, none⟩ = some (.slice B3 fs3.length d3) ∧ w'.cell? ⟨wr.heap.size, 6, none⟩ = some (.slice C3 vs3.length e3)))) (by kernel_rfl) (HS9.out _ HB350.out) (fun hHeld => ?_)
    refine Plan.start [0, 1, 2, 3, 4, 5, 6, 7] ?_
    iterate 8 ((refine Plan.take (v := ?_) (so rfl) (by kernel_rfl) (by kernel_rfl) (by kernel_rfl) (fun _ _ _ h => h) (Or.inl ⟨by rfl, ?_⟩) hHeld ?_; rotate_left; focus (intro w' hSw; (try dsimp only at hSw); go_simp; try with_reducible rfl)); try simp only [Act.put, List.setIfInBounds_toArray, List.set_cons_zero, List.set_cons_succ])
    refine Plan.done ?_
    refine wpAnyH_ready (rs := [8]) (by kernel_rfl) (by simp) ?_
    refine AllReadyH.cons (sd none rfl) (fun Kx hK => ?_) AllReadyH.nil
    go_simp
    obtain ⟨w6, hup, -, hg6⟩ := (HMAP.out.later HBE50.out).putL (by decide) nm HNM.out true
    have hup2 : (Instr.mapUpdate 60 (.map (some m)) (.string nm) (.agg #[.int .i64 k3, .string s3, .int .i64 n3, .slice A3 ps3.length c3, .slice B3 fs3.length d3, .slice C3 vs3.length e3])).run Tryz.prog w5.drew = .ok () w6 := hup
    have hbut := (ButG.of_below (O := fun x => x = m) HBE50.out).grown hg6 fun k hk => .inl (by injection hk with hk; exact hk.symm)
    have HBUT := Lib.hid hbut
    have h1 := (hg6.block (m + 1) (Nat.lt_of_lt_of_le (Array.getElem?_eq_some_iff.1 HG3.out).1 HB350.out.size) (by simp)).trans (box_up HB350.out (Array.getElem?_eq_some_iff.1 HG3.out).1 HG3.out)
    have h2 := (hg6.block wr.heap.size (Nat.lt_of_lt_of_le (Array.getElem?_eq_some_iff.1 HX3.out).1 HB350.out.size) (by have := HMLT.out; simp; omega)).trans (box_up HB350.out (Array.getElem?_eq_some_iff.1 HX3.out).1 HX3.out)
    have HS6 : Hid ((w6.cell? ⟨m + 1, 0, none⟩ = some (.map (some m))) ∧ (w6.cell? ⟨wr.heap.size, 0, none⟩ = some (.string nm) ∧ w6.cell? ⟨wr.heap.size, 1, none⟩ = some (.int .i64 k3) ∧ w6.cell? ⟨wr.heap.size, 2, none⟩ = some (.string s3) ∧ w6.cell? ⟨wr.heap.size, 3, none⟩ = some (.int .i64 n3) ∧ w6.cell? ⟨wr.heap.size, 4, none⟩ = some (.slice A3 ps3.length c3) ∧ w6.cell? ⟨wr.heap.size, 5, none⟩ = some (.slice B3 fs3.length d3) ∧ w6.cell? ⟨wr.heap.size, 6, none⟩ = some (.slice C3 vs3.length e3))) := Lib.hid ⟨Lib.cell_of_heap h1 0, Lib.cell_of_heap h2 0, Lib.cell_of_heap h2 1, Lib.cell_of_heap h2 2, Lib.cell_of_heap h2 3, Lib.cell_of_heap h2 4, Lib.cell_of_heap h2 5, Lib.cell_of_heap h2 6⟩
    clear hup hg6 hbut h1 h2
    go_simp
    clear hup2
    refine hK.out _ _ (HS6.out) (fun hHeld => ?_)
    clear hK Kx
    try simp only [Act.put, List.setIfInBounds_toArray, List.set_cons_zero, List.set_cons_succ]
    refine wpAnyH_done (by kernel_rfl) ?_ _
    clear hHeld
    go_wp2_with fail
    refine ⟨.inr ⟨by first | rfl | simp, HBUT.out⟩, ?_⟩
    first | decide | simp [intOf]
   ·go_simp
    generalize hW : (w3.alloc (.cells #[.int .i64 0, .string ⟨#[]⟩, .int .i64 0, .slice none 0 0, .slice none 0 0, .slice none 0 0] 26)).drew = w4
    have hb : Below w3.heap.size w3 w4 := by rw [← hW]; exact ((Below.refl _ _).alloc (Nat.le_refl _) _).drew
    have rs : w4.heap[w3.heap.size]? = some (.cells #[.int .i64 0, .string ⟨#[]⟩, .int .i64 0, .slice none 0 0, .slice none 0 0, .slice none 0 0] 26 (0, 0)) := by rw [← hW]; exact heap_alloc_new w3 _
    have HB34 := Lib.hid hb
    have HBE4 := Lib.hid (HBE3.out.trans (hb.mono HBE3.out.size))
    have HX4 := Lib.hid rs
    clear hW hb rs
    refine hK.out _ _ (HS9.out _ HB34.out) (fun hHeld => ?_)
    clear hK Kx
    try simp only [Act.put, List.setIfInBounds_toArray, List.set_cons_zero, List.set_cons_succ]
    refine wpAnyH_ready (rs := [6]) (by kernel_rfl) (by simp) ?_
    refine AllReadyH.cons (sd (some 37) rfl) (fun Kx hK => ?_) AllReadyH.nil
    go_simp
    have lk : (Instr.lookup 60 (.map (some m)) (.string nm) true).run Tryz.prog w4 = .ok (.tuple #[.agg #[.int .i64 0, .string ⟨#[]⟩, .int .i64 0, .slice none 0 0, .slice none 0 0, .slice none 0 0], .bool false]) w4 := (HMAP.out.later HBE4.out).look2 nm HNM.out
    go_simp
    clear lk
    refine hK.out _ _ (HS9.out _ HB34.out) (fun hHeld => ?_)
    clear hK Kx
    try simp only [Act.put, List.setIfInBounds_toArray, List.set_cons_zero, List.set_cons_succ]
    refine Plan.start [7, 8, 9] ?_
    iterate 3 ((refine Plan.take (v := ?_) (so rfl) (by kernel_rfl) (by kernel_rfl) (by kernel_rfl) (fun _ _ _ h => h) (Or.inl ⟨by rfl, ?_⟩) hHeld ?_; rotate_left; focus (intro w' hSw; (try dsimp only at hSw); go_simp; try with_reducible rfl)); try simp only [Act.put, List.setIfInBounds_toArray, List.set_cons_zero, List.set_cons_succ])
    refine Plan.done ?_
    refine wpAnyH_ready (rs := [11]) (by kernel_rfl) (by simp) ?_
    refine AllReadyH.cons (sd none rfl) (fun Kx hK => ?_) AllReadyH.nil
    go_simp
    have qq0 := Lib.cell_of_heap HX4.out 0
    have zz0 := Lib.frozen_of_heap HX4.out 0
    have qq1 := Lib.cell_of_heap HX4.out 1
    have zz1 := Lib.frozen_of_heap HX4.out 1
    have qq2 := Lib.cell_of_heap HX4.out 2
    have zz2 := Lib.frozen_of_heap HX4.out 2
    have qq3 := Lib.cell_of_heap HX4.out 3
    have zz3 := Lib.frozen_of_heap HX4.out 3
    have qq4 := Lib.cell_of_heap HX4.out 4
    have zz4 := Lib.frozen_of_heap HX4.out 4
    have qq5 := Lib.cell_of_heap HX4.out 5
    have zz5 := Lib.frozen_of_heap HX4.out 5
    simp only [List.getElem?_toArray, List.getElem?_cons_zero, List.getElem?_cons_succ] at qq0 qq1 qq2 qq3 qq4 qq5
    go_simp
    clear qq0 zz0 qq1 zz1 qq2 zz2 qq3 zz3 qq4 zz4 qq5 zz5
    have hb : Below w3.heap.size w3 ((((((w4.setCell ⟨w3.heap.size, 0, none⟩ (.int .i64 0)).setCell ⟨w3.heap.size, 1, none⟩ (.string ⟨#[]⟩)).setCell ⟨w3.heap.size, 2, none⟩ (.int .i64 0)).setCell ⟨w3.heap.size, 3, none⟩ (.slice none 0 0)).setCell ⟨w3.heap.size, 4, none⟩ (.slice none 0 0)).setCell ⟨w3.heap.size, 5, none⟩ (.slice none 0 0)) := (((((HB34.out.setCell (Nat.le_refl _) _).setCell (Nat.le_refl _) _).setCell (Nat.le_refl _) _).setCell (Nat.le_refl _) _).setCell (Nat.le_refl _) _).setCell (Nat.le_refl _) _
    generalize hW : (((((w4.setCell ⟨w3.heap.size, 0, none⟩ (.int .i64 0)).setCell ⟨w3.heap.size, 1, none⟩ (.string ⟨#[]⟩)).setCell ⟨w3.heap.size, 2, none⟩ (.int .i64 0)).setCell ⟨w3.heap.size, 3, none⟩ (.slice none 0 0)).setCell ⟨w3.heap.size, 4, none⟩ (.slice none 0 0)).setCell ⟨w3.heap.size, 5, none⟩ (.slice none 0 0) = w5 at hb
    have HB35 := Lib.hid hb
    have HBE5 := Lib.hid (HBE3.out.trans (hb.mono HBE3.out.size))
    clear hW hb
    refine hK.out _ _ (HS9.out _ HB35.out) (fun hHeld => ?_)
    clear hK Kx
    try simp only [Act.put, List.setIfInBounds_toArray, List.set_cons_zero, List.set_cons_succ]
    refine wpAnyH_take (i := 12) (v := ?_) (sd (some 10) rfl) (by kernel_rfl) (by kernel_rfl) (by kernel_rfl) (fun _ _ _ h => h) (Or.inl ⟨by rfl, ?_⟩) hHeld ?_
    rotate_left
    ·intro w' hSw
     (try dsimp only at hSw)
     go_simp
     try with_reducible rfl
    try simp only [Act.put, List.setIfInBounds_toArray, List.set_cons_zero, List.set_cons_succ]
    refine wpAnyH_done (by kernel_rfl) ?_ _
    clear hHeld
    go_upto_region 11 with fail
    have HB350 := Lib.hid HB35.out.drew
    have HBE50 := Lib.hid HBE5.out.drew
    refine wp_region_held_drew (S := (fun w' => (w'.cell? ⟨m + 1, 0, none⟩ = some (.map (some m))) ∧ (w'.cell? ⟨wr.heap.size, 0, none⟩ = some (.string nm) ∧ w'.cell? ⟨wr.heap.size, 1, none⟩ = some (.int .i64 k3) ∧ w'.cell? ⟨wr.heap.size, 2, none⟩ = some (.string s3) ∧ w'.cell? ⟨wr.heap.size, 3, none⟩ = some (.int .i64 n3) ∧ w'.cell? ⟨wr.heap.size, 4, none⟩ = some (.slice A3 ps3.length c3) ∧ w'.cell? ⟨wr.heap.size, 5, none⟩ = some (.slice B3 fs3.length d3) ∧ w'.cell? ⟨wr.heap.size, 6, none⟩ = some (.slice C3 vs3.length e3)))) (by kernel_rfl) (HS9.out _ HB350.out) (fun hHeld => ?_)
    refine Plan.start [0, 1, 2, 3, 4, 5, 6, 7] ?_
    iterate 8 ((refine Plan.take (v := ?_) (so rfl) (by kernel_rfl) (by kernel_rfl) (by kernel_rfl) (fun _ _ _ h => h) (Or.inl ⟨by rfl, ?_⟩) hHeld ?_; rotate_left; focus (intro w' hSw; (try dsimp only at hSw); go_simp; try with_reducible rfl)); try simp only [Act.put, List.setIfInBounds_toArray, List.set_cons_zero, List.set_cons_succ])
    refine Plan.done ?_
    refine wpAnyH_ready (rs := [8]) (by kernel_rfl) (by simp) ?_
    refine AllReadyH.cons (sd none rfl) (fun Kx hK => ?_) AllReadyH.nil
    go_simp
    obtain ⟨w6, hup, -, hg6⟩ := (HMAP.out.later HBE50.out).putL (by decide) nm HNM.out true
    have hup2 : (Instr.mapUpdate 60 (.map (some m)) (.string nm) (.agg #[.int .i64 k3, .string s3, .int .i64 n3, .slice A3 ps3.length c3, .slice B3 fs3.length d3, .slice C3 vs3.length e3])).run Tryz.prog w5.drew = .ok () w6 := hup
    have hbut := (ButG.of_below (O := fun x => x = m) HBE50.out).grown hg6 fun k hk => .inl (by injection hk with hk; exact hk.symm)
    have HBUT := Lib.hid hbut
    have h1 := (hg6.block (m + 1) (Nat.lt_of_lt_of_le (Array.getElem?_eq_some_iff.1 HG3.out).1 HB350.out.size) (by simp)).trans (box_up HB350.out (Array.getElem?_eq_some_iff.1 HG3.out).1 HG3.out)
    have h2 := (hg6.block wr.heap.size (Nat.lt_of_lt_of_le (Array.getElem?_eq_some_iff.1 HX3.out).1 HB350.out.size) (by have := HMLT.out; simp; omega)).trans (box_up HB350.out (Array.getElem?_eq_some_iff.1 HX3.out).1 HX3.out)
    have HS6 : Hid ((w6.cell? ⟨m + 1, 0, none⟩ = some (.map (some m))) ∧ (w6.cell? ⟨wr.heap.size, 0, none⟩ = some (.string nm) ∧ w6.cell? ⟨wr.heap.size, 1, none⟩ = some (.int .i64 k3) ∧ w6.cell? ⟨wr.heap.size, 2, none⟩ = some (.string s3) ∧ w6.cell? ⟨wr.heap.size, 3, none⟩ = some (.int .i64 n3) ∧ w6.cell? ⟨wr.heap.size, 4, none⟩ = some (.slice A3 ps3.length c3) ∧ w6.cell? ⟨wr.heap.size, 5, none⟩ = some (.slice B3 fs3.length d3) ∧ w6.cell? ⟨wr.heap.size, 6, none⟩ = some (.slice C3 vs3.length e3))) := Lib.hid ⟨Lib.cell_of_heap h1 0, Lib.cell_of_heap h2 0, Lib.cell_of_heap h2 1, Lib.cell_of_heap h2 2, Lib.cell_of_heap h2 3, Lib.cell_of_heap h2 4, Lib.cell_of_heap h2 5, Lib.cell_of_heap h2 6⟩
    clear hup hg6 hbut h1 h2
    go_simp
    clear hup2
    refine hK.out _ _ (HS6.out) (fun hHeld => ?_)
    clear hK Kx
    try simp only [Act.put, List.setIfInBounds_toArray, List.set_cons_zero, List.set_cons_succ]
    refine wpAnyH_done (by kernel_rfl) ?_ _
    clear hHeld
    go_wp2_with fail
    refine ⟨.inr ⟨by first | rfl | simp, HBUT.out⟩, ?_⟩
    first | decide | simp [intOf]
  ·have hat : AtT (fun b => b < w.heap.size) wr (.mk k s n ps fs vs) w.heap.size 0 := (HAT.out.later HBbE.out).keep (fun _ h => h) (fun x _ _ hx hc => hb.cell (fun e => by have h1 := HMW.out; have h2 : x = m := e; omega) hc) (fun _ _ hc => hb.cell (fun e => by have h1 := HMW.out; have h2 : w.heap.size = m := e; omega) hc)
   have hgw := (hb.block (m + 1) (Array.getElem?_eq_some_iff.1 HXG.out).1 (fun e => by have h2 : m + 1 = m := e; omega)).trans HXG.out
   have hxb := box_up HBbE.out (Array.getElem?_eq_some_iff.1 HXB.out).1 HXB.out
   have hrw := (hb.block (w.heap.size + 1) (Array.getElem?_eq_some_iff.1 hxb).1 (fun e => by have h1 := HMW.out; have h2 : w.heap.size + 1 = m := e; omega)).trans hxb
   have hxa := box_up HBbE.out (Array.getElem?_eq_some_iff.1 HXA.out).1 HXA.out
   have hra := (hb.block w.heap.size (Array.getElem?_eq_some_iff.1 hxa).1 (fun e => by have h1 := HMW.out; have h2 : w.heap.size = m := e; omega)).trans hxa
   have hbl := hb.below (B := w.heap.size) HBwE.out.size (fun x e => by have h1 := HMW.out; have h2 : x = m := e; omega)
   have KF := Lib.hid (fill_no (m := m) hat hgw (by have := HMW.out; omega) HNO.out HCP.out)
   have HRW := Lib.hid hrw
   have HRA := Lib.hid hra
   have HBW := Lib.hid (HBwE.out.trans hbl)
   clear hat hgw hxb hrw hb hbl hxa hra
   go_wp2_with fail
   refine KF.out.mono ?_
   rintro e w7 ⟨cs7, rfl, hc7, hl7, hg7, hb7⟩
   obtain rfl := cells_eq hc7 (ds := [.int .i64 k, .string s, .int .i64 n, .slice A ps.length c, .slice B fs.length d, .slice C vs.length e0]) hl7 (fun j u hj => by rw [Nat.zero_add]; exact row_cell HRA.out hj)
   have hr7 := (hb7.block (w.heap.size + 1) (Array.getElem?_eq_some_iff.1 HRW.out).1 (fun e => by have h1 := HMW.out; have h2 : w.heap.size + 1 = m + 1 := e; omega)).trans HRW.out
   have hb7w := hb7.below (B := w.heap.size) HBW.out.size (fun x e => by have h1 := HMW.out; have h2 : x = m + 1 := e; omega)
   have g0 : w7.cell? ⟨m + 1, 1, none⟩ = some (.int .i64 (cntT (.mk k s n ps fs vs) : Nat)) := Lib.cell_of_heap hg7 1
   have hcp := HCP.out
   generalize cntT (.mk k s n ps fs vs) = q at g0 hcp
   have t0 : decide ((4096 : Int) < (q : Int)) = false := decide_eq_false (by omega)
   have t1 : ¬ (4096 : Int) < (q : Int) := by omega
   have t2 : ¬ 4096 < q := by omega
   obtain ⟨w8, hw8⟩ : ∃ x, x = w7.alloc (.cells #[.int .i64 k, .string s, .int .i64 n, .slice A ps.length c, .slice B fs.length d, .slice C vs.length e0] 26) := ⟨_, rfl⟩
   have hb8 : Below w7.heap.size w7 w8 := by rw [hw8]; exact (Below.refl _ _).alloc (Nat.le_refl _) _
   have hx8 : w8.heap[w7.heap.size]? = some (.cells #[.int .i64 k, .string s, .int .i64 n, .slice A ps.length c, .slice B fs.length d, .slice C vs.length e0] 26 (0, 0)) := by rw [hw8]; exact heap_alloc_new w7 _
   have rb := box_up hb8 (Array.getElem?_eq_some_iff.1 hr7).1 hr7
   have g8 := cell_stays hb8 g0
   have HBE := Lib.hid (HBW.out.trans (hb7w.trans (hb8.mono (Nat.le_trans (Nat.le_trans HBW.out.size hb7w.size) (Nat.le_refl _)))))
   have HW8 := Lib.hid hw8
   obtain ⟨p0, p1, p2, p3, p4, p5⟩ : w8.cell? ⟨w7.heap.size, 0, none⟩ = some (.int .i64 k) ∧ w8.cell? ⟨w7.heap.size, 1, none⟩ = some (.string s) ∧ w8.cell? ⟨w7.heap.size, 2, none⟩ = some (.int .i64 n) ∧ w8.cell? ⟨w7.heap.size, 3, none⟩ = some (.slice A ps.length c) ∧ w8.cell? ⟨w7.heap.size, 4, none⟩ = some (.slice B fs.length d) ∧ w8.cell? ⟨w7.heap.size, 5, none⟩ = some (.slice C vs.length e0) := ⟨Lib.cell_of_heap hx8 0, Lib.cell_of_heap hx8 1, Lib.cell_of_heap hx8 2, Lib.cell_of_heap hx8 3, Lib.cell_of_heap hx8 4, Lib.cell_of_heap hx8 5⟩
   clear hc7 hl7 hg7 hb7 hr7 hb7w g0 hw8 hb8 hx8 hcp
   go_upto_region 14 with fail
   rw [← HW8.out]
   clear HW8
   obtain ⟨q0, q1, q2, q3, q4, q5, z0, z1, z2, z3, z4, z5⟩ := qz6 rb
   have RBX := Lib.hid rb
   clear rb
   go_wp2_with fail
   have rs := six_set RBX.out (.int .i64 k) (.string s) (.int .i64 n) (.slice A ps.length c) (.slice B fs.length d) (.slice C vs.length e0)
   obtain ⟨r0, r1, r2, r3, r4, r5⟩ := cz6 rs
   clear q0 q1 q2 q3 q4 q5 z0 z1 z2 z3 z4 z5 RBX rs
   refine bodyPost_ret (v := .tuple #[.agg #[.int .i64 k, .string s, .int .i64 n, .slice A ps.length c, .slice B fs.length d, .slice C vs.length e0], .int .i64 0]) (by simp [results, Tryz.results15, go_sem, r0, r1, r2, r3, r4, r5]) rfl ?_
   clear r0 r1 r2 r3 r4 r5
   exact ⟨rfl, set_six_below HBE.out (Nat.le_succ _) _ _ _ _ _ _⟩
end Go.Proofs.YtlooadichhpgeaaGreatDoor
