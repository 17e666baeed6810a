import Derived.Test.YtlooadichhpgeaaGreatDoorMe44
namespace Go.Proofs.YtlooadichhpgeaaGreatDoor
open Go.RowKit
theorem wrapk (n : Int) : IntKind.i64.wrap n = wrap64 n := by unfold wrap64; exact IntKind.wrap_i64 n
theorem cap_le {n : Nat} (h : n ≤ 4096) : capN n = n := by unfold capN; omega
theorem fill_but {w w9 : World} {g : Nat} (hk : ∀ x, x < w.heap.size → x ≠ g → w9.heap[x]? = w.heap[x]?) (hb : Below 0 w w9) (_ : w.heap.size < w9.heap.size) (y0 y1 y2 y3 y4 y5 : Value) : ButG (fun x => x = g) w ((((((w9.setCell ⟨w.heap.size, 0, none⟩ y0).setCell ⟨w.heap.size, 1, none⟩ y1).setCell ⟨w.heap.size, 2, none⟩ y2).setCell ⟨w.heap.size, 3, none⟩ y3).setCell ⟨w.heap.size, 4, none⟩ y4).setCell ⟨w.heap.size, 5, none⟩ y5) := by
 have h := (((((hb.setCell (p := ⟨w.heap.size, 0, none⟩) (Nat.zero_le _) y0).setCell (p := ⟨w.heap.size, 1, none⟩) (Nat.zero_le _) y1).setCell (p := ⟨w.heap.size, 2, none⟩) (Nat.zero_le _) y2).setCell (p := ⟨w.heap.size, 3, none⟩) (Nat.zero_le _) y3).setCell (p := ⟨w.heap.size, 4, none⟩) (Nat.zero_le _) y4).setCell (p := ⟨w.heap.size, 5, none⟩) (Nat.zero_le _) y5
 refine ⟨h.os, h.tape, h.output, h.size, fun x hx hn => ?_⟩
 have e : x ≠ w.heap.size := by omega
 rw [Below.heap_setCell _ _ _ _ e, Below.heap_setCell _ _ _ _ e, Below.heap_setCell _ _ _ _ e, Below.heap_setCell _ _ _ _ e, Below.heap_setCell _ _ _ _ e, Below.heap_setCell _ _ _ _ e]
 exact hk x hx hn
set_option maxRecDepth 100000 in
set_option maxHeartbeats 16000000 in
theorem fill_no {K : Nat → Prop} {w : World} {p : Ty} {b o g m : Nat} (hp : AtT K w p b o) (hg : w.heap[g]? = some (.cells #[.map (some m), .int .i64 0] 62 (0, 0))) (hgb : g ≠ b) (hno : infT p = false) (hc : cntT p ≤ 4096) :
  Calls Tryz.prog 29 #[.pointer (some ⟨g, 0, none⟩), .pointer (some ⟨b, o, none⟩)] w fun e w' => ∃ cs : List Value, e = .returned (.agg cs.toArray) ∧ (∀ j u, cs[j]? = some u → w.cell? ⟨b, o + j, none⟩ = some u) ∧ cs.length = 6 ∧ w'.heap[g]? = some (.cells #[.map (some m), .int .i64 (cntT p)] 62 (0, 0)) ∧ ButG (fun x => x = g) w w' := by
 obtain ⟨k, s, n, ps, fs, vs⟩ := p
 obtain ⟨cs, hcs, hr⟩ := hp
 obtain ⟨A, c, B, d, C, e0, rfl, -⟩ := hr.inv
 simp only [cells6T] at hcs hr
 have hlb : b < w.heap.size := World.block_lt_of_cell? _ _ (hcs 0 _ rfl)
 have hlg : g < w.heap.size := (Array.getElem?_eq_some_iff.1 hg).1
 obtain ⟨w1, hw1⟩ : ∃ x, x = w.alloc (.cells #[.int .i64 0, .string ⟨#[]⟩, .int .i64 0, .slice none 0 0, .slice none 0 0, .slice none 0 0] 26) := ⟨_, rfl⟩
 have hb1 : Below w.heap.size w w1 := by rw [hw1]; exact (Below.refl _ _).alloc (Nat.le_refl _) _
 have hx1 : w1.heap[w.heap.size]? = some (.cells #[.int .i64 0, .string ⟨#[]⟩, .int .i64 0, .slice none 0 0, .slice none 0 0, .slice none 0 0] 26 (0, 0)) := by rw [hw1]; exact heap_alloc_new w _
 have hg1 := box_up hb1 hlg hg
 have hs1 : w1.heap.size = w.heap.size + 1 := by rw [hw1]; simp
 have ki := inf_any _ K w1 b o (AtT.later ⟨_, hcs, hr⟩ hb1)
 rw [hno] at ki
 have kn := fun (wx : World) (hx : Below w1.heap.size w1 wx) => nodes_any (hr.later (hb1.trans (hx.mono hb1.size)))
 rw [cap_le hc] at kn
 generalize cntT (.mk k s n ps fs vs) = q at kn hc ⊢
 have hw0 : wrap64 (0 + (q : Int)) = q := by rw [Int.zero_add]; exact wrap_in (by omega) (by omega)
 have hw0' : wrap64 (q : Int) = q := wrap_in (by omega) (by omega)
 have hv0 : IntKind.i64.wrap (0 + (q : Int)) = q := (wrapk _).trans hw0
 have hv0' : IntKind.i64.wrap (q : Int) = q := (wrapk _).trans hw0'
 have HXP : Hid (∀ wx, Below w.heap.size w wx → wx.cell? ⟨b, o, none⟩ = some (.int .i64 k) ∧ wx.cell? ⟨b, o + 1, none⟩ = some (.string s) ∧ wx.cell? ⟨b, o + 2, none⟩ = some (.int .i64 n) ∧ wx.cell? ⟨b, o + 3, none⟩ = some (.slice A ps.length c) ∧ wx.cell? ⟨b, o + 4, none⟩ = some (.slice B fs.length d) ∧ wx.cell? ⟨b, o + 5, none⟩ = some (.slice C vs.length e0)) := Lib.hid fun wx hx => ⟨cell_stays hx (hcs 0 _ rfl), cell_stays hx (hcs 1 _ rfl), cell_stays hx (hcs 2 _ rfl), cell_stays hx (hcs 3 _ rfl), cell_stays hx (hcs 4 _ rfl), cell_stays hx (hcs 5 _ rfl)⟩
 have HGN : Hid (g ≠ b) := Lib.hid hgb
 have HXB : Hid (∀ wx : World, wx.heap[b]? = w.heap[b]? → wx.cell? ⟨b, o, none⟩ = some (.int .i64 k) ∧ wx.cell? ⟨b, o + 1, none⟩ = some (.string s) ∧ wx.cell? ⟨b, o + 2, none⟩ = some (.int .i64 n) ∧ wx.cell? ⟨b, o + 3, none⟩ = some (.slice A ps.length c) ∧ wx.cell? ⟨b, o + 4, none⟩ = some (.slice B fs.length d) ∧ wx.cell? ⟨b, o + 5, none⟩ = some (.slice C vs.length e0)) := Lib.hid fun wx hx => by
  have e : ∀ j, wx.cell? ⟨b, j, none⟩ = w.cell? ⟨b, j, none⟩ := fun j => World.cell?_of_block hx
  rw [e, e, e, e, e, e]
  exact ⟨hcs 0 _ rfl, hcs 1 _ rfl, hcs 2 _ rfl, hcs 3 _ rfl, hcs 4 _ rfl, hcs 5 _ rfl⟩
 have KI := Lib.hid ki
 have KN := Lib.hid kn
 have HB1 := Lib.hid hb1
 have HS1 := Lib.hid hs1
 have HX1 := Lib.hid hx1
 have HG1 := Lib.hid hg1
 have HW1 := Lib.hid hw1
 have HLB := Lib.hid hlb
 have HLG := Lib.hid hlg
 have z1 : w1.cell? ⟨g, 1, none⟩ = some (.int .i64 0) := Lib.cell_of_heap hg1 1
 have HCS := Lib.hid hcs
 clear hcs hr hlb hlg hb1 hx1 hg1 hs1 hw1 hg hgb ki kn hno hc
 go_enter Tryz.func29, Tryz.ntmps29
 go_upto_region 1 with fail
 rw [← HW1.out]
 go_wp2_with fail
 refine KI.out.mono ?_
 rintro e w' ⟨rfl, hw⟩; obtain rfl := hw.symm
 go_upto_region 4 with fail
 clear z1
 have HD := Lib.hid (Below.refl w1.heap.size w1).drew
 refine wp_region_held_drew (S := (fun w' => (w'.cell? ⟨b, o, none⟩ = some (.int .i64 k) ∧ w'.cell? ⟨b, o + 1, none⟩ = some (.string s) ∧ w'.cell? ⟨b, o + 2, none⟩ = some (.int .i64 n) ∧ w'.cell? ⟨b, o + 3, none⟩ = some (.slice A ps.length c) ∧ w'.cell? ⟨b, o + 4, none⟩ = some (.slice B fs.length d) ∧ w'.cell? ⟨b, o + 5, none⟩ = some (.slice C vs.length e0)) ∧ (w'.cell? ⟨g, 1, none⟩).isSome = true ∧ w'.frozen? ⟨g, 1, none⟩ = false)) (by kernel_rfl) (⟨HXB.out _ (HB1.out.block b HLB.out), by rw [show w1.drew.cell? ⟨g, 1, none⟩ = w1.cell? ⟨g, 1, none⟩ from rfl, Lib.cell_of_heap HG1.out 1]; rfl, Lib.frozen_of_heap (w := w1.drew) HG1.out 1⟩) (fun hHeld => ?_)
 refine Plan.start [0, 1, 2, 4, 5, 6] ?_
 iterate 6 ((refine Plan.take (v := ?_) (so rfl) (by kernel_rfl) (by kernel_rfl) (by kernel_rfl) (fun _ _ _ h => h) (Or.inl ⟨by rfl, ?_⟩) hHeld ?_; rotate_left; focus (intro w' hSw; (try dsimp only at hSw); go_simp; try with_reducible rfl)); try simp only [Act.put, List.setIfInBounds_toArray, List.set_cons_zero, List.set_cons_succ])
 refine Plan.done ?_
 refine wpAnyH_ready (rs := [3, 7]) (by kernel_rfl) (by simp) ?_
 refine AllReadyH.cons (sd (some 28) rfl) (fun Kx hK => ?_) (AllReadyH.cons (sd (some 32) rfl) (fun Kx hK => ?_) AllReadyH.nil)
 ·go_simp
  have lz : w1.cell? ⟨g, 1, none⟩ = some (.int .i64 0) := Lib.cell_of_heap HG1.out 1
  go_simp
  clear lz
  refine hK.out _ _ (⟨HXB.out _ (HB1.out.block b HLB.out), by rw [Lib.cell_of_heap (w := w1.drew) HG1.out 1]; rfl, Lib.frozen_of_heap (w := w1.drew) HG1.out 1⟩) (fun hHeld => ?_)
  clear hK Kx
  try simp only [Act.put, List.setIfInBounds_toArray, List.set_cons_zero, List.set_cons_succ]
  refine wpAnyH_ready (rs := [7]) (by kernel_rfl) (by simp) ?_
  refine AllReadyH.cons (sd (some 32) rfl) (fun Kx hK => ?_) AllReadyH.nil
  go_simp
  refine (KN.out _ HD.out).mono ?_
  rintro e w2 ⟨rfl, hb⟩
  have HB2 := Lib.hid (HD.out.trans (hb.mono HD.out.size))
  have HV2 := Lib.hid (box_up HB2.out (Array.getElem?_eq_some_iff.1 HG1.out).1 HG1.out)
  have HE2 : Hid (w2.heap[b]? = w.heap[b]?) := Lib.hid ((HB2.out.block b (Nat.lt_of_lt_of_le HLB.out HB1.out.size)).trans (HB1.out.block b HLB.out))
  clear hb
  go_wp2_with fail
  refine hK.out _ _ (⟨HXB.out _ HE2.out, by rw [Lib.cell_of_heap HV2.out 1]; rfl, Lib.frozen_of_heap HV2.out 1⟩) (fun hHeld => ?_)
  clear hK Kx
  try simp only [Act.put, List.setIfInBounds_toArray, List.set_cons_zero, List.set_cons_succ]
  refine Plan.start [8, 9, 10] ?_
  iterate 3 ((refine Plan.take (v := ?_) (so rfl) (by kernel_rfl) (by kernel_rfl) (by kernel_rfl) (fun _ _ _ h => h) (Or.inl ⟨by rfl, ?_⟩) hHeld ?_; rotate_left; focus (intro w' hSw; (try dsimp only at hSw); go_simp; try with_reducible rfl)); try simp only [Act.put, List.setIfInBounds_toArray, List.set_cons_zero, List.set_cons_succ])
  refine Plan.done ?_
  refine wpAnyH_ready (rs := [11]) (by kernel_rfl) (by simp) ?_
  refine AllReadyH.cons (sd none rfl) (fun Kx hK => ?_) AllReadyH.nil
  go_simp
  have HV3 : Hid ((w2.setCell ⟨g, 1, none⟩ (.int .i64 q)).heap[g]? = some (.cells #[.map (some m), .int .i64 q] 62 (0, 0))) := Lib.hid (Go.heap_setCell_same w2 g 1 _ _ _ HV2.out)
  have HE3 : Hid ((w2.setCell ⟨g, 1, none⟩ (.int .i64 q)).heap[b]? = w.heap[b]?) := Lib.hid ((Below.heap_setCell _ _ _ _ (fun e => HGN.out e.symm)).trans HE2.out)
  have lz := Lib.cell_of_heap HV2.out 1
  have lf := Lib.frozen_of_heap HV2.out 1
  go_simp
  clear lz lf
  refine hK.out _ _ (⟨HXB.out _ HE3.out, by rw [Lib.cell_of_heap HV3.out 1]; rfl, Lib.frozen_of_heap HV3.out 1⟩) (fun hHeld => ?_)
  clear hK Kx
  try simp only [Act.put, List.setIfInBounds_toArray, List.set_cons_zero, List.set_cons_succ]
  refine wpAnyH_done (by kernel_rfl) ?_ _
  clear hHeld
  have hk : ∀ x, x < w.heap.size → x ≠ g → (w2.setCell ⟨g, 1, none⟩ (.int .i64 q)).heap[x]? = w.heap[x]? := fun x hx hne => (Below.heap_setCell _ _ _ _ hne).trans ((HB2.out.block x (Nat.lt_of_lt_of_le hx HB1.out.size)).trans (HB1.out.block x hx))
  have hrs : (w2.setCell ⟨g, 1, none⟩ (.int .i64 q)).heap[w.heap.size]? = some (.cells #[.int .i64 0, .string ⟨#[]⟩, .int .i64 0, .slice none 0 0, .slice none 0 0, .slice none 0 0] 26 (0, 0)) := (Below.heap_setCell _ _ _ _ (fun e => by have h1 := HLG.out; have h2 : w.heap.size = g := e; omega)).trans (box_up HB2.out (Array.getElem?_eq_some_iff.1 HX1.out).1 HX1.out)
  have hbw : Below 0 w (w2.setCell ⟨g, 1, none⟩ (.int .i64 q)) := ((HB1.out.trans (HB2.out.mono HB1.out.size)).mono (Nat.zero_le _)).setCell (Nat.zero_le _) _
  have HK := Lib.hid hk
  have HBW := Lib.hid hbw
  have HLW : Hid (w.heap.size < (w2.setCell ⟨g, 1, none⟩ (.int .i64 q)).heap.size) := Lib.hid (Array.getElem?_eq_some_iff.1 hrs).1
  obtain ⟨x0, x1, x2, x3, x4, x5⟩ := HXB.out _ HE3.out
  have HG3 := Lib.hid HV3.out
  clear hk hbw
  generalize hw9 : (w2.setCell ⟨g, 1, none⟩ (.int .i64 q)) = w9 at HK HBW HG3 hrs HLW x0 x1 x2 x3 x4 x5
  clear hw9
  obtain ⟨q0, q1, q2, q3, q4, q5, z0, z1, z2, z3, z4, z5⟩ := qz6 hrs
  have RBX := Lib.hid hrs
  clear hrs
  go_wp2_with fail
  have rs := six_set RBX.out (.int .i64 k) (.string s) (.int .i64 n) (.slice A ps.length c) (.slice B fs.length d) (.slice C vs.length e0)
  obtain ⟨r0, r1, r2, r3, r4, r5⟩ := cz6 rs
  clear q0 q1 q2 q3 q4 q5 z0 z1 z2 z3 z4 z5 RBX rs
  refine bodyPost_ret (v := .agg #[.int .i64 k, .string s, .int .i64 n, .slice A ps.length c, .slice B fs.length d, .slice C vs.length e0]) (by simp [results, Tryz.results29, go_sem, r0, r1, r2, r3, r4, r5]) rfl ?_
  clear r0 r1 r2 r3 r4 r5
  exact ⟨_, rfl, HCS.out, rfl, by rw [Below.heap_setCell, Below.heap_setCell, Below.heap_setCell, Below.heap_setCell, Below.heap_setCell, Below.heap_setCell]; exact HG3.out; all_goals (have := HLG.out; show g ≠ w.heap.size; omega), fill_but HK.out HBW.out HLW.out _ _ _ _ _ _⟩
 ·go_simp
  refine (KN.out _ HD.out).mono ?_
  rintro e w2 ⟨rfl, hb⟩
  have HB2 := Lib.hid (HD.out.trans (hb.mono HD.out.size))
  have HV2 := Lib.hid (box_up HB2.out (Array.getElem?_eq_some_iff.1 HG1.out).1 HG1.out)
  have HE2 : Hid (w2.heap[b]? = w.heap[b]?) := Lib.hid ((HB2.out.block b (Nat.lt_of_lt_of_le HLB.out HB1.out.size)).trans (HB1.out.block b HLB.out))
  clear hb
  go_wp2_with fail
  refine hK.out _ _ (⟨HXB.out _ HE2.out, by rw [Lib.cell_of_heap HV2.out 1]; rfl, Lib.frozen_of_heap HV2.out 1⟩) (fun hHeld => ?_)
  clear hK Kx
  try simp only [Act.put, List.setIfInBounds_toArray, List.set_cons_zero, List.set_cons_succ]
  refine wpAnyH_ready (rs := [3]) (by kernel_rfl) (by simp) ?_
  refine AllReadyH.cons (sd (some 28) rfl) (fun Kx hK => ?_) AllReadyH.nil
  go_simp
  have lz : w2.cell? ⟨g, 1, none⟩ = some (.int .i64 0) := Lib.cell_of_heap HV2.out 1
  go_simp
  clear lz
  refine hK.out _ _ (⟨HXB.out _ HE2.out, by rw [Lib.cell_of_heap HV2.out 1]; rfl, Lib.frozen_of_heap HV2.out 1⟩) (fun hHeld => ?_)
  clear hK Kx
  try simp only [Act.put, List.setIfInBounds_toArray, List.set_cons_zero, List.set_cons_succ]
  refine Plan.start [8, 9, 10] ?_
  iterate 3 ((refine Plan.take (v := ?_) (so rfl) (by kernel_rfl) (by kernel_rfl) (by kernel_rfl) (fun _ _ _ h => h) (Or.inl ⟨by rfl, ?_⟩) hHeld ?_; rotate_left; focus (intro w' hSw; (try dsimp only at hSw); go_simp; try with_reducible rfl)); try simp only [Act.put, List.setIfInBounds_toArray, List.set_cons_zero, List.set_cons_succ])
  refine Plan.done ?_
  refine wpAnyH_ready (rs := [11]) (by kernel_rfl) (by simp) ?_
  refine AllReadyH.cons (sd none rfl) (fun Kx hK => ?_) AllReadyH.nil
  go_simp
  have HV3 : Hid ((w2.setCell ⟨g, 1, none⟩ (.int .i64 q)).heap[g]? = some (.cells #[.map (some m), .int .i64 q] 62 (0, 0))) := Lib.hid (Go.heap_setCell_same w2 g 1 _ _ _ HV2.out)
  have HE3 : Hid ((w2.setCell ⟨g, 1, none⟩ (.int .i64 q)).heap[b]? = w.heap[b]?) := Lib.hid ((Below.heap_setCell _ _ _ _ (fun e => HGN.out e.symm)).trans HE2.out)
  have lz := Lib.cell_of_heap HV2.out 1
  have lf := Lib.frozen_of_heap HV2.out 1
  go_simp
  clear lz lf
  refine hK.out _ _ (⟨HXB.out _ HE3.out, by rw [Lib.cell_of_heap HV3.out 1]; rfl, Lib.frozen_of_heap HV3.out 1⟩) (fun hHeld => ?_)
  clear hK Kx
  try simp only [Act.put, List.setIfInBounds_toArray, List.set_cons_zero, List.set_cons_succ]
  refine wpAnyH_done (by kernel_rfl) ?_ _
  clear hHeld
  have hk : ∀ x, x < w.heap.size → x ≠ g → (w2.setCell ⟨g, 1, none⟩ (.int .i64 q)).heap[x]? = w.heap[x]? := fun x hx hne => (Below.heap_setCell _ _ _ _ hne).trans ((HB2.out.block x (Nat.lt_of_lt_of_le hx HB1.out.size)).trans (HB1.out.block x hx))
  have hrs : (w2.setCell ⟨g, 1, none⟩ (.int .i64 q)).heap[w.heap.size]? = some (.cells #[.int .i64 0, .string ⟨#[]⟩, .int .i64 0, .slice none 0 0, .slice none 0 0, .slice none 0 0] 26 (0, 0)) := (Below.heap_setCell _ _ _ _ (fun e => by have h1 := HLG.out; have h2 : w.heap.size = g := e; omega)).trans (box_up HB2.out (Array.getElem?_eq_some_iff.1 HX1.out).1 HX1.out)
  have hbw : Below 0 w (w2.setCell ⟨g, 1, none⟩ (.int .i64 q)) := ((HB1.out.trans (HB2.out.mono HB1.out.size)).mono (Nat.zero_le _)).setCell (Nat.zero_le _) _
  have HK := Lib.hid hk
  have HBW := Lib.hid hbw
  have HLW : Hid (w.heap.size < (w2.setCell ⟨g, 1, none⟩ (.int .i64 q)).heap.size) := Lib.hid (Array.getElem?_eq_some_iff.1 hrs).1
  obtain ⟨x0, x1, x2, x3, x4, x5⟩ := HXB.out _ HE3.out
  have HG3 := Lib.hid HV3.out
  clear hk hbw
  generalize hw9 : (w2.setCell ⟨g, 1, none⟩ (.int .i64 q)) = w9 at HK HBW HG3 hrs HLW x0 x1 x2 x3 x4 x5
  clear hw9
  obtain ⟨q0, q1, q2, q3, q4, q5, z0, z1, z2, z3, z4, z5⟩ := qz6 hrs
  have RBX := Lib.hid hrs
  clear hrs
  go_wp2_with fail
  have rs := six_set RBX.out (.int .i64 k) (.string s) (.int .i64 n) (.slice A ps.length c) (.slice B fs.length d) (.slice C vs.length e0)
  obtain ⟨r0, r1, r2, r3, r4, r5⟩ := cz6 rs
  clear q0 q1 q2 q3 q4 q5 z0 z1 z2 z3 z4 z5 RBX rs
  refine bodyPost_ret (v := .agg #[.int .i64 k, .string s, .int .i64 n, .slice A ps.length c, .slice B fs.length d, .slice C vs.length e0]) (by simp [results, Tryz.results29, go_sem, r0, r1, r2, r3, r4, r5]) rfl ?_
  clear r0 r1 r2 r3 r4 r5
  exact ⟨_, rfl, HCS.out, rfl, by rw [Below.heap_setCell, Below.heap_setCell, Below.heap_setCell, Below.heap_setCell, Below.heap_setCell, Below.heap_setCell]; exact HG3.out; all_goals (have := HLG.out; show g ≠ w.heap.size; omega), fill_but HK.out HBW.out HLW.out _ _ _ _ _ _⟩
end Go.Proofs.YtlooadichhpgeaaGreatDoor
