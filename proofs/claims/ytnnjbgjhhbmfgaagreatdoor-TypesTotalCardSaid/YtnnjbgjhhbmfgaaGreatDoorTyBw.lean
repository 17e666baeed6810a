import Derived.Test.YtnnjbgjhhbmfgaaGreatDoorTyAw
namespace Go.Proofs.YtnnjbgjhhbmfgaaGreatDoor
open Go.RowKit
def nnW : ByteArray := ⟨#[110, 117, 108, 108, 32, 124, 32, 110, 117, 109, 98, 101, 114]⟩
set_option maxRecDepth 100000 in
set_option maxHeartbeats 16000000 in
/-- The text of null | number. -/
theorem text_nn {K : Nat → Prop} {w : World} {cs : List Value} (h : RepT K w nnT cs) :
    Calls Tryz.prog 9 #[.agg cs.toArray] w fun e w' => e = .returned (.tuple #[.string nnW, .int .i64 0]) ∧ Below w.heap.size w w' := by
  have hlow := RepT.low _ _ h
  have hb1 : Below w.heap.size w (w.alloc (.cells cs.toArray 26)) := (Below.refl _ _).alloc (Nat.le_refl _) _
  have KF := Lib.hid (formed_val (h.later hb1) form_nn)
  have hcn : (decide (cntT nnT ≤ 4096) && true) = true := by
    unfold nnT tyK
    rw [cntT_mk]
    simp only [cntL, cntF, cntV, List.map_cons, List.map_nil, cntT_mk]
    decide
  rw [hcn] at KF
  have HB1 := Lib.hid hb1
  have hat := AtT.box 26 hlow
  obtain ⟨A, c, A', c', A'', c'', rfl, -, -⟩ := hlow.inv
  simp only [cells6T, List.length_cons, List.length_nil, Nat.zero_add, Nat.reduceAdd] at KF HB1 hat ⊢
  obtain ⟨B, d, B', d', B'', d'', ⟨x0, -, -, x3, -, -⟩, -, hP, -⟩ := AtT.six hat
  obtain ⟨gp, op, rfl, hgp, hr⟩ := hP.at (by simp)
  obtain ⟨_, _, _, _, _, _, ⟨y0, -⟩, -⟩ := AtT.six (hr 0 (by simp))
  obtain ⟨_, _, _, _, _, _, ⟨y1, -⟩, -⟩ := AtT.six (hr 1 (by simp))
  generalize hW1 : w.alloc (.cells #[.int .i64 15, .string emptyB, .int .i64 0, .slice A 2 c, .slice A' 0 c', .slice A'' 0 c''] 26) = w1 at KF HB1 x0 x3 y0 y1
  have hlt1 : w.heap.size < w1.heap.size := by rw [← hW1]; simp
  have KT : Hid (∀ wx, Below w1.heap.size w1 wx → Calls Tryz.prog 19 #[.pointer (some ⟨wx.heap.size, 0, none⟩), .pointer (some ⟨w.heap.size, 0, none⟩)] (wx.alloc (.cells #[.pointer none, .slice none 0 0] 54)) (WPost (wx.heap.size + 1) wx.heap.size [] (Lib.strCells ⟨#[110, 117, 108, 108]⟩ ++ (Lib.strCells ⟨#[32, 124, 32]⟩ ++ Lib.strCells ⟨#[110, 117, 109, 98, 101, 114]⟩)) (wx.alloc (.cells #[.pointer none, .slice none 0 0] 54)))) := Lib.hid fun wx hx => by
    have hxa : Below w1.heap.size w1 (wx.alloc (.cells #[.pointer none, .slice none 0 0] 54)) := hx.alloc hx.size _
    have hsz := hx.size
    refine typed_nn (gp := gp) (op := op) (c := d) ⟨⟨_, .slice none 0 0, .inl rfl, heap_alloc_new wx _, World.ownsRow_nil _ _ _ _⟩, Nat.lt_succ_self _⟩ ⟨by omega, by omega⟩ (cell_stays hxa x0) (cell_stays hxa x3) (cell_stays hxa y0) (cell_stays hxa y1) (by simp)
  have HE1 := Lib.hid hW1
  have HLT := Lib.hid hlt1
  have HS : Hid (Lib.strCells ⟨#[110, 117, 108, 108]⟩ ++ (Lib.strCells ⟨#[32, 124, 32]⟩ ++ Lib.strCells ⟨#[110, 117, 109, 98, 101, 114]⟩) = Lib.byteCells [110, 117, 108, 108, 32, 124, 32, 110, 117, 109, 98, 101, 114]) := Lib.hid (by rfl)
  rw [HS.out] at KT
  clear h hlow hb1 hat x0 x3 hP hr y0 y1 hcn hW1 hlt1 HS hgp
  go_enter Tryz.func9, Tryz.ntmps9
  go_wp2_with fail
  rw [HE1.out]
  refine KF.out.mono ?_
  rintro e w2 ⟨rfl, hb2⟩
  have HB2 := Lib.hid hb2
  have KT2 := Lib.hid (KT.out _ hb2)
  clear hb2 KT KF
  go_wp2_with fail
  refine KT2.out.mono ?_
  rintro e w3 ⟨rfl, hd3, hk3⟩
  have KST := Lib.hid (string_any _ _ _ w3 hd3 (by simp))
  have HK3 := Lib.hid hk3
  clear hd3 hk3 KT2
  go_wp2_with fail
  refine KST.out.mono ?_
  rintro e w4 ⟨rfl, hb4⟩
  have HB4 := Lib.hid hb4
  clear hb4 KST
  go_wp2_with fail
  go_ret2
  have h12 := below_then HB1.out HB2.out
  have hsz := h12.size
  have h3 : Below w.heap.size w w3 := (h12.alloc hsz _).trans (HK3.out.below hsz (Nat.lt_succ_self _) (by simp; omega))
  exact ⟨rfl, h3.trans (HB4.out.mono hsz)⟩
set_option maxRecDepth 100000 in
set_option maxHeartbeats 2000000 in
theorem of_any (k : Int) (w : World) : Calls Tryz.prog 8 #[.int .i64 k] w fun e w' => e = .returned (.agg #[.int .i64 k, .string ⟨#[]⟩, .int .i64 0, .slice none 0 0, .slice none 0 0, .slice none 0 0]) ∧ Gw w w' := by
  go_enter Tryz.func8, Tryz.ntmps8
  go_wp2_with fail
  exact bodyPost_ret (v := .agg #[.int .i64 k, .string ⟨#[]⟩, .int .i64 0, .slice none 0 0, .slice none 0 0, .slice none 0 0]) (by simp [results, Tryz.results8, go_sem]) rfl ⟨rfl, (Gw.refl w).alloc _⟩
theorem rep_leaf (K : Nat → Prop) (w : World) (k n : Int) : RepT K w (.mk k emptyB n [] [] []) [.int .i64 k, .string ⟨#[]⟩, .int .i64 n, .slice none 0 0, .slice none 0 0, .slice none 0 0] :=
  RepT.of (by decide) ⟨⟨0, 0, ⟨by simp, by decide, fun _ => rfl, fun h => absurd h (by simp)⟩, fun i h => absurd h (by simp)⟩⟩ ⟨⟨0, 0, ⟨by simp, by decide, fun _ => rfl, fun h => absurd h (by simp)⟩, fun i h => absurd h (by simp)⟩⟩ ⟨⟨0, 0, ⟨by simp, by decide, fun _ => rfl, fun h => absurd h (by simp)⟩, fun i h => absurd h (by simp)⟩⟩
end Go.Proofs.YtnnjbgjhhbmfgaaGreatDoor
