import Derived.Test.YtnnjbgjhhbmfgaaGreatDoorTyM
namespace Go.Proofs.YtnnjbgjhhbmfgaaGreatDoor
open Go.RowKit
/-- The box that tells which kinds are there. -/
def KB (w : World) (g : Nat) (h : Kinds) : Prop := w.heap[g]? = some (.cells #[.bool h.a, .bool h.u, .bool h.n, .bool h.s] 40 (0, 0))
def seeK (h : Kinds) (k : Int) : Kinds := ⟨h.a || k == 3, h.u || k == 2, h.n || k == 7, h.s || k == 8⟩
/-- At most one cell of a box is written. -/
def SetAt (g : Nat) (w w' : World) : Prop := w' = w ∨ ∃ j v, w' = w.setCell ⟨g, j, none⟩ v
theorem SetAt.size {g : Nat} {w w' : World} (h : SetAt g w w') : w'.heap.size = w.heap.size := by
  rcases h with rfl | ⟨j, v, rfl⟩
  · rfl
  · simp [World.setCell]
theorem SetAt.block {g : Nat} {w w' : World} (h : SetAt g w w') {b : Nat} (hb : b ≠ g) : w'.heap[b]? = w.heap[b]? := by
  rcases h with rfl | ⟨j, v, rfl⟩
  · rfl
  · exact Below.heap_setCell _ _ _ _ hb
theorem SetAt.below {g B : Nat} {a w w' : World} (h : SetAt g w w') (hb : Below B a w) (hg : B ≤ g) : Below B a w' := by
  rcases h with rfl | ⟨j, v, rfl⟩
  · exact hb
  · exact hb.setCell hg _
theorem kb_cells {w : World} {g : Nat} {h : Kinds} (hk : KB w g h) : w.cell? ⟨g, 0, none⟩ = some (.bool h.a) ∧ w.cell? ⟨g, 1, none⟩ = some (.bool h.u) ∧ w.cell? ⟨g, 2, none⟩ = some (.bool h.n) ∧ w.cell? ⟨g, 3, none⟩ = some (.bool h.s) :=
  ⟨cell_of_row _ _ 0 _ _ _ hk, cell_of_row _ _ 1 _ _ _ hk, cell_of_row _ _ 2 _ _ _ hk, cell_of_row _ _ 3 _ _ _ hk⟩
theorem kb_set {w : World} {g : Nat} {h : Kinds} (hk : KB w g h) (j : Nat) (v : Value) : (w.setCell ⟨g, j, none⟩ v).heap[g]? = some (.cells (#[.bool h.a, .bool h.u, .bool h.n, .bool h.s].setIfInBounds j v) 40 (0, 0)) :=
  Go.heap_setCell_same w g j _ _ v hk
theorem kb_free {w : World} {g : Nat} {h : Kinds} (hk : KB w g h) (o : Nat) : w.frozen? ⟨g, o, none⟩ = false := Lib.frozen_of_heap hk o
set_option maxRecDepth 100000 in
set_option maxHeartbeats 8000000 in
theorem see_any {w : World} {g : Nat} {h : Kinds} {b o : Nat} {k : Int} (hk : KB w g h) (hc : w.cell? ⟨b, o, none⟩ = some (.int .i64 k)) :
    Calls Tryz.prog 30 #[.pointer (some ⟨g, 0, none⟩), .pointer (some ⟨b, o, none⟩)] w fun e w' => e = .returned (.tuple #[]) ∧ KB w' g (seeK h k) ∧ SetAt g w w' := by
  obtain ⟨c0, c1, c2, c3⟩ := kb_cells hk
  have f0 := kb_free hk 0
  have f1 := kb_free hk 1
  have f2 := kb_free hk 2
  have f3 := kb_free hk 3
  have HK := Lib.hid hk
  clear hk
  by_cases h3 : k = 3
  · subst h3
    go_enter Tryz.func30, Tryz.ntmps30
    go_wp2_with fail
    exact bodyPost_end (v := .tuple #[]) (by simp [results, Tryz.results30, go_sem]) rfl ⟨rfl, by unfold KB; rw [kb_set HK.out]; simp [seeK], .inr ⟨_, _, rfl⟩⟩
  by_cases h2 : k = 2
  · subst h2
    go_enter Tryz.func30, Tryz.ntmps30
    go_wp2_with fail
    exact bodyPost_end (v := .tuple #[]) (by simp [results, Tryz.results30, go_sem]) rfl ⟨rfl, by unfold KB; rw [kb_set HK.out]; simp [seeK], .inr ⟨_, _, rfl⟩⟩
  by_cases h7 : k = 7
  · subst h7
    go_enter Tryz.func30, Tryz.ntmps30
    go_wp2_with fail
    exact bodyPost_end (v := .tuple #[]) (by simp [results, Tryz.results30, go_sem]) rfl ⟨rfl, by unfold KB; rw [kb_set HK.out]; simp [seeK], .inr ⟨_, _, rfl⟩⟩
  by_cases h8 : k = 8
  · subst h8
    go_enter Tryz.func30, Tryz.ntmps30
    go_wp2_with fail
    exact bodyPost_end (v := .tuple #[]) (by simp [results, Tryz.results30, go_sem]) rfl ⟨rfl, by unfold KB; rw [kb_set HK.out]; simp [seeK], .inr ⟨_, _, rfl⟩⟩
  have t3 : (k == 3) = false := by simpa using h3
  have t2 : (k == 2) = false := by simpa using h2
  have t7 : (k == 7) = false := by simpa using h7
  have t8 : (k == 8) = false := by simpa using h8
  have hs : seeK h k = h := by unfold seeK; rw [t3, t2, t7, t8]; simp
  have HS := Lib.hid hs
  clear h2 h3 h7 h8 hs
  go_enter Tryz.func30, Tryz.ntmps30
  go_wp2_with fail
  exact bodyPost_end (v := .tuple #[]) (by simp [results, Tryz.results30, go_sem]) rfl ⟨rfl, by rw [HS.out]; exact HK.out, .inl rfl⟩
set_option maxRecDepth 100000 in
set_option maxHeartbeats 8000000 in
theorem keep_any {K : Nat → Prop} {w : World} {g : Nat} {h : Kinds} {t : Ty} {b o : Nat} (hk : KB w g h) (ht : AtT K w t b o) :
    Calls Tryz.prog 13 #[.pointer (some ⟨g, 0, none⟩), .pointer (some ⟨b, o, none⟩)] w fun e w' => e = .returned (.bool (keepT h t)) ∧ w' = w := by
  obtain ⟨c0, c1, c2, c3⟩ := kb_cells hk
  have KI := Lib.hid (inf_any t K w b o ht)
  obtain ⟨k, s, n, ps, fs, vs⟩ := t
  obtain ⟨A, c, A2, d2, A3, d3, ⟨x0, -, -, -, -, -⟩, -⟩ := ht.six
  generalize hi : infT (.mk k s n ps fs vs) = q at KI
  have hkp : keepT h (.mk k s n ps fs vs) = if k = 1 then false else if k = 3 then true else if k = 2 ∧ h.a = false then true else if h.a = true ∨ h.u = true then q else if k = 9 then !h.n else if k = 10 then !h.s else true := by unfold keepT; rw [hi]; rfl
  rw [hkp]
  obtain ⟨ha, hu, hn, hs⟩ := h
  simp only at c0 c1 c2 c3 ⊢
  clear hk ht hi hkp
  by_cases h1 : k = 1
  · subst h1
    go_enter Tryz.func13, Tryz.ntmps13
    go_wp2_with fail
    go_ret
    exact ⟨rfl, rfl⟩
  have t1 : (k == 1) = false := by simpa using h1
  rw [if_neg h1]
  clear h1
  by_cases h3 : k = 3
  · subst h3
    go_enter Tryz.func13, Tryz.ntmps13
    go_wp2_with fail
    go_ret
    exact ⟨rfl, rfl⟩
  have t3 : (k == 3) = false := by simpa using h3
  rw [if_neg h3]
  clear h3
  by_cases h2 : k = 2
  · subst h2
    cases ha with
    | false =>
      go_enter Tryz.func13, Tryz.ntmps13
      go_wp2_with fail
      go_ret
      exact ⟨rfl, rfl⟩
    | true =>
      rw [if_neg (by decide), if_pos (.inl rfl)]
      go_enter Tryz.func13, Tryz.ntmps13
      go_wp2_with fail
      refine KI.out.mono ?_
      rintro e w2 ⟨rfl, rfl⟩
      go_wp2_with fail
      go_ret
      exact ⟨rfl, rfl⟩
  have t2 : (k == 2) = false := by simpa using h2
  rw [if_neg (fun h => h2 h.1)]
  clear h2
  cases ha with
  | true =>
    rw [if_pos (by simp)]
    go_enter Tryz.func13, Tryz.ntmps13
    go_wp2_with fail
    refine KI.out.mono ?_
    rintro e w2 ⟨rfl, rfl⟩
    go_wp2_with fail
    go_ret
    exact ⟨rfl, rfl⟩
  | false =>
  cases hu with
  | true =>
    rw [if_pos (by simp)]
    go_enter Tryz.func13, Tryz.ntmps13
    go_wp2_with fail
    refine KI.out.mono ?_
    rintro e w2 ⟨rfl, rfl⟩
    go_wp2_with fail
    go_ret
    exact ⟨rfl, rfl⟩
  | false =>
  rw [if_neg (by decide)]
  by_cases h9 : k = 9
  · subst h9
    go_enter Tryz.func13, Tryz.ntmps13
    go_wp2_with fail
    go_ret
    exact ⟨rfl, rfl⟩
  have t9 : (k == 9) = false := by simpa using h9
  rw [if_neg h9]
  clear h9
  by_cases h10 : k = 10
  · subst h10
    go_enter Tryz.func13, Tryz.ntmps13
    go_wp2_with fail
    go_ret
    exact ⟨rfl, rfl⟩
  have t10 : (k == 10) = false := by simpa using h10
  rw [if_neg h10]
  clear h10
  go_enter Tryz.func13, Tryz.ntmps13
  go_wp2_with fail
  go_ret
  exact ⟨rfl, rfl⟩
end Go.Proofs.YtnnjbgjhhbmfgaaGreatDoor
