import Derived.Test.YtlgklkokadbpeaaDoorScR5
namespace Go.Proofs.YtlgklkokadbpeaaDoor
open Go.RowKit
theorem tok_at : ∀ (l : List Tok) (k : Nat) (t : Tok) (j : Nat), l[k]? = some t → j < 5 → (tokCells l)[k * 5 + j]? = t.cells[j]? := by
  intro l
  induction l with
  | nil => intro k t j h; simp at h
  | cons a l ih =>
    intro k t j h hj
    rw [show tokCells (a :: l) = a.cells ++ tokCells l from rfl]
    cases k with
    | zero =>
      simp only [List.getElem?_cons_zero, Option.some.injEq] at h
      subst h
      rw [List.getElem?_append_left (by simp [Tok.cells]; omega)]; simp
    | succ k =>
      rw [List.getElem?_append_right (by simp [Tok.cells]; omega), show (k + 1) * 5 + j - a.cells.length = k * 5 + j by simp [Tok.cells]; omega]
      exact ih k t j (by simpa using h) hj
theorem tok_cell {w : World} {base g n cap : Nat} {l : List Tok} (h : w.ownsRow base 63 5 (.slice (some ⟨g, 0, none⟩) n cap) l.length (tokCells l)) {k : Nat} {t : Tok} (hk : l[k]? = some t) :
    w.cell? ⟨g, k * 5, none⟩ = some (.int .i64 t.kind) ∧ w.cell? ⟨g, k * 5 + 1, none⟩ = some (.string t.text) ∧ w.cell? ⟨g, k * 5 + 2, none⟩ = some (.int .i64 t.n) ∧ w.cell? ⟨g, k * 5 + 3, none⟩ = some (.int .i64 t.at_) ∧ w.cell? ⟨g, k * 5 + 4, none⟩ = some (.int .i64 t.end_) := by
  have hn : n = l.length := by
    rcases h.2 with ⟨h', _⟩ | ⟨g', cap', cur, h', _⟩
    · simp at h'
    · simp only [Value.slice.injEq] at h'; exact h'.2.1
  subst hn
  have hlt : k < l.length := by
    rcases Nat.lt_or_ge k l.length with h | h
    · exact h
    · rw [List.getElem?_eq_none h] at hk; cases hk
  have key : ∀ j, j < 5 → w.cell? ⟨g, k * 5 + j, none⟩ = t.cells[j]? := fun j hj => by
    rw [h.cellAt (k * 5 + j) (by omega)]; exact tok_at l k t j hk hj
  exact ⟨key 0 (by omega), key 1 (by omega), key 2 (by omega), key 3 (by omega), key 4 (by omega)⟩
set_option maxHeartbeats 1000000 in
theorem same_true (l : List Tok) (v1 v2 : Value) (w : World) (b1 b2 : Nat) (hl : l.length ≤ 30000) (h1 : w.ownsRow b1 63 5 v1 l.length (tokCells l)) (h2 : w.ownsRow b2 63 5 v2 l.length (tokCells l)) :
    Calls Tryd.prog 32 #[v1, v2] w fun e w' => e = .returned (.bool true) ∧ ∃ n, w' = w.drewN n := by
  by_cases h0 : l.length = 0
  · obtain ⟨A1, c1, rfl⟩ := own_form h1
    obtain ⟨A2, c2, rfl⟩ := own_form h2
    rw [h0]
    clear h1 h2 h0 hl
    go_enter Tryd.func32, Tryd.ntmps32
    go_wp2_with fail
    go_loopw [5] (fun c wr => c = .int .i64 0 ∧ wr = w) (fun c _ => 0)
    case atStart => exact ⟨rfl, rfl⟩
    case round =>
      obtain ⟨rfl, rfl⟩ := hrel
      go_wp2_with fail
      go_ret
      exact ⟨rfl, 0, rfl⟩
  obtain ⟨g1, c1, rfl⟩ : ∃ g c, v1 = .slice (some ⟨g, 0, none⟩) l.length c := by
    rcases h1.2 with ⟨_, h⟩ | ⟨g, c, _, h, _⟩
    · exact absurd h h0
    · exact ⟨g, c, h⟩
  obtain ⟨g2, c2, rfl⟩ : ∃ g c, v2 = .slice (some ⟨g, 0, none⟩) l.length c := by
    rcases h2.2 with ⟨_, h⟩ | ⟨g, c, _, h, _⟩
    · exact absurd h h0
    · exact ⟨g, c, h⟩
  have F1 := Lib.hid (fun k t h => @tok_cell w b1 g1 l.length c1 l h1 k t h)
  have F2 := Lib.hid (fun k t h => @tok_cell w b2 g2 l.length c2 l h2 k t h)
  clear h1 h2 h0
  have t0 : (((l.length : Nat) : Int) != (l.length : Int)) = false := by simp
  go_enter Tryd.func32, Tryd.ntmps32
  go_wp2_with fail
  go_loopw [5] (fun c wr => ∃ k n : Nat, k ≤ l.length ∧ c = .int .i64 k ∧ wr = w.drewN n) (fun c _ => l.length - (intOf c).toNat)
  case atStart => exact ⟨0, 0, Nat.zero_le _, by go_num, rfl⟩
  case round =>
    obtain ⟨k, n, hk, rfl, rfl⟩ := hrel
    by_cases hlt : k < l.length
    · have ht := List.getElem?_eq_getElem hlt
      obtain ⟨f0, f1, f2, f3, f4⟩ := F1.out k _ ht
      obtain ⟨e0, e1, e2, e3, e4⟩ := F2.out k _ ht
      clear ht
      generalize l[k] = t at *
      go_wp2_with fail
      go_quiet (fail)
      go_wp2_with fail
      go_roundw
      case rel => exact ⟨k + 1, n + nq, by omega, by go_num, by simp⟩
      case measure => simp [intOf]; omega
    · obtain rfl : k = l.length := by omega
      go_wp2_with fail
      go_ret
      exact ⟨rfl, _, rfl⟩
end Go.Proofs.YtlgklkokadbpeaaDoor
