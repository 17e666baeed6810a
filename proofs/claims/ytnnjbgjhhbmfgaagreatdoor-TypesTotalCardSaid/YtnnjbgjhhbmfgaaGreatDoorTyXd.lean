import Derived.Test.YtnnjbgjhhbmfgaaGreatDoorTyXa
import Derived.Lib.SliceRun
namespace Go.Proofs.YtnnjbgjhhbmfgaaGreatDoor
open Go.RowKit
/-- The cells of a type in a row, and what they tell. -/
theorem InT.sixAt {K : Nat → Prop} {w0 w : World} {g c : Nat} {s : List Ty} (h : InT K w0 w g c s) {i : Nat} {t : Ty} (hi : s[i]? = some t) : ∃ x0 x1 x2 x3 x4 x5 x6 x7 x8 x9 xa xb, (w.cell? ⟨g, i * 6, none⟩ = some (.int .i64 x0) ∧ w.cell? ⟨g, i * 6 + 1, none⟩ = some (.string x1) ∧ w.cell? ⟨g, i * 6 + 2, none⟩ = some (.int .i64 x2) ∧ w.cell? ⟨g, i * 6 + 3, none⟩ = some (.slice x3 x4 x5) ∧ w.cell? ⟨g, i * 6 + 4, none⟩ = some (.slice x6 x7 x8) ∧ w.cell? ⟨g, i * 6 + 5, none⟩ = some (.slice x9 xa xb)) ∧ RepT K w0 t [.int .i64 x0, .string x1, .int .i64 x2, .slice x3 x4 x5, .slice x6 x7 x8, .slice x9 xa xb] := by
  obtain ⟨cs, h1, h2⟩ := h.reps i t hi
  obtain ⟨k, z, n, ps, fs, vs⟩ := t
  obtain ⟨A, c, A', c', A'', c'', rfl, _⟩ := h1.inv
  exact ⟨_, _, _, _, _, _, _, _, _, _, _, _, ⟨h2 0 _ rfl, h2 1 _ rfl, h2 2 _ rfl, h2 3 _ rfl, h2 4 _ rfl, h2 5 _ rfl⟩, h1⟩
theorem InT.six {K : Nat → Prop} {w0 w : World} {g c : Nat} {s : List Ty} (h : InT K w0 w g c s) {i : Nat} (hi : i < s.length) : ∃ x0 x1 x2 x3 x4 x5 x6 x7 x8 x9 xa xb, (w.cell? ⟨g, i * 6, none⟩ = some (.int .i64 x0) ∧ w.cell? ⟨g, i * 6 + 1, none⟩ = some (.string x1) ∧ w.cell? ⟨g, i * 6 + 2, none⟩ = some (.int .i64 x2) ∧ w.cell? ⟨g, i * 6 + 3, none⟩ = some (.slice x3 x4 x5) ∧ w.cell? ⟨g, i * 6 + 4, none⟩ = some (.slice x6 x7 x8) ∧ w.cell? ⟨g, i * 6 + 5, none⟩ = some (.slice x9 xa xb)) ∧ RepT K w0 s[i] [.int .i64 x0, .string x1, .int .i64 x2, .slice x3 x4 x5, .slice x6 x7 x8, .slice x9 xa xb] := h.sixAt (List.getElem?_eq_getElem hi)
/-- 'clear' of a row of types. -/
theorem run_clear_types (w : World) (ty : TypeId) (b o n c : Nat) (hn : 0 < n)
    (hc : ∀ j, j < n * 6 → (w.cell? ⟨b, o + j, none⟩).isSome = true ∧ w.frozen? ⟨b, o + j, none⟩ = false) :
    (Builtin.clear_ #[22] ty #[.slice (some ⟨b, o, none⟩) n c]).run Tryz.prog w = .ok (.tuple #[]) (w.setCells b o (Builtin.zeroCells #[.int .i64 0, .string ⟨#[]⟩, .int .i64 0, .slice none 0 0, .slice none 0 0, .slice none 0 0] n).toList) := by
  have hlen : (Builtin.zeroCells #[.int .i64 0, .string ⟨#[]⟩, .int .i64 0, .slice none 0 0, .slice none 0 0, .slice none 0 0] n).toList.length = n * 6 := by simp [Builtin.zeroCells]
  have hst := run_storeCells_cells (P := Tryz.prog) b o (Builtin.zeroCells #[.int .i64 0, .string ⟨#[]⟩, .int .i64 0, .slice none 0 0, .slice none 0 0, .slice none 0 0] n).toList 0 w (by rw [hlen]; simpa using fun j hj => (hc j hj).1) (by rw [hlen]; simpa using fun j hj => (hc j hj).2) (by
    intro v hv
    simp only [Builtin.zeroCells, Array.toList_map, List.mem_map] at hv
    obtain ⟨i, _, rfl⟩ := hv
    have h6 : i % 6 < 6 := Nat.mod_lt _ (by decide)
    generalize hr : i % 6 = r at h6
    match r, h6 with
    | 0, _ => rfl
    | 1, _ => rfl
    | 2, _ => rfl
    | 3, _ => rfl
    | 4, _ => rfl
    | 5, _ => rfl)
  simp only [Nat.add_zero] at hst
  obtain ⟨m, rfl⟩ : ∃ m, n = m + 1 := ⟨n - 1, by omega⟩
  have hz : (Value.agg #[.int .i64 0, .string ⟨#[]⟩, .int .i64 0, .slice none 0 0, .slice none 0 0, .slice none 0 0]).cells = #[.int .i64 0, .string ⟨#[]⟩, .int .i64 0, .slice none 0 0, .slice none 0 0, .slice none 0 0] := by rfl
  simp [Builtin.clear_, run_underlying Tryz.underlying22, Tryz.zeroValue26, hz, hst]
/-- What stands ahead of a round of the loop that drops neighbours. -/
structure CompR (K : Nat → Prop) (w0 wr : World) (g c : Nat) (s : List Ty) (m : Nat) (D : List Ty) (i : Nat) : Prop where
  le : m + 2 + i ≤ s.length
  d : D = dedupT (s.take (m + 2 + i))
  dl : D.length ≤ m + 1 + i
  row : InT K w0 wr g c (D ++ s.drop D.length)
  below : Below w0.heap.size w0 wr
theorem CompR.at {K : Nat → Prop} {w0 wr : World} {g c : Nat} {s : List Ty} {m : Nat} {D : List Ty} {i : Nat} (h : CompR K w0 wr g c s m D i) {j : Nat} (h1 : m + 1 + i ≤ j) (h2 : j < s.length) : (D ++ s.drop D.length)[j]? = some s[j] := by
  have := h.dl
  rw [List.getElem?_append_right (by omega), List.getElem?_drop, show D.length + (j - D.length) = j from by omega]
  exact List.getElem?_eq_getElem h2
theorem CompR.start {K : Nat → Prop} {w0 wr : World} {g c : Nat} {s : List Ty} {m : Nat} (hm : m + 1 < s.length) (hd : dedupT (s.take (m + 1)) = s.take (m + 1)) (he : ordT s[m] s[m + 1] = 0) (hr : InT K w0 wr g c s) (hb : Below w0.heap.size w0 wr) : CompR K w0 wr g c s m (s.take (m + 1)) 0 := by
  have hl : (s.take (m + 1)).length = m + 1 := by simp; omega
  refine ⟨by omega, ?_, by omega, by rw [hl, List.take_append_drop]; exact hr, hb⟩
  have := dedup_take (s := s) (n := m + 1) (by omega) hm
  have he' : ordT s[m + 1 - 1] s[m + 1] = 0 := he
  rw [if_pos he', hd] at this
  exact this.symm
theorem CompR.same {K : Nat → Prop} {w0 wr w' : World} {g c : Nat} {s : List Ty} {m : Nat} {D : List Ty} {i : Nat} (h : CompR K w0 wr g c s m D i) (hi : m + 2 + i < s.length) (he : ordT s[m + 1 + i] s[m + 2 + i] = 0) (hb : Below wr.heap.size wr w') : CompR K w0 w' g c s m D (i + 1) := by
  refine ⟨by omega, ?_, by have := h.dl; omega, h.row.later hb, h.below.trans (hb.mono h.below.size)⟩
  have := dedup_take (s := s) (n := m + 2 + i) (by omega) hi
  rw [if_pos (by simpa only [show m + 2 + i - 1 = m + 1 + i from by omega] using he), ← h.d] at this
  exact this.symm
theorem CompR.put {K : Nat → Prop} {w0 wr wy : World} {g c : Nat} {s : List Ty} {m : Nat} {D : List Ty} {i : Nat} {cs : List Value} (h : CompR K w0 wr g c s m D i) (hi : m + 2 + i < s.length) (hn : ordT s[m + 1 + i] s[m + 2 + i] ≠ 0) (hg : w0.heap.size ≤ g) (hb : Below wr.heap.size wr wy) (ht : RepT K w0 s[m + 2 + i] cs) : CompR K w0 (wy.setCells g (D.length * 6) cs) g c s m (D ++ [s[m + 2 + i]]) (i + 1) := by
  have hdl := h.dl
  refine ⟨by omega, ?_, by simp; omega, (h.row.later hb).put (by omega) ht, sets_below hg cs _ _ (h.below.trans (hb.mono h.below.size))⟩
  have := dedup_take (s := s) (n := m + 2 + i) (by omega) hi
  rw [if_neg (by simpa only [show m + 2 + i - 1 = m + 1 + i from by omega] using hn), ← h.d] at this
  exact this.symm
/-- Behind the last round: what is left, the rest cleared. -/
theorem CompR.fin {K : Nat → Prop} {w0 wr : World} {g c : Nat} {s : List Ty} {m : Nat} {D : List Ty} {i : Nat} (h : CompR K w0 wr g c s m D i) (hi : ¬ m + 2 + i < s.length) (hg : w0.heap.size ≤ g) (L : List Value) : D = dedupT s ∧ InT K w0 (wr.setCells g (D.length * 6) L) g c D ∧ Below w0.heap.size w0 (wr.setCells g (D.length * 6) L) := by
  have hle := h.le
  refine ⟨by rw [h.d, List.take_of_length_le (by omega)], ?_, sets_below hg L _ _ h.below⟩
  have hp := h.row.pre
  obtain ⟨cur, hc1, hc2⟩ := hp.blk
  refine ⟨hp.le, hp.mx, row_set g L _ wr ⟨_, _, hc1, rfl⟩ _ ⟨_, hc1, hc2⟩, fun a t ha => ?_⟩
  obtain ⟨cs, h1, h2⟩ := hp.reps a t ha
  have hal := (List.getElem?_eq_some_iff.1 ha).1
  refine ⟨cs, h1, fun j u hj => ?_⟩
  have hj6 := (List.getElem?_eq_some_iff.1 hj).1
  rw [h1.six] at hj6
  rw [World.cell?_setCells_out g L _ wr ⟨g, a * 6 + j, none⟩ (fun _ _ => by show a * 6 + j < _ ∨ _ ≤ a * 6 + j; omega)]
  exact h2 j u hj
end Go.Proofs.YtnnjbgjhhbmfgaaGreatDoor
