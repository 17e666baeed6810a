import Derived.Test.YtogoolpgajopcaaTrH
namespace Go.Proofs.Ytogoolpgajopcaa
open Go.RowKit
def zeroN : Array Value := #[.int .i64 0, .string ⟨#[]⟩, .int .i64 0, .int .i64 0, .int .i64 0, .slice none 0 0]
theorem make_nodes (n : Nat) (hn : n ≤ 20000) (w : World) : (Instr.makeSlice 22 (.int .i64 (n : Int)) (.int .i64 (n : Int))).run Try.prog w = .ok (.slice (some ⟨w.heap.size, 0, none⟩) n n) (w.alloc (.cells (madeCells zeroN (n * 6)) 24)) := by
  obtain ⟨i0, hi0, hz0, hz1, hz2⟩ := info_parts infoN
  have hr := run_make (P := Try.prog) w 22 24 i0 _ Try.underlying22 hi0 hz0 .i64 .i64 n n (by omega) (Int.le_refl _) (by rw [hz2]; omega) (by omega)
  simp only [Int.toNat_natCast, hz1] at hr
  exact hr
theorem Fill.start (w : World) (n : Nat) : Fill (w.alloc (.cells (madeCells zeroN (n * 6)) 24)) w.heap.size n .nil := by
  refine ⟨by simp, fun y hy => ?_, fun y => by simp, trivial⟩
  have hs : y < (madeCells zeroN (n * 6)).size := by rw [size_madeCells]; exact hy
  exact ⟨(madeCells zeroN (n * 6))[y], by rw [cell_of_row _ _ _ _ _ _ (heap_alloc_new w _)]; exact Array.getElem?_eq_getElem hs⟩
theorem some_set {w : World} {p r : Addr} {u : Value} (h : ∃ v, w.cell? p = some v) : ∃ v, (w.setCell r u).cell? p = some v := by
  obtain ⟨v, hv⟩ := h
  by_cases e : r = p
  · subst e
    exact ⟨u, World.cell?_setCell_same _ _ _ hv⟩
  · exact ⟨v, (World.cell?_setCell_other _ _ _ _ e).trans hv⟩
theorem set_same {w : World} {p : Addr} {u : Value} (h : ∃ v, w.cell? p = some v) : (w.setCell p u).cell? p = some u := by
  obtain ⟨v, hv⟩ := h
  exact World.cell?_setCell_same _ _ _ hv
theorem off_ne {g a b : Nat} (h : a ≠ b) : (⟨g, a, none⟩ : Addr) ≠ ⟨g, b, none⟩ := fun e => by
  injection e with _ e2 _
  exact h e2
theorem put6_at {w : World} {g y : Nat} {v0 v1 v2 v3 v4 v5 : Value} (h : ∀ x, x < 6 → ∃ v, w.cell? ⟨g, y + x, none⟩ = some v) :
    ∀ x u, ([v0, v1, v2, v3, v4, v5] : List Value)[x]? = some u → (put6 w g y v0 v1 v2 v3 v4 v5).cell? ⟨g, y + x, none⟩ = some u := by
  intro x u hu
  unfold put6
  rcases x with _ | _ | _ | _ | _ | _ | x
  · obtain rfl : v0 = u := by simpa using hu
    rw [World.cell?_setCell_other _ _ _ _ (off_ne (by omega)), World.cell?_setCell_other _ _ _ _ (off_ne (by omega)), World.cell?_setCell_other _ _ _ _ (off_ne (by omega)), World.cell?_setCell_other _ _ _ _ (off_ne (by omega)), World.cell?_setCell_other _ _ _ _ (off_ne (by omega))]
    exact set_same (h 0 (by omega))
  · obtain rfl : v1 = u := by simpa using hu
    rw [World.cell?_setCell_other _ _ _ _ (off_ne (by omega)), World.cell?_setCell_other _ _ _ _ (off_ne (by omega)), World.cell?_setCell_other _ _ _ _ (off_ne (by omega)), World.cell?_setCell_other _ _ _ _ (off_ne (by omega))]
    exact set_same (some_set (h 1 (by omega)))
  · obtain rfl : v2 = u := by simpa using hu
    rw [World.cell?_setCell_other _ _ _ _ (off_ne (by omega)), World.cell?_setCell_other _ _ _ _ (off_ne (by omega)), World.cell?_setCell_other _ _ _ _ (off_ne (by omega))]
    exact set_same (some_set (some_set (h 2 (by omega))))
  · obtain rfl : v3 = u := by simpa using hu
    rw [World.cell?_setCell_other _ _ _ _ (off_ne (by omega)), World.cell?_setCell_other _ _ _ _ (off_ne (by omega))]
    exact set_same (some_set (some_set (some_set (h 3 (by omega)))))
  · obtain rfl : v4 = u := by simpa using hu
    rw [World.cell?_setCell_other _ _ _ _ (off_ne (by omega))]
    exact set_same (some_set (some_set (some_set (some_set (h 4 (by omega))))))
  · obtain rfl : v5 = u := by simpa using hu
    exact set_same (some_set (some_set (some_set (some_set (some_set (h 5 (by omega)))))))
  · simp at hu
theorem put6_size (w : World) (g y : Nat) (v0 v1 v2 v3 v4 v5 : Value) : (put6 w g y v0 v1 v2 v3 v4 v5).heap.size = w.heap.size := by simp [put6]
theorem Fill.put {w : World} {g q : Nat} {S : Fo} {k : Int} {t : ByteArray} {n m : Int} {A : Option Addr} {c l : Nat} {P : Fo} (h : Fill w g q S) (hj : S.len < q) (hl : P.len = l) (hP : Holds2 w (g + 1) w.heap.size P A 0) (hc : l ≤ c) (hc2 : c ≤ 1000000000000000) (ht : t.size ≤ 1000000000000000) :
    Fill (put6 w g (S.len * 6) (.int .i64 k) (.string t) (.int .i64 n) (.int .i64 m) (.int .i64 0) (.slice A l c)) g q (S.app (.cons k t n m 0 P .nil)) := by
  subst hl
  refine ⟨by rw [put6_size]; exact h.lt, fun y hy => ?_, fun y => ?_, Top.snoc (h.top.keep (y := S.len * 6) (by rw [put6_size]; exact Nat.le_refl _) (fun p hp _ => put6_other (.inl (by omega))) (fun z hz => put6_other (.inr hz)) (by omega)) ⟨⟨A, c, ?_, hc, hc2, ht, ?_⟩, trivial⟩⟩
  · exact some_set (some_set (some_set (some_set (some_set (some_set (h.cell y hy))))))
  · simp only [put6, World.frozen?_setCell]
    exact h.free y
  · intro x u hu
    rw [show 0 + S.len = S.len by omega]
    exact put6_at (fun x hx => h.cell _ (by omega)) x u hu
  · rw [put6_size]
    exact hP.keep (Nat.le_refl _) (Nat.le_refl _) (fun p hp _ => put6_other (.inl (by omega)))
end Go.Proofs.Ytogoolpgajopcaa
