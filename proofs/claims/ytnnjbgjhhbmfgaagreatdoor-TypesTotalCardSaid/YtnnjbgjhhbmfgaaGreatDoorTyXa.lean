import Derived.Test.YtnnjbgjhhbmfgaaGreatDoorTyX
namespace Go.Proofs.YtnnjbgjhhbmfgaaGreatDoor
open Go.RowKit
theorem dedup_cons2 (a b : Ty) (l : List Ty) : dedupT (a :: b :: l) = if ordT a b = 0 then dedupT (b :: l) else a :: dedupT (b :: l) := by rw [dedupT]
theorem dedup_snoc (a b : Ty) : ∀ l : List Ty, dedupT (l ++ [a, b]) = if ordT a b = 0 then dedupT (l ++ [a]) else dedupT (l ++ [a]) ++ [b]
  | [] => by
    simp only [List.nil_append]
    rw [dedup_cons2]
    by_cases h : ordT a b = 0
    · rw [if_pos h, if_pos h, ordT_zero.1 h]
    · rw [if_neg h, if_neg h]; rfl
  | [x] => by
    show dedupT (x :: a :: [b]) = if ordT a b = 0 then dedupT [x, a] else dedupT [x, a] ++ [b]
    have ih := dedup_snoc a b []
    simp only [List.nil_append] at ih
    rw [dedup_cons2, ih, dedup_cons2]
    by_cases h1 : ordT a b = 0
    · simp only [if_pos h1]
    · simp only [if_neg h1]
      split <;> rfl
  | x :: y :: l => by
    have ih := dedup_snoc a b (y :: l)
    show dedupT (x :: y :: (l ++ [a, b])) = if ordT a b = 0 then dedupT (x :: y :: (l ++ [a])) else dedupT (x :: y :: (l ++ [a])) ++ [b]
    have ih' : dedupT (y :: (l ++ [a, b])) = if ordT a b = 0 then dedupT (y :: (l ++ [a])) else dedupT (y :: (l ++ [a])) ++ [b] := ih
    rw [dedup_cons2, ih', dedup_cons2]
    by_cases h1 : ordT a b = 0
    · simp only [if_pos h1]
    · simp only [if_neg h1]
      split <;> rfl
/-- What is left of the first n + 1, out of what is left of the first n. -/
theorem dedup_take {s : List Ty} {n : Nat} (h0 : 0 < n) (h : n < s.length) : dedupT (s.take (n + 1)) = if ordT s[n - 1] s[n] = 0 then dedupT (s.take n) else dedupT (s.take n) ++ [s[n]] := by
  obtain ⟨m, rfl⟩ : ∃ m, n = m + 1 := ⟨n - 1, by omega⟩
  have e1 : s.take (m + 1) = s.take m ++ [s[m]] := List.take_succ_eq_append_getElem (by omega)
  have e2 : s.take (m + 1 + 1) = s.take m ++ [s[m], s[m + 1]] := by rw [List.take_succ_eq_append_getElem h, e1, List.append_assoc]; rfl
  rw [e2, e1, dedup_snoc]
  rfl
end Go.Proofs.YtnnjbgjhhbmfgaaGreatDoor
