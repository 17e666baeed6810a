import Derived.Test.YtnnjbgjhhbmfgaaGreatDoorTyQ
namespace Go.Proofs.YtnnjbgjhhbmfgaaGreatDoor
open Go.RowKit
theorem seeL_is (h : Kinds) : ∀ l : List Ty, seeL h l = ⟨h.a || hasK 3 l, h.u || hasK 2 l, h.n || hasK 7 l, h.s || hasK 8 l⟩
  | [] => by simp [seeL, hasK]
  | t :: l => by
    show seeL (seeK h t.k) l = _
    rw [seeL_is (seeK h t.k) l]
    simp [seeK, hasK, Bool.or_assoc]
theorem seeL_kinds (l : List Ty) : seeL ⟨false, false, false, false⟩ l = kindsOf l := by
  rw [seeL_is]
  simp [kindsOf]
/-- What the sort does with a row of types. -/
def SortP : Prop := ∀ (K : Nat → Prop) (w0 w : World) (g c : Nat) (l : List Ty), InT K w0 w g c l → Below w0.heap.size w0 w → w0.heap.size ≤ g → l.length ≤ 1099511627776 →
  Calls Tryz.prog 14 #[.slice (some ⟨g, 0, none⟩) l.length c, .func (.func 6) #[] #[]] w fun e w' => e = .returned (.tuple #[]) ∧ Below w0.heap.size w0 w' ∧ ∃ s, Wk s ∧ (∀ x, x ∈ s ↔ x ∈ l) ∧ s.length = l.length ∧ InT K w0 w' g c s
def SortN : Prop := ∀ (w : World), Calls Tryz.prog 14 #[.slice none 0 0, .func (.func 6) #[] #[]] w fun e w' => e = .returned (.tuple #[]) ∧ Below w.heap.size w w'
def CompP : Prop := ∀ (K : Nat → Prop) (w0 w : World) (g c : Nat) (s : List Ty), InT K w0 w g c s → Below w0.heap.size w0 w → w0.heap.size ≤ g → s.length ≤ 1099511627776 →
  Calls Tryz.prog 15 #[.slice (some ⟨g, 0, none⟩) s.length c, .func (.func 16) #[] #[]] w fun e w' => e = .returned (.slice (some ⟨g, 0, none⟩) (dedupT s).length c) ∧ Below w0.heap.size w0 w' ∧ InT K w0 w' g c (dedupT s)
def CompN : Prop := ∀ (w : World), Calls Tryz.prog 15 #[.slice none 0 0, .func (.func 16) #[] #[]] w fun e w' => e = .returned (.slice none 0 0) ∧ Below w.heap.size w w'
theorem clip_any (A : Option Addr) (n c : Nat) (w : World) (h : n ≤ c) : Calls Tryz.prog 17 #[.slice A n c] w fun e w' => e = .returned (.slice A n n) ∧ w' = w := by
  go_enter Tryz.func17, Tryz.ntmps17
  go_wp2_with fail
  go_ret
  exact ⟨rfl, rfl⟩
theorem filter_take {l : List Ty} {p : Ty → Bool} {i : Nat} (h : i < l.length) : (l.take (i + 1)).filter p = (l.take i).filter p ++ (if p l[i] then [l[i]] else []) := by
  rw [List.take_succ_eq_append_getElem h, List.filter_append]
  congr 1
  by_cases hp : p l[i] <;> simp [hp]
/-- What a union tells. -/
def UnionPost (K : Nat → Prop) (w : World) (l : List Ty) : Ending → World → Prop := fun e w' => ∃ cs, e = .returned (.agg cs.toArray) ∧ RepT (fun b => K b ∨ w.heap.size ≤ b) w' (unionT l) cs ∧ Below w.heap.size w w'
/-- What stands ahead of a round of the loop that keeps. -/
structure KeepR (K : Nat → Prop) (w1 wr : World) (gk g c : Nat) (h : Kinds) (ts : List Ty) (i : Nat) (F : List Ty) : Prop where
  le : i ≤ ts.length
  f : F = (ts.take i).filter (keepT h)
  kb : KB wr gk h
  below : Below w1.heap.size w1 wr
  row : InT K w1 wr g c (F ++ ts.drop F.length)
theorem KeepR.fle {K : Nat → Prop} {w1 wr : World} {gk g c : Nat} {h : Kinds} {ts : List Ty} {i : Nat} {F : List Ty} (r : KeepR K w1 wr gk g c h ts i F) : F.length ≤ i := by
  rw [r.f]
  exact Nat.le_trans (List.length_filter_le ..) (by simp; omega)
theorem KeepR.at {K : Nat → Prop} {w1 wr : World} {gk g c : Nat} {h : Kinds} {ts : List Ty} {i : Nat} {F : List Ty} (r : KeepR K w1 wr gk g c h ts i F) (hi : i < ts.length) : ∃ cs, RepT K w1 ts[i] cs ∧ ∀ (j : Nat) (u : Value), cs[j]? = some u → wr.cell? ⟨g, i * 6 + j, none⟩ = some u := by
  refine r.row.reps i _ ?_
  have := r.fle
  rw [List.getElem?_append_right this, List.getElem?_drop, show F.length + (i - F.length) = i from by omega]
  exact List.getElem?_eq_getElem hi
end Go.Proofs.YtnnjbgjhhbmfgaaGreatDoor
