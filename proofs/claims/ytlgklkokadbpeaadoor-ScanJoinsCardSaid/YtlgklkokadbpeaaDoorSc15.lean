import Derived.Test.YtlgklkokadbpeaaDoorSc14
namespace Go.Proofs.YtlgklkokadbpeaaDoor
open Go.RowKit

theorem quoF_bd (s : ByteArray) (i : Nat) : ∀ f k ok said, i < k → k ≤ s.size → s.size - k ≤ f → i < (quoF s i f k ok said).end_ ∧ (quoF s i f k ok said).end_ ≤ s.size := by
  intro f
  induction f with
  | zero => intro k ok said h1 h2 h3; exact ⟨h1, h2⟩
  | succ f ih =>
    intro k ok said h1 h2 h3
    unfold quoF
    split
    · rename_i h
      split
      · split
        · exact ⟨by show i < k + 1; omega, by show k + 1 ≤ s.size; omega⟩
        · exact ⟨by show i < k + 1; omega, by show k + 1 ≤ s.size; omega⟩
      · split
        · rename_i h5; exact ih _ _ _ (by omega) (by omega) (by omega)
        · exact ih _ _ _ (by omega) (by omega) (by omega)
    · exact ⟨h1, h2⟩
theorem high_lt (s : ByteArray) (i : Nat) (h : i < s.size) : i < highN s i ∧ highN s i ≤ s.size := by
  unfold highN
  split
  · have := high_bd s (s.size - (i + 1)) (i + 1) (by omega); omega
  · omega
theorem one_bd (s : ByteArray) (i : Nat) (h : i < s.size) : i < (oneT s i).end_ ∧ (oneT s i).end_ ≤ s.size := by
  have hw := word_le s i (by omega)
  unfold oneT
  split
  · rename_i hl
    have := word_step h (show alnumB (B s i) = true by unfold alnumB; rw [hl]; simp)
    exact ⟨by show i < wordN s i; omega, by show wordN s i ≤ s.size; omega⟩
  · split
    · rename_i hd
      have hs := word_step h (show alnumB (B s i) = true by unfold alnumB; rw [hd]; simp)
      have : (numT s i).end_ = wordN s i := by
        unfold numT
        split
        · rfl
        · split <;> rfl
      rw [this]; omega
    · split
      · exact quoF_bd s i _ (i + 1) true [] (by omega) (by omega) (Nat.le_refl _)
      · split
        · exact ⟨h, Nat.le_refl _⟩
        · split
          · have := sign_fit s i h
            exact ⟨by show i < i + signN s i; omega, this⟩
          · exact high_lt s i h
theorem one_at (s : ByteArray) (i : Nat) : (oneT s i).at_ = i := by
  have hq : ∀ f k ok said, (quoF s i f k ok said).at_ = i := by
    intro f
    induction f with
    | zero => intro k ok said; rfl
    | succ f ih =>
      intro k ok said
      unfold quoF
      split
      · split
        · split <;> rfl
        · split <;> exact ih _ _ _
      · rfl
  unfold oneT
  split
  · rfl
  · split
    · unfold numT
      split
      · rfl
      · split <;> rfl
    · split
      · exact hq _ _ _ _
      · split
        · rfl
        · split <;> rfl
/-- The end's token. -/
def endT (s : ByteArray) : Tok := ⟨6, ⟨#[]⟩, 0, s.size, s.size⟩
def cutF (s : ByteArray) : Nat → Nat → List Tok → Option (List Tok)
  | 0, _, l => some (l ++ [endT s])
  | f + 1, i, l =>
    if i < s.size then
      match skipStep s i with
      | some j => cutF s f j l
      | none => if l.length = 20000 then none else cutF s f (oneT s i).end_ (l ++ [oneT s i])
    else some (l ++ [endT s])
theorem cut_fuel (s : ByteArray) : ∀ f f' i l, s.size - i ≤ f → s.size - i ≤ f' → cutF s f i l = cutF s f' i l := by
  intro f
  induction f with
  | zero =>
    intro f' i l h h'
    cases f' with
    | zero => rfl
    | succ f' => unfold cutF; rw [if_neg (by omega)]
  | succ f ih =>
    intro f' i l h h'
    cases f' with
    | zero => unfold cutF; rw [if_neg (by omega)]
    | succ f' =>
      unfold cutF
      split
      · rename_i hi
        cases hs : skipStep s i with
        | some j => have := skip_bd hi hs; exact ih _ _ _ (by omega) (by omega)
        | none =>
          dsimp only
          split
          · rfl
          · have := one_bd s i hi; exact ih _ _ _ (by omega) (by omega)
      · rfl
/-- The tokens from a place on, behind those that are there. -/
def cut (s : ByteArray) (i : Nat) (l : List Tok) : Option (List Tok) := cutF s (s.size - i) i l
theorem cut_stop {s : ByteArray} {i : Nat} {l : List Tok} (h : s.size ≤ i) : cut s i l = some (l ++ [endT s]) := by
  unfold cut; rw [show s.size - i = 0 by omega]; rfl
theorem cut_open {s : ByteArray} {i : Nat} {l : List Tok} (h : i < s.size) : cut s i l = match skipStep s i with
      | some j => cut s j l
      | none => if l.length = 20000 then none else cut s (oneT s i).end_ (l ++ [oneT s i]) := by
  unfold cut
  rw [show s.size - i = (s.size - i - 1) + 1 by omega]
  conv => lhs; unfold cutF
  rw [if_pos h]
  cases hs : skipStep s i with
  | some j => have := skip_bd h hs; exact cut_fuel s _ _ _ _ (by omega) (Nat.le_refl _)
  | none =>
    dsimp only
    split
    · rfl
    · have := one_bd s i h; exact cut_fuel s _ _ _ _ (by omega) (Nat.le_refl _)
theorem cut_skip {s : ByteArray} {i j : Nat} {l : List Tok} (h : i < s.size) (hs : skipStep s i = some j) : cut s i l = cut s j l := by
  rw [cut_open h, hs]
theorem cut_tok {s : ByteArray} {i : Nat} {l : List Tok} (h : i < s.size) (hs : skipStep s i = none) (hl : l.length ≠ 20000) : cut s i l = cut s (oneT s i).end_ (l ++ [oneT s i]) := by
  rw [cut_open h, hs]; dsimp only; rw [if_neg hl]
theorem cut_full {s : ByteArray} {i : Nat} {l : List Tok} (h : i < s.size) (hs : skipStep s i = none) (hl : l.length = 20000) : cut s i l = none := by
  rw [cut_open h, hs]; dsimp only; rw [if_pos hl]
def tokCells (l : List Tok) : List Value := l.flatMap Tok.cells
theorem tokCells_app (l m : List Tok) : tokCells (l ++ m) = tokCells l ++ tokCells m := List.flatMap_append
theorem tokCells_len (l : List Tok) : (tokCells l).length = l.length * 5 := by
  induction l with
  | nil => rfl
  | cons t l ih => rw [show tokCells (t :: l) = t.cells ++ tokCells l from rfl, List.length_append, ih, List.length_cons]; simp [Tok.cells]; omega
def cutL (s : ByteArray) : List Tok := (cut s 0 []).getD []
def cutE (s : ByteArray) : Nat := if (cut s 0 []).isSome then 0 else 10
theorem cutL_some {s : ByteArray} {l : List Tok} (h : cut s 0 [] = some l) : cutL s = l := by unfold cutL; rw [h]; rfl
theorem cutE_some {s : ByteArray} {l : List Tok} (h : cut s 0 [] = some l) : cutE s = 0 := by unfold cutE; rw [h]; rfl
theorem cutL_none {s : ByteArray} (h : cut s 0 [] = none) : cutL s = [] := by unfold cutL; rw [h]; rfl
theorem cutE_none {s : ByteArray} (h : cut s 0 [] = none) : cutE s = 10 := by unfold cutE; rw [h]; rfl
/-- How many there are at most. -/
theorem cut_len (s : ByteArray) : ∀ f i l m, cutF s f i l = some m → l.length ≤ 20000 → m.length ≤ 20001 := by
  intro f
  induction f with
  | zero => intro i l m h hl; simp only [cutF, Option.some.injEq] at h; subst h; simp; omega
  | succ f ih =>
    intro i l m h hl
    unfold cutF at h
    split at h
    · cases hs : skipStep s i with
      | some j => rw [hs] at h; exact ih _ _ _ h hl
      | none =>
        rw [hs] at h
        dsimp only at h
        split at h
        · cases h
        · exact ih _ _ _ h (by simp; omega)
    · simp only [Option.some.injEq] at h; subst h; simp; omega
/-- What Cut leaves: a list of the call's own that holds the tokens, and the error. -/
def CutPost (s : ByteArray) (w : World) (e : Ending) (w' : World) : Prop :=
  ∃ v, e = .returned (.tuple #[v, .int .i64 (cutE s)]) ∧ w'.ownsRow w.heap.size 63 5 v (cutL s).length (tokCells (cutL s)) ∧ Below w.heap.size w w'
end Go.Proofs.YtlgklkokadbpeaaDoor
