import Derived.Test.YtlgklkokadbpeaaDoorSc7
namespace Go.Proofs.YtlgklkokadbpeaaDoor
open Go.RowKit

/-- What an escape says. -/
def escB (c : Nat) : Nat × Bool := if c = 110 then (10, true) else if c = 116 then (9, true) else if c = 92 then (92, true) else if c = 34 then (34, true) else (0, false)

theorem escape_prog (c : Nat) (w : World) (_hc : c < 256) :
    Calls Tryd.prog 89 #[.int .u8 c] w fun e w' => e = .returned (.tuple #[.int .u8 (escB c).1, .bool (escB c).2]) ∧ w = w' := by
  by_cases h1 : c = 110
  · subst h1
    go_enter Tryd.func89, Tryd.ntmps89
    go_wp2
    go_ret2
    exact ⟨rfl, rfl⟩
  have t1 : ((c : Int) == 110) = false := by simp; omega
  by_cases h2 : c = 116
  · subst h2
    go_enter Tryd.func89, Tryd.ntmps89
    go_wp2
    go_ret2
    exact ⟨rfl, rfl⟩
  have t2 : ((c : Int) == 116) = false := by simp; omega
  by_cases h3 : c = 92
  · subst h3
    go_enter Tryd.func89, Tryd.ntmps89
    go_wp2
    go_ret2
    exact ⟨rfl, rfl⟩
  have t3 : ((c : Int) == 92) = false := by simp; omega
  by_cases h4 : c = 34
  · subst h4
    go_enter Tryd.func89, Tryd.ntmps89
    go_wp2
    go_ret2
    exact ⟨rfl, rfl⟩
  have t4 : ((c : Int) == 34) = false := by simp; omega
  have D := Lib.hid (show escB c = (0, false) by simp [escB, h1, h2, h3, h4])
  clear h1 h2 h3 h4
  go_enter Tryd.func89, Tryd.ntmps89
  go_wp2
  go_ret2
  exact ⟨by rw [D.out]; rfl, rfl⟩

theorem escape_ref (c : Nat) (w : World) (_hc : c < 256) :
    Calls Tryd.prog 90 #[.int .u8 c] w fun e w' => e = .returned (.tuple #[.int .u8 (escB c).1, .bool (escB c).2]) ∧ w = w' := by
  by_cases h1 : c = 110
  · subst h1
    go_enter Tryd.func90, Tryd.ntmps90
    go_wp2
    go_ret2
    exact ⟨rfl, rfl⟩
  have t1 : ((c : Int) == 110) = false := by simp; omega
  by_cases h2 : c = 116
  · subst h2
    go_enter Tryd.func90, Tryd.ntmps90
    go_wp2
    go_ret2
    exact ⟨rfl, rfl⟩
  have t2 : ((c : Int) == 116) = false := by simp; omega
  by_cases h3 : c = 92
  · subst h3
    go_enter Tryd.func90, Tryd.ntmps90
    go_wp2
    go_ret2
    exact ⟨rfl, rfl⟩
  have t3 : ((c : Int) == 92) = false := by simp; omega
  by_cases h4 : c = 34
  · subst h4
    go_enter Tryd.func90, Tryd.ntmps90
    go_wp2
    go_ret2
    exact ⟨rfl, rfl⟩
  have t4 : ((c : Int) == 34) = false := by simp; omega
  have D := Lib.hid (show escB c = (0, false) by simp [escB, h1, h2, h3, h4])
  clear h1 h2 h3 h4
  go_enter Tryd.func90, Tryd.ntmps90
  go_wp2
  go_ret2
  exact ⟨by rw [D.out]; rfl, rfl⟩

/-- A string token, read on from a place; what it says so far, and whether all escapes were right. -/
def quoF (s : ByteArray) (i : Nat) : Nat → Nat → Bool → List UInt8 → Tok
  | 0, k, _, _ => pieceT s 7 i k
  | f + 1, k, ok, said =>
    if k < s.size ∧ B s k ≠ 10 then
      (if B s k = 34 then (if ok = true then ⟨3, ⟨said.toArray⟩, 0, i, k + 1⟩ else pieceT s 7 i (k + 1))
       else if B s k = 92 ∧ k + 1 < s.size ∧ B s (k + 1) ≠ 10 then quoF s i f (k + 2) (ok && (escB (B s (k + 1))).2) (said ++ [UInt8.ofNat (escB (B s (k + 1))).1])
       else quoF s i f (k + 1) ok (said ++ [s.data[k]!]))
    else pieceT s 7 i k
theorem quo_fuel (s : ByteArray) (i : Nat) : ∀ f f' k ok said, s.size - k ≤ f → s.size - k ≤ f' → quoF s i f k ok said = quoF s i f' k ok said := by
  intro f
  induction f with
  | zero =>
    intro f' k ok said h _
    cases f' with
    | zero => rfl
    | succ f' => simp only [quoF]; rw [if_neg (by omega)]
  | succ f ih =>
    intro f' k ok said h h'
    cases f' with
    | zero => simp only [quoF]; rw [if_neg (by omega)]
    | succ f' =>
      simp only [quoF]
      split
      · split
        · rfl
        · split
          · exact ih f' _ _ _ (by omega) (by omega)
          · exact ih f' _ _ _ (by omega) (by omega)
      · rfl
def quo (s : ByteArray) (i k : Nat) (ok : Bool) (said : List UInt8) : Tok := quoF s i (s.size - k) k ok said
theorem quo_open {s : ByteArray} {i k : Nat} {ok : Bool} {said : List UInt8} (hk : k < s.size) : quo s i k ok said =
    if B s k ≠ 10 then
      (if B s k = 34 then (if ok = true then ⟨3, ⟨said.toArray⟩, 0, i, k + 1⟩ else pieceT s 7 i (k + 1))
       else if B s k = 92 ∧ k + 1 < s.size ∧ B s (k + 1) ≠ 10 then quo s i (k + 2) (ok && (escB (B s (k + 1))).2) (said ++ [UInt8.ofNat (escB (B s (k + 1))).1])
       else quo s i (k + 1) ok (said ++ [s.data[k]!]))
    else pieceT s 7 i k := by
  unfold quo
  obtain ⟨f, hf⟩ : ∃ f, s.size - k = f + 1 := ⟨s.size - k - 1, by omega⟩
  rw [hf, quoF]
  have h1 : quoF s i f (k + 2) (ok && (escB (B s (k + 1))).2) (said ++ [UInt8.ofNat (escB (B s (k + 1))).1]) = quoF s i (s.size - (k + 2)) (k + 2) (ok && (escB (B s (k + 1))).2) (said ++ [UInt8.ofNat (escB (B s (k + 1))).1]) := quo_fuel s i _ _ _ _ _ (by omega) (by omega)
  have h2 : quoF s i f (k + 1) ok (said ++ [s.data[k]!]) = quoF s i (s.size - (k + 1)) (k + 1) ok (said ++ [s.data[k]!]) := quo_fuel s i _ _ _ _ _ (by omega) (by omega)
  rw [h1, h2]
  simp only [hk, true_and]
theorem quo_stop {s : ByteArray} {i k : Nat} {ok : Bool} {said : List UInt8} (h : ¬ (k < s.size ∧ B s k ≠ 10)) : quo s i k ok said = pieceT s 7 i k := by
  unfold quo
  cases hf : s.size - k with
  | zero => rfl
  | succ f => rw [quoF, if_neg h]
/-- The token that begins with a mark. -/
def quotedT (s : ByteArray) (i : Nat) : Tok := quo s i (i + 1) true []
theorem pushes (l : List UInt8) (n : Nat) (hn : n < 256) : bvals (l ++ [UInt8.ofNat n]) = bvals l ++ [.int .u8 (n : Int)] := by
  simp [bvals]; omega
theorem pushes_at (s : ByteArray) (l : List UInt8) (k : Nat) : bvals (l ++ [s.data[k]!]) = bvals l ++ [.int .u8 (B s k : Int)] := by
  simp [bvals]; rfl
theorem esc_lt (c : Nat) : (escB c).1 < 256 := by unfold escB; repeat' split
                                                  all_goals simp
end Go.Proofs.YtlgklkokadbpeaaDoor
