import Derived.Test.YtlgklkokadbpeaaDoorRows
import Derived.WalkKit
import Derived.WalkLawsBesides
import Derived.WalkSpells
import Derived.LoopTactic
import Derived.OwnWalk
import Derived.Outline
import Derived.Below
import Derived.Lib.Hide
import Derived.Handy
import Derived.Deep.QuietTactic
import Derived.BigQuiet
namespace Go.Proofs.YtlgklkokadbpeaaDoor
open Go.RowKit

/-- The byte at a place (0 behind the end). -/
def B (s : ByteArray) (k : Nat) : Nat := (s.data[k]!).toNat
theorem B_lt (s : ByteArray) (k : Nat) : B s k < 256 := UInt8.toNat_lt _
theorem bget (s : ByteArray) (k : Nat) (h : k < s.size) : s[k] = s.data[k]! := by
  have h' : k < s.data.size := h
  show s.data[k] = s.data[k]!
  rw [getElem!_pos s.data k h']
theorem B_at (s : ByteArray) (k : Nat) (h : k < s.size) : (s[k]).toNat = B s k := by rw [bget s k h]; rfl
theorem B_end (s : ByteArray) (k : Nat) (h : s.size ≤ k) : B s k = 0 := by
  have hs : s.size = s.data.size := rfl
  unfold B
  rw [getElem!_neg _ _ (by omega)]
  rfl
def letterB (c : Nat) : Bool := decide (97 ≤ c ∧ c ≤ 122 ∨ 65 ≤ c ∧ c ≤ 90 ∨ c = 95 ∨ c = 36)
def digitB (c : Nat) : Bool := decide (48 ≤ c ∧ c ≤ 57)
def alnumB (c : Nat) : Bool := letterB c || digitB c
/-- Where letters and digits end. -/
def wordF (s : ByteArray) : Nat → Nat → Nat
  | 0, i => i
  | k + 1, i => if i < s.size ∧ alnumB (B s i) = true then wordF s k (i + 1) else i
def wordN (s : ByteArray) (i : Nat) : Nat := wordF s (s.size - i) i
theorem word_go {s : ByteArray} {i : Nat} (h : i < s.size) (ha : alnumB (B s i) = true) : wordN s i = wordN s (i + 1) := by
  unfold wordN
  obtain ⟨k, hk⟩ : ∃ k, s.size - i = k + 1 := ⟨s.size - i - 1, by omega⟩
  rw [hk, wordF, if_pos ⟨h, ha⟩]
  congr 1; omega
theorem word_stop {s : ByteArray} {i : Nat} (ha : ¬ (i < s.size ∧ alnumB (B s i) = true)) : wordN s i = i := by
  unfold wordN
  cases hk : s.size - i with
  | zero => rfl
  | succ k => rw [wordF, if_neg ha]
theorem word_bd (s : ByteArray) : ∀ k i, s.size - i = k → i ≤ s.size → i ≤ wordN s i ∧ wordN s i ≤ s.size := by
  intro k
  induction k with
  | zero => intro i h h2; rw [word_stop (by omega)]; omega
  | succ k ih =>
    intro i h h2
    by_cases hc : i < s.size ∧ alnumB (B s i) = true
    · rw [word_go hc.1 hc.2]; have := ih (i + 1) (by omega) (by omega); omega
    · rw [word_stop hc]; omega
theorem word_le (s : ByteArray) (i : Nat) (h : i ≤ s.size) : i ≤ wordN s i ∧ wordN s i ≤ s.size := word_bd s _ i rfl h
theorem ret_bool {a b : Bool} (h : a = b) : Ending.returned (.bool a) = .returned (.bool b) := by rw [h]
theorem ret_int {k : IntKind} {a b : Int} (h : a = b) : Ending.returned (.int k a) = .returned (.int k b) := by rw [h]
end Go.Proofs.YtlgklkokadbpeaaDoor
