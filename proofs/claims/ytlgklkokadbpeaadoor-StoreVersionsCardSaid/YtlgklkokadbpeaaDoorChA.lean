import Derived.Test.YtlgklkokadbpeaaDoorRows
import Derived.Test.YtlgklkokadbpeaaDoorPure
import Derived.WalkKit
import Derived.WalkLawsBesides
import Derived.WalkSpells
import Derived.LoopTactic
import Derived.Outline
import Derived.Below
import Derived.Lib.Hide
import Derived.Lib.Strings
import Derived.Test.YtlgklkokadbpeaaDoorShelfU
import Derived.Lib.DecodeN
import Derived.Handy
namespace Go.Proofs.YtlgklkokadbpeaaDoor
open Go.RowKit
theorem ret_int {k : IntKind} {a b : Int} (h : a = b) : Ending.returned (.int k a) = .returned (.int k b) := by rw [h]
def B (s : ByteArray) (k : Nat) : Nat := (s.data[k]!).toNat
theorem B_at (s : ByteArray) (k : Nat) (h : k < s.size) : (s[k]).toNat = B s k := by rw [bget s k h]; rfl
def three (b0 b1 b2 : Nat) : Nat := (b0 % 16 * 64 + b1 % 64) * 64 + b2 % 64
def four (b0 b1 b2 b3 : Nat) : Nat := ((b0 % 8 * 64 + b1 % 64) * 64 + b2 % 64) * 64 + b3 % 64
/-- How many bytes the sequence has that begins with these bytes; 0: none begins so. -/
def seqD (n b0 b1 b2 b3 : Nat) : Nat :=
  if b0 < 128 then 1
  else if b0 / 32 = 6 then (if 1 < n ∧ b1 / 64 = 2 ∧ 128 ≤ b0 % 32 * 64 + b1 % 64 then 2 else 0)
  else if b0 / 16 = 14 then (if 2 < n ∧ b1 / 64 = 2 ∧ b2 / 64 = 2 ∧ 2048 ≤ three b0 b1 b2 ∧ ¬ (55296 ≤ three b0 b1 b2 ∧ three b0 b1 b2 ≤ 57343) then 3 else 0)
  else if b0 / 8 = 30 then (if 3 < n ∧ b1 / 64 = 2 ∧ b2 / 64 = 2 ∧ b3 / 64 = 2 ∧ 65536 ≤ four b0 b1 b2 b3 ∧ four b0 b1 b2 b3 ≤ 1114111 then 4 else 0)
  else 0
theorem seqD_le (n b0 b1 b2 b3 : Nat) (_hn : 0 < n) : seqD n b0 b1 b2 b3 ≤ n := by
  unfold seqD; repeat' split
  all_goals omega
set_option maxHeartbeats 1000000 in
theorem seqD_decode (n b0 b1 b2 b3 : Nat) (h0 : b0 < 256) (_hn : 0 < n) :
    (seqD n b0 b1 b2 b3 = 0 ∧ Lib.decodeN n b0 b1 b2 b3 = (65533, 1)) ∨
    (seqD n b0 b1 b2 b3 ≠ 0 ∧ ∃ r, Lib.decodeN n b0 b1 b2 b3 = (r, seqD n b0 b1 b2 b3) ∧ ¬ (r = 65533 ∧ seqD n b0 b1 b2 b3 ≤ 1)) := by
  unfold seqD Lib.decodeN three four
  by_cases c0 : b0 < 128
  · simp only [c0, if_true]
    exact .inr ⟨by omega, b0, rfl, by omega⟩
  by_cases c1 : b0 / 32 = 6
  · have c2 : ¬ b0 / 16 = 14 := by omega
    have c3 : ¬ b0 / 8 = 30 := by omega
    simp only [c0, c1, c2, c3, if_true, if_false, true_and, false_and]
    by_cases c4 : 1 < n ∧ b1 / 64 = 2
    · simp only [c4, if_true, true_and, and_self]
      split
      · exact .inr ⟨by omega, _, rfl, by omega⟩
      · exact .inl ⟨rfl, rfl⟩
    · rw [if_neg (by omega), if_neg c4]; exact .inl ⟨rfl, rfl⟩
  by_cases c2 : b0 / 16 = 14
  · have c3 : ¬ b0 / 8 = 30 := by omega
    simp only [c0, c1, c2, c3, if_true, if_false, true_and, false_and]
    by_cases c4 : (1 < n ∧ b1 / 64 = 2) ∧ (2 < n ∧ b2 / 64 = 2)
    · rw [if_pos c4]
      by_cases c5 : 2 < n ∧ b1 / 64 = 2 ∧ b2 / 64 = 2 ∧ 2048 ≤ (b0 % 16 * 64 + b1 % 64) * 64 + b2 % 64 ∧ ¬ (55296 ≤ (b0 % 16 * 64 + b1 % 64) * 64 + b2 % 64 ∧ (b0 % 16 * 64 + b1 % 64) * 64 + b2 % 64 ≤ 57343)
      · rw [if_pos c5, if_pos (by omega)]; exact .inr ⟨by omega, _, rfl, by omega⟩
      · rw [if_neg c5, if_neg (by omega)]; exact .inl ⟨rfl, rfl⟩
    · rw [if_neg (fun h => c4 (by omega)), if_neg c4]; exact .inl ⟨rfl, rfl⟩
  by_cases c3 : b0 / 8 = 30
  · simp only [c0, c1, c2, c3, if_true, if_false, true_and, false_and]
    by_cases c4 : (1 < n ∧ b1 / 64 = 2) ∧ (2 < n ∧ b2 / 64 = 2) ∧ (3 < n ∧ b3 / 64 = 2)
    · rw [if_pos c4]
      by_cases c5 : 3 < n ∧ b1 / 64 = 2 ∧ b2 / 64 = 2 ∧ b3 / 64 = 2 ∧ 65536 ≤ ((b0 % 8 * 64 + b1 % 64) * 64 + b2 % 64) * 64 + b3 % 64 ∧ ((b0 % 8 * 64 + b1 % 64) * 64 + b2 % 64) * 64 + b3 % 64 ≤ 1114111
      · rw [if_pos c5, if_pos (by omega)]; exact .inr ⟨by omega, _, rfl, by omega⟩
      · rw [if_neg c5, if_neg (by omega)]; exact .inl ⟨rfl, rfl⟩
    · rw [if_neg (fun h => c4 (by omega)), if_neg c4]; exact .inl ⟨rfl, rfl⟩
  · rw [if_neg c0, if_neg c1, if_neg c2, if_neg c3, if_neg c0, if_neg (fun h => c1 h.1), if_neg (fun h => c2 h.1), if_neg (fun h => c3 h.1)]
    exact .inl ⟨rfl, rfl⟩
def seqN (s : ByteArray) (i : Nat) : Nat := seqD (s.size - i) (B s i) (B s (i + 1)) (B s (i + 2)) (B s (i + 3))
theorem seqN_le (s : ByteArray) (i : Nat) (h : i < s.size) : seqN s i ≤ s.size - i := seqD_le _ _ _ _ _ (by omega)

set_option maxRecDepth 100000 in
set_option maxHeartbeats 400000 in
theorem seq_ref (s : ByteArray) (i : Nat) (w : World) (hs : s.size ≤ 1000000000000) (hi : i < s.size) :
    Calls Tryd.prog 67 #[.string s, .int .i64 i] w fun e w' => e = .returned (.int .i64 (seqN s i)) ∧ w = w' := by
  have e0 := B_at s i (by omega)
  have e1 : ∀ h : i + 1 < s.size, (s[i + 1]).toNat = B s (i + 1) := fun h => B_at s (i + 1) h
  have e2 : ∀ h : i + 2 < s.size, (s[i + 2]).toNat = B s (i + 2) := fun h => B_at s (i + 2) h
  have e3 : ∀ h : i + 3 < s.size, (s[i + 3]).toNat = B s (i + 3) := fun h => B_at s (i + 3) h
  have u0 : B s i < 256 := UInt8.toNat_lt _
  have u1 : B s (i + 1) < 256 := UInt8.toNat_lt _
  have u2 : B s (i + 2) < 256 := UInt8.toNat_lt _
  have u3 : B s (i + 3) < 256 := UInt8.toNat_lt _
  unfold seqN
  generalize hb0 : B s i = b0 at *
  generalize hb1 : B s (i + 1) = b1 at *
  generalize hb2 : B s (i + 2) = b2 at *
  generalize hb3 : B s (i + 3) = b3 at *
  clear hb0 hb1 hb2 hb3
  by_cases c0 : b0 < 128
  · have t1 : ((b0 : Int) < 128) := by omega
    go_enter Tryd.func67, Tryd.ntmps67
    go_wp2
    go_ret
    exact ⟨ret_int (by simp [seqD, c0]), rfl⟩
  have t1 : ¬ ((b0 : Int) < 128) := by omega
  by_cases c1 : b0 / 32 = 6
  · have t2 : (((b0 : Int) / 32) == 6) = true := by simp; omega
    have d0 : seqD (s.size - i) b0 b1 b2 b3 = (if 1 < s.size - i ∧ b1 / 64 = 2 ∧ 128 ≤ b0 % 32 * 64 + b1 % 64 then 2 else 0) := by rw [seqD, if_neg c0, if_pos c1]
    have D := Lib.hid d0
    clear d0
    by_cases hn : i + 2 ≤ s.size
    · have f1 := e1 (by omega)
      clear c0 c1 e1 e2 e3
      go_enter Tryd.func67, Tryd.ntmps67
      go_wp2
      go_rounds 2
      all_goals
        go_ret
        refine ⟨ret_int ?_, rfl⟩
        rw [D.out]
        clear D
        simp only [bne_iff_ne, ne_eq, bne_eq_false_iff_eq] at *
        split <;> omega
    · have t3 : decide ((i : Int) + 2 > s.size) = true := by simp; omega
      clear c0 c1 e1 e2 e3
      go_enter Tryd.func67, Tryd.ntmps67
      go_wp2
      go_ret
      refine ⟨ret_int ?_, rfl⟩
      rw [D.out, if_neg (by omega)]; rfl
  have t2 : (((b0 : Int) / 32) == 6) = false := by simp; omega
  by_cases c2 : b0 / 16 = 14
  · have t3 : (((b0 : Int) / 16) == 14) = true := by simp; omega
    have d0 : seqD (s.size - i) b0 b1 b2 b3 = (if 2 < s.size - i ∧ b1 / 64 = 2 ∧ b2 / 64 = 2 ∧ 2048 ≤ three b0 b1 b2 ∧ ¬ (55296 ≤ three b0 b1 b2 ∧ three b0 b1 b2 ≤ 57343) then 3 else 0) := by rw [seqD, if_neg c0, if_neg c1, if_pos c2]
    unfold three at d0
    have D := Lib.hid d0
    clear d0
    by_cases hn : i + 3 ≤ s.size
    · have f1 := e1 (by omega)
      have f2 := e2 (by omega)
      clear c0 c1 c2 e1 e2 e3
      go_enter Tryd.func67, Tryd.ntmps67
      go_wp2
      go_rounds 3
      all_goals
        go_ret
        refine ⟨ret_int ?_, rfl⟩
        rw [D.out]
        clear D
        simp only [bne_iff_ne, ne_eq, bne_eq_false_iff_eq] at *
        split <;> omega
    · clear c0 c1 c2 e1 e2 e3
      go_enter Tryd.func67, Tryd.ntmps67
      go_wp2
      go_ret
      refine ⟨ret_int ?_, rfl⟩
      rw [D.out, if_neg (by omega)]; rfl
  have t3 : (((b0 : Int) / 16) == 14) = false := by simp; omega
  by_cases c3 : b0 / 8 = 30
  · have t4 : (((b0 : Int) / 8) == 30) = true := by simp; omega
    have d0 : seqD (s.size - i) b0 b1 b2 b3 = (if 3 < s.size - i ∧ b1 / 64 = 2 ∧ b2 / 64 = 2 ∧ b3 / 64 = 2 ∧ 65536 ≤ four b0 b1 b2 b3 ∧ four b0 b1 b2 b3 ≤ 1114111 then 4 else 0) := by rw [seqD, if_neg c0, if_neg c1, if_neg c2, if_pos c3]
    unfold four at d0
    have D := Lib.hid d0
    clear d0
    by_cases hn : i + 4 ≤ s.size
    · have f1 := e1 (by omega)
      have f2 := e2 (by omega)
      have f3 := e3 (by omega)
      clear c0 c1 c2 c3 e1 e2 e3
      go_enter Tryd.func67, Tryd.ntmps67
      go_wp2
      go_rounds 4
      all_goals
        go_ret
        refine ⟨ret_int ?_, rfl⟩
        rw [D.out]
        clear D
        simp only [bne_iff_ne, ne_eq, bne_eq_false_iff_eq] at *
        split <;> omega
    · clear c0 c1 c2 c3 e1 e2 e3
      go_enter Tryd.func67, Tryd.ntmps67
      go_wp2
      go_ret
      refine ⟨ret_int ?_, rfl⟩
      rw [D.out, if_neg (by omega)]; rfl
  · have t4 : (((b0 : Int) / 8) == 30) = false := by simp; omega
    have D := Lib.hid (show seqD (s.size - i) b0 b1 b2 b3 = 0 by rw [seqD, if_neg c0, if_neg c1, if_neg c2, if_neg c3])
    clear c0 c1 c2 c3 e1 e2 e3
    go_enter Tryd.func67, Tryd.ntmps67
    go_wp2
    go_ret
    refine ⟨ret_int ?_, rfl⟩
    rw [D.out]; rfl
end Go.Proofs.YtlgklkokadbpeaaDoor
