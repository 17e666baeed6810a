import Derived.Test.YtfchnfnifpopnaaGreatDoorMa0
set_option maxRecDepth 100000
set_option maxHeartbeats 64000000
namespace Go.Proofs.YtfchnfnifpopnaaGreatDoor
open Go.RowKit
theorem ret_int {k : IntKind} {a b : Int} (h : a = b) : Ending.returned (.int k a) = .returned (.int k b) := by
 rw [h]
def byteN (s : ByteArray) (k : Nat) : Nat := (s.data[k]!).toNat
theorem byteN_lt (s : ByteArray) (k : Nat) : byteN s k < 256 := UInt8.toNat_lt _
theorem bget (s : ByteArray) (k : Nat) (h : k < s.size) : s[k] = s.data[k]! := by
 have h' : k < s.data.size := h
 show s.data[k] = s.data[k]!
 rw [getElem!_pos s.data k h']
theorem byteN_at (s : ByteArray) (k : Nat) (h : k < s.size) : (s[k]).toNat = byteN s k := by rw [bget s k h]; rfl
def letterB (c : Nat) : Bool := decide (97 ≤ c ∧ c ≤ 122 ∨ 65 ≤ c ∧ c ≤ 90 ∨ c = 95 ∨ c = 36)
def digitB (c : Nat) : Bool := decide (48 ≤ c ∧ c ≤ 57)
def alnumB (c : Nat) : Bool := letterB c || digitB c
def wordF (s : ByteArray) : Nat → Nat → Nat
 | 0, i => i
 | k + 1, i => if i < s.size ∧ alnumB (byteN s i) = true then wordF s k (i + 1) else i
def wordN (s : ByteArray) (i : Nat) : Nat := wordF s (s.size - i) i
theorem word_go {s : ByteArray} {i : Nat} (h : i < s.size) (ha : alnumB (byteN s i) = true) : wordN s i = wordN s (i + 1) := by
 unfold wordN
 obtain ⟨k, hk⟩ : ∃ k, s.size - i = k + 1 := ⟨s.size - i - 1, by omega⟩
 rw [hk, wordF, if_pos ⟨h, ha⟩]
 congr 1; omega
theorem word_stop {s : ByteArray} {i : Nat} (ha : ¬ (i < s.size ∧ alnumB (byteN s i) = true)) : wordN s i = i := by
 unfold wordN
 cases hk : s.size - i with
 | zero => rfl
 | succ k => rw [wordF, if_neg ha]
theorem letter_prog (c : Nat) (w : World) (hc : c < 256) :
  Calls Tryz.prog 101 #[.int .u8 c] w fun e w' => e = .returned (.bool (letterB c)) ∧ w = w' := by
 by_cases h1 : 97 ≤ c
 ·by_cases h2 : c ≤ 122
  ·have D := Lib.hid (show letterB c = true by unfold letterB; simp; omega)
   have t1 : ((97 : Int) ≤ c) := by omega
   have t2 : ((c : Int) ≤ 122) := by omega
   go_enter Tryz.func101, Tryz.ntmps101
   go_wp2
   go_ret
   exact ⟨by rw [D.out]; rfl, rfl⟩
  ·have D := Lib.hid (show letterB c = false by unfold letterB; simp; omega)
   have t1 : ((97 : Int) ≤ c) := by omega
   have t2 : ¬ ((c : Int) ≤ 122) := by omega
   have t3 : ¬ ((c : Int) ≤ 90) := by omega
   have t4 : ((c : Int) == 95) = false := by simp; omega
   have t5 : ((c : Int) == 36) = false := by simp; omega
   go_enter Tryz.func101, Tryz.ntmps101
   go_wp2
   go_ret
   exact ⟨by rw [D.out]; rfl, rfl⟩
 ·have t1 : ¬ ((97 : Int) ≤ c) := by omega
  by_cases h3 : 65 ≤ c ∧ c ≤ 90
  ·have D := Lib.hid (show letterB c = true by unfold letterB; simp; omega)
   have t2 : ((65 : Int) ≤ c) := by omega
   have t3 : ((c : Int) ≤ 90) := by omega
   clear h3
   go_enter Tryz.func101, Tryz.ntmps101
   go_wp2
   go_ret
   exact ⟨by rw [D.out]; rfl, rfl⟩
  ·have hh : (65 : Int) ≤ c ∧ ¬ (c : Int) ≤ 90 ∨ ¬ (65 : Int) ≤ c := by omega
   by_cases h4 : c = 95
   ·have D := Lib.hid (show letterB c = true by unfold letterB; simp; omega)
    have t4 : ((c : Int) == 95) = true := by simp; omega
    clear h3 h4
    rcases hh with ⟨t2, t3⟩ | t2
    all_goals
     go_enter Tryz.func101, Tryz.ntmps101
     go_wp2
     go_ret
     exact ⟨by rw [D.out]; rfl, rfl⟩
   ·have t4 : ((c : Int) == 95) = false := by simp; omega
    by_cases h5 : c = 36
    ·have D := Lib.hid (show letterB c = true by unfold letterB; simp; omega)
     have t5 : ((c : Int) == 36) = true := by simp; omega
     clear h3 h4 h5
     rcases hh with ⟨t2, t3⟩ | t2
     all_goals
      go_enter Tryz.func101, Tryz.ntmps101
      go_wp2
      go_ret
      exact ⟨by rw [D.out]; rfl, rfl⟩
    ·have D := Lib.hid (show letterB c = false by unfold letterB; simp; omega)
     have t5 : ((c : Int) == 36) = false := by simp; omega
     clear h3 h4 h5
     rcases hh with ⟨t2, t3⟩ | t2
     all_goals
      go_enter Tryz.func101, Tryz.ntmps101
      go_wp2
      go_ret
      exact ⟨by rw [D.out]; rfl, rfl⟩
theorem digit_prog (c : Nat) (w : World) (_hc : c < 256) :
  Calls Tryz.prog 113 #[.int .u8 c] w fun e w' => e = .returned (.bool (digitB c)) ∧ w = w' := by
 by_cases h1 : 48 ≤ c
 ·have t1 : ((48 : Int) ≤ c) := by omega
  by_cases h2 : c ≤ 57
  ·have D := Lib.hid (show digitB c = true by unfold digitB; simp; omega)
   have t2 : ((c : Int) ≤ 57) := by omega
   go_enter Tryz.func113, Tryz.ntmps113
   go_wp2
   go_ret
   exact ⟨by rw [D.out]; rfl, rfl⟩
  ·have D := Lib.hid (show digitB c = false by unfold digitB; simp; omega)
   have t2 : ¬ ((c : Int) ≤ 57) := by omega
   go_enter Tryz.func113, Tryz.ntmps113
   go_wp2
   go_ret
   exact ⟨by rw [D.out]; rfl, rfl⟩
 ·have t1 : ¬ ((48 : Int) ≤ c) := by omega
  have D := Lib.hid (show digitB c = false by unfold digitB; simp; omega)
  go_enter Tryz.func113, Tryz.ntmps113
  go_wp2
  go_ret
  exact ⟨by rw [D.out]; rfl, rfl⟩
theorem letter_ref (c : Nat) (w : World) (hc : c < 256) :
  Calls Tryz.prog 62 #[.int .u8 c] w fun e w' => e = .returned (.bool (letterB c)) ∧ w = w' := by
 by_cases h1 : 97 ≤ c
 ·by_cases h2 : c ≤ 122
  ·have D := Lib.hid (show letterB c = true by unfold letterB; simp; omega)
   have t1 : ((97 : Int) ≤ c) := by omega
   have t2 : ((c : Int) ≤ 122) := by omega
   go_enter Tryz.func62, Tryz.ntmps62
   go_wp2
   go_ret
   exact ⟨by rw [D.out]; rfl, rfl⟩
  ·have D := Lib.hid (show letterB c = false by unfold letterB; simp; omega)
   have t1 : ((97 : Int) ≤ c) := by omega
   have t2 : ¬ ((c : Int) ≤ 122) := by omega
   have t3 : ¬ ((c : Int) ≤ 90) := by omega
   have t4 : ((c : Int) == 95) = false := by simp; omega
   have t5 : ((c : Int) == 36) = false := by simp; omega
   go_enter Tryz.func62, Tryz.ntmps62
   go_wp2
   go_ret
   exact ⟨by rw [D.out]; rfl, rfl⟩
 ·have t1 : ¬ ((97 : Int) ≤ c) := by omega
  by_cases h3 : 65 ≤ c ∧ c ≤ 90
  ·have D := Lib.hid (show letterB c = true by unfold letterB; simp; omega)
   have t2 : ((65 : Int) ≤ c) := by omega
   have t3 : ((c : Int) ≤ 90) := by omega
   clear h3
   go_enter Tryz.func62, Tryz.ntmps62
   go_wp2
   go_ret
   exact ⟨by rw [D.out]; rfl, rfl⟩
  ·have hh : (65 : Int) ≤ c ∧ ¬ (c : Int) ≤ 90 ∨ ¬ (65 : Int) ≤ c := by omega
   by_cases h4 : c = 95
   ·have D := Lib.hid (show letterB c = true by unfold letterB; simp; omega)
    have t4 : ((c : Int) == 95) = true := by simp; omega
    clear h3 h4
    rcases hh with ⟨t2, t3⟩ | t2
    all_goals
     go_enter Tryz.func62, Tryz.ntmps62
     go_wp2
     go_ret
     exact ⟨by rw [D.out]; rfl, rfl⟩
   ·have t4 : ((c : Int) == 95) = false := by simp; omega
    by_cases h5 : c = 36
    ·have D := Lib.hid (show letterB c = true by unfold letterB; simp; omega)
     have t5 : ((c : Int) == 36) = true := by simp; omega
     clear h3 h4 h5
     rcases hh with ⟨t2, t3⟩ | t2
     all_goals
      go_enter Tryz.func62, Tryz.ntmps62
      go_wp2
      go_ret
      exact ⟨by rw [D.out]; rfl, rfl⟩
    ·have D := Lib.hid (show letterB c = false by unfold letterB; simp; omega)
     have t5 : ((c : Int) == 36) = false := by simp; omega
     clear h3 h4 h5
     rcases hh with ⟨t2, t3⟩ | t2
     all_goals
      go_enter Tryz.func62, Tryz.ntmps62
      go_wp2
      go_ret
      exact ⟨by rw [D.out]; rfl, rfl⟩
theorem digit_ref (c : Nat) (w : World) (_hc : c < 256) :
  Calls Tryz.prog 83 #[.int .u8 c] w fun e w' => e = .returned (.bool (digitB c)) ∧ w = w' := by
 by_cases h1 : 48 ≤ c
 ·have t1 : ((48 : Int) ≤ c) := by omega
  by_cases h2 : c ≤ 57
  ·have D := Lib.hid (show digitB c = true by unfold digitB; simp; omega)
   have t2 : ((c : Int) ≤ 57) := by omega
   go_enter Tryz.func83, Tryz.ntmps83
   go_wp2
   go_ret
   exact ⟨by rw [D.out]; rfl, rfl⟩
  ·have D := Lib.hid (show digitB c = false by unfold digitB; simp; omega)
   have t2 : ¬ ((c : Int) ≤ 57) := by omega
   go_enter Tryz.func83, Tryz.ntmps83
   go_wp2
   go_ret
   exact ⟨by rw [D.out]; rfl, rfl⟩
 ·have t1 : ¬ ((48 : Int) ≤ c) := by omega
  have D := Lib.hid (show digitB c = false by unfold digitB; simp; omega)
  go_enter Tryz.func83, Tryz.ntmps83
  go_wp2
  go_ret
  exact ⟨by rw [D.out]; rfl, rfl⟩
theorem aword_prog (s : ByteArray) (i : Nat) (w : World) (hs : s.size ≤ 1000000000000000) (hi : i ≤ s.size) :
  Calls Tryz.prog 102 #[.string s, .int .i64 i] w fun e w' => e = .returned (.int .i64 (wordN s i)) ∧ w = w' := by
 go_enter Tryz.func102, Tryz.ntmps102
 go_wp2
 go_loop [1] (fun v => ∃ k : Nat, i ≤ k ∧ k ≤ s.size ∧ v = .int .i64 k ∧ wordN s k = wordN s i) (fun v => s.size - (intOf v).toNat)
 case atStart => exact ⟨i, by omega, hi, rfl, rfl⟩
 case round =>
  obtain ⟨k, hk1, hk, rfl, hc⟩ := hrel
  have HC := Lib.hid hc
  clear hc
  by_cases hlt : k < s.size
  ·have hb := byteN_at s k hlt
   have hu := byteN_lt s k
   have kl := letter_prog (byteN s k) w hu
   have kd := digit_prog (byteN s k) w hu
   have hgo := Lib.hid (word_go hlt)
   have hst := Lib.hid (@word_stop s k)
   unfold alnumB at hgo hst
   generalize byteN s k = b at *
   cases h1 : letterB b with
   | true =>
    rw [h1] at kl
    have KL := Lib.hid kl
    have G := Lib.hid (hgo.out (by rw [h1]; rfl))
    clear kl kd h1 hgo hst
    go_wp2_with (go_at_call 101; refine KL.out.mono ?_; rintro e w1 ⟨rfl, rfl⟩)
    go_round
    case rel => exact ⟨k + 1, by omega, by omega, by go_num, by rw [← G.out, HC.out]⟩
    case measure => simp [intOf]; omega
   | false =>
    rw [h1] at kl
    have KL := Lib.hid kl
    cases h2 : digitB b with
    | true =>
     rw [h2] at kd
     have KD := Lib.hid kd
     have G := Lib.hid (hgo.out (by rw [h1, h2]; rfl))
     clear kl kd h1 h2 hgo hst
     go_wp2_with (first | (go_at_call 101; refine KL.out.mono ?_; rintro e w1 ⟨rfl, rfl⟩) | (go_at_call 113; refine KD.out.mono ?_; rintro e w1 ⟨rfl, rfl⟩))
     go_round
     case rel => exact ⟨k + 1, by omega, by omega, by go_num, by rw [← G.out, HC.out]⟩
     case measure => simp [intOf]; omega
    | false =>
     rw [h2] at kd
     have KD := Lib.hid kd
     have G := Lib.hid (hst.out (by rw [h1, h2]; simp))
     clear kl kd h1 h2 hgo hst
     go_wp2_with (first | (go_at_call 101; refine KL.out.mono ?_; rintro e w1 ⟨rfl, rfl⟩) | (go_at_call 113; refine KD.out.mono ?_; rintro e w1 ⟨rfl, rfl⟩))
     go_ret
     exact ⟨ret_int (by rw [← HC.out, G.out]), rfl⟩
  ·obtain rfl : k = s.size := by omega
   have G := Lib.hid (@word_stop s s.size (by omega))
   go_wp2
   go_ret
   exact ⟨ret_int (by rw [← HC.out, G.out]), rfl⟩
theorem aword_ref (s : ByteArray) (i : Nat) (w : World) (hs : s.size ≤ 1000000000000000) (hi : i ≤ s.size) :
  Calls Tryz.prog 63 #[.string s, .int .i64 i] w fun e w' => e = .returned (.int .i64 (wordN s i)) ∧ w = w' := by
 go_enter Tryz.func63, Tryz.ntmps63
 go_wp2
 go_loop [1] (fun v => ∃ k : Nat, i ≤ k ∧ k ≤ s.size ∧ v = .int .i64 k ∧ wordN s k = wordN s i) (fun v => s.size - (intOf v).toNat)
 case atStart => exact ⟨i, by omega, hi, rfl, rfl⟩
 case round =>
  obtain ⟨k, hk1, hk, rfl, hc⟩ := hrel
  have HC := Lib.hid hc
  clear hc
  by_cases hlt : k < s.size
  ·have hb := byteN_at s k hlt
   have hu := byteN_lt s k
   have kl := letter_ref (byteN s k) w hu
   have kd := digit_ref (byteN s k) w hu
   have hgo := Lib.hid (word_go hlt)
   have hst := Lib.hid (@word_stop s k)
   unfold alnumB at hgo hst
   generalize byteN s k = b at *
   cases h1 : letterB b with
   | true =>
    rw [h1] at kl
    have KL := Lib.hid kl
    have G := Lib.hid (hgo.out (by rw [h1]; rfl))
    clear kl kd h1 hgo hst
    go_wp2_with (go_at_call 62; refine KL.out.mono ?_; rintro e w1 ⟨rfl, rfl⟩)
    go_round
    case rel => exact ⟨k + 1, by omega, by omega, by go_num, by rw [← G.out, HC.out]⟩
    case measure => simp [intOf]; omega
   | false =>
    rw [h1] at kl
    have KL := Lib.hid kl
    cases h2 : digitB b with
    | true =>
     rw [h2] at kd
     have KD := Lib.hid kd
     have G := Lib.hid (hgo.out (by rw [h1, h2]; rfl))
     clear kl kd h1 h2 hgo hst
     go_wp2_with (first | (go_at_call 62; refine KL.out.mono ?_; rintro e w1 ⟨rfl, rfl⟩) | (go_at_call 83; refine KD.out.mono ?_; rintro e w1 ⟨rfl, rfl⟩))
     go_round
     case rel => exact ⟨k + 1, by omega, by omega, by go_num, by rw [← G.out, HC.out]⟩
     case measure => simp [intOf]; omega
    | false =>
     rw [h2] at kd
     have KD := Lib.hid kd
     have G := Lib.hid (hst.out (by rw [h1, h2]; simp))
     clear kl kd h1 h2 hgo hst
     go_wp2_with (first | (go_at_call 62; refine KL.out.mono ?_; rintro e w1 ⟨rfl, rfl⟩) | (go_at_call 83; refine KD.out.mono ?_; rintro e w1 ⟨rfl, rfl⟩))
     go_ret
     exact ⟨ret_int (by rw [← HC.out, G.out]), rfl⟩
  ·obtain rfl : k = s.size := by omega
   have G := Lib.hid (@word_stop s s.size (by omega))
   go_wp2
   go_ret
   exact ⟨ret_int (by rw [← HC.out, G.out]), rfl⟩
def wordsL : List (List UInt8) := [[105, 109, 112, 111, 114, 116], [102, 114, 111, 109], [101, 120, 112, 111, 114, 116], [116, 121, 112, 101], [105, 110, 116, 101, 114, 102, 97, 99, 101], [99, 108, 97, 115, 115], [101, 120, 116, 101, 110, 100, 115], [105, 109, 112, 108, 101, 109, 101, 110, 116, 115], [102, 117, 110, 99, 116, 105, 111, 110], [99, 111, 110, 115, 116], [108, 101, 116], [109, 117, 116], [105, 102], [101, 108, 115, 101], [119, 104, 105, 108, 101], [114, 101, 116, 117, 114, 110], [116, 104, 114, 111, 119], [116, 114, 121], [99, 97, 116, 99, 104], [110, 101, 119], [116, 104, 105, 115], [116, 114, 117, 101], [102, 97, 108, 115, 101], [110, 117, 108, 108], [116, 121, 112, 101, 111, 102], [97, 115], [107, 101, 121, 111, 102], [105, 110, 102, 101, 114], [105, 110], [97, 110, 121], [117, 110, 107, 110, 111, 119, 110], [110, 101, 118, 101, 114], [98, 111, 111, 108, 101, 97, 110], [110, 117, 109, 98, 101, 114], [115, 116, 114, 105, 110, 103]]
def resL (l : List UInt8) : Bool := wordsL.any fun x => l == x
theorem res_or (l : List UInt8) : resL l = (l == [105, 109, 112, 111, 114, 116] || (l == [102, 114, 111, 109] || (l == [101, 120, 112, 111, 114, 116] || (l == [116, 121, 112, 101] || (l == [105, 110, 116, 101, 114, 102, 97, 99, 101] || (l == [99, 108, 97, 115, 115] || (l == [101, 120, 116, 101, 110, 100, 115] || (l == [105, 109, 112, 108, 101, 109, 101, 110, 116, 115] || (l == [102, 117, 110, 99, 116, 105, 111, 110] || (l == [99, 111, 110, 115, 116] || (l == [108, 101, 116] || (l == [109, 117, 116] || (l == [105, 102] || (l == [101, 108, 115, 101] || (l == [119, 104, 105, 108, 101] || (l == [114, 101, 116, 117, 114, 110] || (l == [116, 104, 114, 111, 119] || (l == [116, 114, 121] || (l == [99, 97, 116, 99, 104] || (l == [110, 101, 119] || (l == [116, 104, 105, 115] || (l == [116, 114, 117, 101] || (l == [102, 97, 108, 115, 101] || (l == [110, 117, 108, 108] || (l == [116, 121, 112, 101, 111, 102] || (l == [97, 115] || (l == [107, 101, 121, 111, 102] || (l == [105, 110, 102, 101, 114] || (l == [105, 110] || (l == [97, 110, 121] || (l == [117, 110, 107, 110, 111, 119, 110] || (l == [110, 101, 118, 101, 114] || (l == [98, 111, 111, 108, 101, 97, 110] || (l == [110, 117, 109, 98, 101, 114] || (l == [115, 116, 114, 105, 110, 103] || false))))))))))))))))))))))))))))))))))) := rfl
theorem reserved_prog (s : ByteArray) (w : World) :
  Calls Tryz.prog 103 #[.string s] w fun e w' => e = .returned (.bool (resL s.toList)) ∧ w = w' := by
 have D := Lib.hid (res_or s.toList)
 go_enter Tryz.func103, Tryz.ntmps103
 go_wp2
 all_goals first
  | (have h2 := ‹_ = false›; have h3 := h2.symm.trans (show _ = true by assumption); exact absurd h3 (by decide))
  | (go_ret; exact ⟨by rw [D.out]; simp only [*, Bool.true_or, Bool.or_true, Bool.or_false]; rfl, rfl⟩)
  | (go_ret; exact ⟨by rw [D.out]; simp only [*, Bool.true_or, Bool.or_true, Bool.or_false], rfl⟩)
def wordVs : List Value := wordsL.map fun l => Value.string ⟨l.toArray⟩
theorem words_ref (w : World) :
  Calls Tryz.prog 84 #[] w fun e w' => e = .returned (.slice (some ⟨w.heap.size, 0, none⟩) 35 35) ∧ w' = w.alloc (.cells wordVs.toArray 9) := by
 go_enter Tryz.func84, Tryz.ntmps84
 go_wp2
 go_ret
 exact ⟨rfl, rfl⟩
theorem words_cell (w : World) (k : Nat) (h : k < 35) : (w.alloc (.cells wordVs.toArray 9)).cell? ⟨w.heap.size, k, none⟩ = some (.string ⟨(wordsL.getD k []).toArray⟩) := by
 rw [World.cell?_alloc_at _ _ _ _ rfl]
 have h1 : k < wordsL.length := h
 simp [wordVs, List.getD_eq_getElem?_getD, List.getElem?_eq_getElem h1]
theorem reserved_ref (s : ByteArray) (w : World) :
  Calls Tryz.prog 64 #[.string s] w fun e w' => e = .returned (.bool (resL s.toList)) ∧ Below w.heap.size w w' := by
 have K := Lib.hid (words_ref w)
 have C := Lib.hid (words_cell w)
 have HB := Lib.hid ((Below.refl w.heap.size w).alloc (Nat.le_refl _) (.cells wordVs.toArray 9))
 go_enter Tryz.func64, Tryz.ntmps64
 go_wp2_with fail
 refine K.out.mono ?_
 rintro e w1 ⟨rfl, hw1⟩
 rw [← hw1] at HB C
 clear hw1
 go_wp2_with fail
 go_loop [4] (fun v => ∃ k : Nat, k ≤ 35 ∧ v = .int .i64 k ∧ ∀ j, j < k → (s.toList == wordsL.getD j []) = false) (fun v => 35 - (intOf v).toNat)
 case atStart => exact ⟨0, by omega, by go_num, fun j h => absurd h (by omega)⟩
 case round =>
  obtain ⟨k, hk, rfl, hno⟩ := hrel
  have HN := Lib.hid hno
  clear hno
  by_cases hlt : k < 35
  ·have f1 := C.out k hlt
   have hin : wordsL.getD k [] ∈ wordsL := by
    rw [List.getD_eq_getElem?_getD, List.getElem?_eq_getElem (show k < wordsL.length from hlt)]
    exact List.getElem_mem _
   cases hq : (s.toList == wordsL.getD k []) with
   | true =>
    have HR := Lib.hid (show resL s.toList = true from List.any_eq_true.2 ⟨_, hin, hq⟩)
    clear hin
    have hq2 : (wordsL.getD k [] == s.toList) = true := by rw [beq_iff_eq] at hq ⊢; exact hq.symm
    generalize wordsL.getD k [] = x at *
    clear hq
    go_wp2_with fail
    go_ret
    exact ⟨by rw [HR.out]; rfl, HB.out⟩
   | false =>
    have HN' : Hid (∀ j, j < k + 1 → (s.toList == wordsL.getD j []) = false) := Lib.hid (fun j hj => by
     rcases Nat.lt_or_ge j k with h | h
     ·exact HN.out j h
     ·obtain rfl : j = k := by omega
      exact hq)
    clear hin
    have hq2 : (wordsL.getD k [] == s.toList) = false := by
     cases h : (wordsL.getD k [] == s.toList) with
     | false => rfl
     | true => rw [beq_iff_eq] at h; rw [h] at hq; simp at hq
    generalize wordsL.getD k [] = x at f1 hq2
    clear hq
    go_wp2_with fail
    go_round
    case rel => exact ⟨k + 1, by omega, by go_num, HN'.out⟩
    case measure => simp [intOf]; omega
  ·obtain rfl : k = 35 := by omega
   have HR := Lib.hid (show resL s.toList = false from by
    rw [resL, List.any_eq_false]
    intro x hx
    obtain ⟨j, hj, rfl⟩ := List.getElem_of_mem hx
    have := HN.out j hj
    rw [List.getD_eq_getElem?_getD, List.getElem?_eq_getElem hj] at this
    simpa using this)
   go_wp2_with fail
   go_ret
   exact ⟨by rw [HR.out]; rfl, HB.out⟩
theorem toList_eq (s : ByteArray) : s.toList = s.data.toList := ByteArray.toList_eq s
theorem toList_nil {s : ByteArray} (h : s.size = 0) : s.toList = [] := by
 rw [toList_eq]
 exact List.eq_nil_of_length_eq_zero (by simpa using h)
theorem size_nil {s : ByteArray} (h : s.toList = []) : s.size = 0 := by
 rw [toList_eq] at h
 have := congrArg List.length h
 simpa using this
def idB (s : ByteArray) : Bool := decide (0 < s.size) && letterB (byteN s 0) && (wordN s 0 == s.size) && !resL s.toList
theorem isname_prog (s : ByteArray) (w : World) (hs : s.size ≤ 1000000000000000) :
  Calls Tryz.prog 85 #[.string s] w fun e w' => e = .returned (.bool (idB s)) ∧ Below w.heap.size w w' := by
 by_cases h0 : s.size = 0
 ·have D := Lib.hid (show idB s = false by simp [idB, h0])
  have t0 : s.toList = [] := toList_nil h0
  have t1 : s.toList.isEmpty = true := by rw [t0]; rfl
  go_enter Tryz.func85, Tryz.ntmps85
  go_wp2
  go_ret
  exact ⟨by rw [D.out]; rfl, Below.refl _ _⟩
 ·have t0 : ¬ s.toList = [] := fun h => h0 (size_nil h)
  have t1 : s.toList.isEmpty = false := by simpa using t0
  have hp : 0 < s.size := by omega
  have hb := byteN_at s 0 hp
  have hu := byteN_lt s 0
  have kl := letter_prog (byteN s 0) w hu
  cases h1 : letterB (byteN s 0) with
  | false =>
   have D := Lib.hid (show idB s = false by simp [idB, h1])
   rw [h1] at kl
   have KL := Lib.hid kl
   clear kl h1 t0
   generalize byteN s 0 = b at *
   go_enter Tryz.func85, Tryz.ntmps85
   go_wp2_with (go_at_call 101; refine KL.out.mono ?_; rintro e w1 ⟨rfl, rfl⟩)
   go_ret
   exact ⟨by rw [D.out]; rfl, Below.refl _ _⟩
  | true =>
   rw [h1] at kl
   have KL := Lib.hid kl
   have KW := Lib.hid (aword_prog s 0 w hs (by omega))
   have HD := Lib.hid (show idB s = ((wordN s 0 == s.size) && !resL s.toList) by simp [idB, h1, hp])
   clear kl h1 t0
   generalize byteN s 0 = b at *
   generalize hn : wordN s 0 = n at *
   clear hn
   by_cases hq : n = s.size
   ·subst hq
    have D := Lib.hid (show idB s = !resL s.toList by rw [HD.out]; simp)
    clear HD
    have t3 : (((s.size : Nat) : Int) == (s.size : Int)) = true := by simp
    have KR := Lib.hid (reserved_prog s w)
    cases hr : resL s.toList with
    | true =>
     rw [hr] at KR D
     clear hr
     go_enter Tryz.func85, Tryz.ntmps85
     go_wp2_with (first | (go_at_call 101; refine KL.out.mono ?_; rintro e w1 ⟨rfl, rfl⟩) | (go_at_call 102; refine KW.out.mono ?_; rintro e w1 ⟨rfl, rfl⟩) | (go_at_call 103; refine KR.out.mono ?_; rintro e w1 ⟨rfl, rfl⟩))
     go_ret
     exact ⟨by rw [D.out]; rfl, (Below.refl _ _)⟩
    | false =>
     rw [hr] at KR D
     clear hr
     go_enter Tryz.func85, Tryz.ntmps85
     go_wp2_with (first | (go_at_call 101; refine KL.out.mono ?_; rintro e w1 ⟨rfl, rfl⟩) | (go_at_call 102; refine KW.out.mono ?_; rintro e w1 ⟨rfl, rfl⟩) | (go_at_call 103; refine KR.out.mono ?_; rintro e w1 ⟨rfl, rfl⟩))
     go_ret
     exact ⟨by rw [D.out]; rfl, (Below.refl _ _)⟩
   ·have D := Lib.hid (show idB s = false by rw [HD.out]; simp [hq])
    clear HD
    have t3 : ((n : Int) == (s.size : Int)) = false := by simp; omega
    go_enter Tryz.func85, Tryz.ntmps85
    go_wp2_with (first | (go_at_call 101; refine KL.out.mono ?_; rintro e w1 ⟨rfl, rfl⟩) | (go_at_call 102; refine KW.out.mono ?_; rintro e w1 ⟨rfl, rfl⟩))
    go_ret
    exact ⟨by rw [D.out]; rfl, Below.refl _ _⟩
theorem isname_ref (s : ByteArray) (w : World) (hs : s.size ≤ 1000000000000000) :
  Calls Tryz.prog 45 #[.string s] w fun e w' => e = .returned (.bool (idB s)) ∧ Below w.heap.size w w' := by
 by_cases h0 : s.size = 0
 ·have D := Lib.hid (show idB s = false by simp [idB, h0])
  have t0 : s.toList = [] := toList_nil h0
  have t1 : s.toList.isEmpty = true := by rw [t0]; rfl
  go_enter Tryz.func45, Tryz.ntmps45
  go_wp2
  go_ret
  exact ⟨by rw [D.out]; rfl, Below.refl _ _⟩
 ·have t0 : ¬ s.toList = [] := fun h => h0 (size_nil h)
  have t1 : s.toList.isEmpty = false := by simpa using t0
  have hp : 0 < s.size := by omega
  have hb := byteN_at s 0 hp
  have hu := byteN_lt s 0
  have kl := letter_ref (byteN s 0) w hu
  cases h1 : letterB (byteN s 0) with
  | false =>
   have D := Lib.hid (show idB s = false by simp [idB, h1])
   rw [h1] at kl
   have KL := Lib.hid kl
   clear kl h1 t0
   generalize byteN s 0 = b at *
   go_enter Tryz.func45, Tryz.ntmps45
   go_wp2_with (go_at_call 62; refine KL.out.mono ?_; rintro e w1 ⟨rfl, rfl⟩)
   go_ret
   exact ⟨by rw [D.out]; rfl, Below.refl _ _⟩
  | true =>
   rw [h1] at kl
   have KL := Lib.hid kl
   have KW := Lib.hid (aword_ref s 0 w hs (by omega))
   have HD := Lib.hid (show idB s = ((wordN s 0 == s.size) && !resL s.toList) by simp [idB, h1, hp])
   clear kl h1 t0
   generalize byteN s 0 = b at *
   generalize hn : wordN s 0 = n at *
   clear hn
   by_cases hq : n = s.size
   ·subst hq
    have D := Lib.hid (show idB s = !resL s.toList by rw [HD.out]; simp)
    clear HD
    have t3 : (((s.size : Nat) : Int) == (s.size : Int)) = true := by simp
    have KR := Lib.hid (reserved_ref s w)
    cases hr : resL s.toList with
    | true =>
     rw [hr] at KR D
     clear hr
     go_enter Tryz.func45, Tryz.ntmps45
     go_wp2_with (first | (go_at_call 62; refine KL.out.mono ?_; rintro e w1 ⟨rfl, rfl⟩) | (go_at_call 63; refine KW.out.mono ?_; rintro e w1 ⟨rfl, rfl⟩) | (go_at_call 64; refine KR.out.mono ?_; rintro e w1 ⟨rfl, hb1⟩))
     go_ret
     exact ⟨by rw [D.out]; rfl, hb1⟩
    | false =>
     rw [hr] at KR D
     clear hr
     go_enter Tryz.func45, Tryz.ntmps45
     go_wp2_with (first | (go_at_call 62; refine KL.out.mono ?_; rintro e w1 ⟨rfl, rfl⟩) | (go_at_call 63; refine KW.out.mono ?_; rintro e w1 ⟨rfl, rfl⟩) | (go_at_call 64; refine KR.out.mono ?_; rintro e w1 ⟨rfl, hb1⟩))
     go_ret
     exact ⟨by rw [D.out]; rfl, hb1⟩
   ·have D := Lib.hid (show idB s = false by rw [HD.out]; simp [hq])
    clear HD
    have t3 : ((n : Int) == (s.size : Int)) = false := by simp; omega
    go_enter Tryz.func45, Tryz.ntmps45
    go_wp2_with (first | (go_at_call 62; refine KL.out.mono ?_; rintro e w1 ⟨rfl, rfl⟩) | (go_at_call 63; refine KW.out.mono ?_; rintro e w1 ⟨rfl, rfl⟩))
    go_ret
    exact ⟨by rw [D.out]; rfl, Below.refl _ _⟩
def trimF : Nat → ByteArray → ByteArray
 | 0, s => s
 | n + 1, s => if 0 < s.size ∧ byteN s (s.size - 1) = 39 then trimF n (s.extract 0 (s.size - 1)) else s
def trimQ (s : ByteArray) : ByteArray := trimF s.size s
def nameT (s : ByteArray) : Bool := idB (trimQ s)
theorem trim_go {s : ByteArray} {m : Nat} (h : s.size = m + 1) (hb : byteN s m = 39) : trimQ s = trimQ (s.extract 0 m) := by
 have h2 : (s.extract 0 m).size = m := by rw [ByteArray.size_extract]; omega
 unfold trimQ
 rw [h2, h, trimF, if_pos ⟨by omega, by rw [h]; exact hb⟩, h]
 rfl
theorem trim_stop {s : ByteArray} {m : Nat} (h : s.size = m + 1) (hb : byteN s m ≠ 39) : trimQ s = s := by
 unfold trimQ
 rw [h, trimF, if_neg (fun hx => hb (by have := hx.2; rw [h] at this; exact this))]
theorem trim_none {s : ByteArray} (h : s.size = 0) : trimQ s = s := by
 unfold trimQ
 rw [h]; rfl
theorem wrap_small {n : Int} (h : 0 ≤ n) (h2 : n ≤ 1000000000000000000) : wrap64 n = n := by
 have e : IntKind.i64.wrap n = wrap64 n := by unfold wrap64; exact IntKind.wrap_i64 n
 rw [← e]
 simp [IntKind.wrap, IntKind.bits, IntKind.signed]
 omega
theorem trimF_size : ∀ n s, (trimF n s).size ≤ s.size
 | 0, _ => Nat.le_refl _
 | n + 1, s => by
  rw [trimF]
  split
  ·refine Nat.le_trans (trimF_size n _) ?_
   rw [ByteArray.size_extract]; omega
  ·exact Nat.le_refl _
theorem trimQ_size (s : ByteArray) : (trimQ s).size ≤ s.size := trimF_size _ _
theorem sz_extract (t : ByteArray) {m : Nat} (h : t.size = m + 1) : (t.extract 0 m).size = m := by rw [ByteArray.size_extract]; omega
theorem trimR_prog (s : ByteArray) (w : World) (hs : s.size ≤ 1000000000000000) :
  Calls Tryz.prog 104 #[.string s, .int .u8 39] w fun e w' => e = .returned (.string (trimQ s)) ∧ w' = w := by
 go_enter Tryz.func104, Tryz.ntmps104
 go_wp2_with fail
 go_loopw [0] (fun v wr => ∃ t : ByteArray, v = .string t ∧ t.size ≤ s.size ∧ trimQ t = trimQ s ∧ wr = w) (fun v _ => match v with | .string t => t.size | _ => 0)
 case atStart => exact ⟨s, rfl, Nat.le_refl _, rfl, rfl⟩
 case round =>
  obtain ⟨t, rfl, ht, hq, rfl⟩ := hrel
  have HQ := Lib.hid hq
  clear hq
  cases hm : t.size with
  | zero =>
   have HF := Lib.hid (trim_none hm)
   go_wp2_with fail
   go_ret
   exact ⟨by rw [← HQ.out, HF.out]; rfl, rfl⟩
  | succ m =>
   have hb := byteN_at t m (by omega)
   have HM := Lib.hid hm
   have i0 : (0 : Int) ≤ (m : Int) := by omega
   have i1 : (m : Int) < (m : Int) + 1 := by omega
   have wr1 : wrap64 (((m + 1 : Nat) : Int) - 1) = (m : Int) := by rw [wrap_small (by omega) (by omega)]; omega
   have wr3 : wrap64 (m : Int) = (m : Int) := wrap_small (by omega) (by omega)
   have HSZ := Lib.hid (sz_extract t hm)
   by_cases h39 : byteN t m = 39
   ·have HG := Lib.hid (trim_go hm h39)
    have te : ((byteN t m : Int) == 39) = true := by simp; omega
    have HT := Lib.hid ht
    clear h39 ht
    generalize byteN t m = bb at hb te
    go_wp2_with fail
    refine ⟨⟨t.extract 0 m, by first | rfl | (rw [wr3]; rfl), by rw [HSZ.out]; have := HT.out; have := HM.out; omega, by rw [← HG.out, HQ.out], by first | rfl | trivial⟩, ?_⟩
    try rw [wr3]
    show (t.extract 0 m).size < t.size
    rw [HSZ.out, HM.out]; omega
   ·have HF := Lib.hid (trim_stop hm h39)
    have te : ((byteN t m : Int) == 39) = false := by simp; omega
    have te2 : (byteN t m == 39) = false := by simpa using h39
    clear ht
    generalize byteN t m = bb at hb te te2 h39
    go_wp2_with fail
    go_ret
    exact ⟨by rw [← HQ.out, HF.out]; rfl, rfl⟩
theorem trim_prog (s : ByteArray) (w : World) (hs : s.size ≤ 1000000000000000) :
  Calls Tryz.prog 86 #[.string s, .string ⟨#[39]⟩] w fun e w' => e = .returned (.string (trimQ s)) ∧ w' = w := by
 cases hl : s.toList with
 | nil =>
  have HF := Lib.hid (trim_none (size_nil hl))
  have HQ := Lib.hid hl
  go_enter Tryz.func86, Tryz.ntmps86
  go_wp2_with fail
  go_ret
  exact ⟨by rw [HF.out]; rfl, rfl⟩
 | cons a l =>
  have KT := Lib.hid (trimR_prog s w hs)
  go_enter Tryz.func86, Tryz.ntmps86
  go_wp2_with fail
  refine KT.out.mono ?_
  rintro e w1 ⟨rfl, rfl⟩
  go_wp2_with fail
  go_ret
  exact ⟨rfl, rfl⟩
theorem name_prog (s : ByteArray) (w : World) (hs : s.size ≤ 1000000000000000) :
  Calls Tryz.prog 65 #[.string s] w fun e w' => e = .returned (.bool (nameT s)) ∧ Below w.heap.size w w' := by
 have KT := Lib.hid (trim_prog s w hs)
 have KI := Lib.hid (isname_prog (trimQ s) w (Nat.le_trans (trimQ_size s) hs))
 unfold nameT
 generalize idB (trimQ s) = r at KI ⊢
 generalize trimQ s = q at KT KI
 go_enter Tryz.func65, Tryz.ntmps65
 go_wp2_with fail
 refine KT.out.mono ?_
 rintro e w1 ⟨rfl, rfl⟩
 go_wp2_with fail
 refine KI.out.mono ?_
 rintro e w2 ⟨rfl, hb⟩
 have HB := Lib.hid hb
 clear hb
 go_wp2_with fail
 go_ret
 exact ⟨rfl, HB.out⟩
theorem name_ref (s : ByteArray) (w : World) (hs : s.size ≤ 1000000000000000) :
  Calls Tryz.prog 29 #[.string s] w fun e w' => e = .returned (.bool (nameT s)) ∧ Below w.heap.size w w' := by
 have KI : Hid (∀ t : ByteArray, t.size ≤ s.size → trimQ t = t → trimQ t = trimQ s → Calls Tryz.prog 45 #[.string t] w fun e w' => e = .returned (.bool (nameT s)) ∧ Below w.heap.size w w') := Lib.hid fun t ht h1 h2 => by
  unfold nameT
  rw [← h2, h1]
  exact isname_ref t w (Nat.le_trans ht hs)
 generalize nameT s = r at KI ⊢
 go_enter Tryz.func29, Tryz.ntmps29
 go_wp2_with fail
 go_loopw [0] (fun v wr => ∃ t : ByteArray, v = .string t ∧ t.size ≤ s.size ∧ trimQ t = trimQ s ∧ wr = w) (fun v _ => match v with | .string t => t.size | _ => 0)
 case atStart => exact ⟨s, rfl, Nat.le_refl _, rfl, rfl⟩
 case round =>
  obtain ⟨t, rfl, ht, hq, rfl⟩ := hrel
  have HQ := Lib.hid hq
  clear hq
  cases hm : t.size with
  | zero =>
   have KT := Lib.hid (KI.out t ht (trim_none hm) HQ.out)
   clear ht
   go_wp2_with fail
   refine KT.out.mono ?_
   rintro e w2 ⟨rfl, hb⟩
   have HB := Lib.hid hb
   clear hb
   go_wp2_with fail
   go_ret
   exact ⟨rfl, HB.out⟩
  | succ m =>
   have hb := byteN_at t m (by omega)
   have HM := Lib.hid hm
   have i0 : (0 : Int) ≤ (m : Int) := by omega
   have i1 : (m : Int) < (m : Int) + 1 := by omega
   have wr1 : wrap64 (((m + 1 : Nat) : Int) - 1) = (m : Int) := by rw [wrap_small (by omega) (by omega)]; omega
   have wr3 : wrap64 (m : Int) = (m : Int) := wrap_small (by omega) (by omega)
   have HSZ := Lib.hid (sz_extract t hm)
   by_cases h39 : byteN t m = 39
   ·have HG := Lib.hid (trim_go hm h39)
    have te : ((byteN t m : Int) == 39) = true := by simp; omega
    have HT := Lib.hid ht
    clear h39 ht
    generalize byteN t m = bb at hb te
    go_wp2_with fail
    refine ⟨⟨t.extract 0 m, by first | rfl | (rw [wr3]; rfl), by rw [HSZ.out]; have := HT.out; have := HM.out; omega, by rw [← HG.out, HQ.out], by first | rfl | trivial⟩, ?_⟩
    try rw [wr3]
    show (t.extract 0 m).size < t.size
    rw [HSZ.out, HM.out]; omega
   ·have KT := Lib.hid (KI.out t ht (trim_stop hm h39) HQ.out)
    have te : ((byteN t m : Int) == 39) = false := by simp; omega
    have te2 : (byteN t m == 39) = false := by simpa using h39
    clear ht
    generalize byteN t m = bb at hb te te2 h39
    go_wp2_with fail
    refine KT.out.mono ?_
    rintro e w2 ⟨rfl, hb⟩
    have HB := Lib.hid hb
    clear hb
    go_wp2_with fail
    go_ret
    exact ⟨rfl, HB.out⟩
end Go.Proofs.YtfchnfnifpopnaaGreatDoor
