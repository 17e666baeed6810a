import Derived.Test.YteakkjhcdpbidaaGreatDoorMk1
import Derived.Sort.Walk0
import Derived.Test.YteakkjhcdpbidaaGreatDoorProg
namespace Go.Proofs.YteakkjhcdpbidaaGreatDoor
set_option maxRecDepth 100000
set_option maxHeartbeats 64000000
open Go.RowKit
theorem ret_int {k : IntKind} {a b : Int} (h : a = b) : Ending.returned (.int k a) = .returned (.int k b) := by
 rw [h]
def byteN (s : ByteArray) (k : Nat) : Nat := (s.data[k]!).toNat
theorem byteN_lt (s : ByteArray) (k : Nat) : byteN s k < 256 := UInt8.toNat_lt _
theorem bget (s : ByteArray) (k : Nat) (h : k < s.size) : s[k] = s.data[k]! := by
 have h' : k < s.data.size := h
 show s.data[k] = s.data[k]!
 rw [getElem!_pos s.data k h']
theorem byteN_at (s : ByteArray) (k : Nat) (h : k < s.size) : (s[k]).toNat = byteN s k := by rw [bget s k h]; rfl
def letterB (c : Nat) : Bool := decide (97 ≤ c ∧ c ≤ 122 ∨ 65 ≤ c ∧ c ≤ 90 ∨ c = 95 ∨ c = 36)
def digitB (c : Nat) : Bool := decide (48 ≤ c ∧ c ≤ 57)
def alnumB (c : Nat) : Bool := letterB c || digitB c
def wordF (s : ByteArray) : Nat → Nat → Nat
 | 0, i => i
 | k + 1, i => if i < s.size ∧ alnumB (byteN s i) = true then wordF s k (i + 1) else i
def wordN (s : ByteArray) (i : Nat) : Nat := wordF s (s.size - i) i
theorem word_go {s : ByteArray} {i : Nat} (h : i < s.size) (ha : alnumB (byteN s i) = true) : wordN s i = wordN s (i + 1) := by
 unfold wordN
 obtain ⟨k, hk⟩ : ∃ k, s.size - i = k + 1 := ⟨s.size - i - 1, by omega⟩
 rw [hk, wordF, if_pos ⟨h, ha⟩]
 congr 1; omega
theorem word_stop {s : ByteArray} {i : Nat} (ha : ¬ (i < s.size ∧ alnumB (byteN s i) = true)) : wordN s i = i := by
 unfold wordN
 cases hk : s.size - i with
 | zero => rfl
 | succ k => rw [wordF, if_neg ha]
theorem letter_prog (c : Nat) (w : World) (hc : c < 256) :
  Calls Tryz.prog 108 #[.int .u8 c] w fun e w' => e = .returned (.bool (letterB c)) ∧ w = w' := by
 by_cases h1 : 97 ≤ c
 ·by_cases h2 : c ≤ 122
  ·have D := Hd (show letterB c = true by unfold letterB; simp; omega)
   have t1 : ((97 : Int) ≤ c) := by omega
   have t2 : ((c : Int) ≤ 122) := by omega
   go_enter Tryz.func108, Tryz.ntmps108
   go_wp2
   go_ret
   exact ⟨by rw [D.out]; rfl, rfl⟩
  ·have D := Hd (show letterB c = false by unfold letterB; simp; omega)
   have t1 : ((97 : Int) ≤ c) := by omega
   have t2 : ¬ ((c : Int) ≤ 122) := by omega
   have t3 : ¬ ((c : Int) ≤ 90) := by omega
   have t4 : ((c : Int) == 95) = false := by simp; omega
   have t5 : ((c : Int) == 36) = false := by simp; omega
   go_enter Tryz.func108, Tryz.ntmps108
   go_wp2
   go_ret
   exact ⟨by rw [D.out]; rfl, rfl⟩
 ·have t1 : ¬ ((97 : Int) ≤ c) := by omega
  by_cases h3 : 65 ≤ c ∧ c ≤ 90
  ·have D := Hd (show letterB c = true by unfold letterB; simp; omega)
   have t2 : ((65 : Int) ≤ c) := by omega
   have t3 : ((c : Int) ≤ 90) := by omega
   clear h3
   go_enter Tryz.func108, Tryz.ntmps108
   go_wp2
   go_ret
   exact ⟨by rw [D.out]; rfl, rfl⟩
  ·have hh : (65 : Int) ≤ c ∧ ¬ (c : Int) ≤ 90 ∨ ¬ (65 : Int) ≤ c := by omega
   by_cases h4 : c = 95
   ·have D := Hd (show letterB c = true by unfold letterB; simp; omega)
    have t4 : ((c : Int) == 95) = true := by simp; omega
    clear h3 h4
    rcases hh with ⟨t2, t3⟩ | t2
    all_goals
     go_enter Tryz.func108, Tryz.ntmps108
     go_wp2
     go_ret
     exact ⟨by rw [D.out]; rfl, rfl⟩
   ·have t4 : ((c : Int) == 95) = false := by simp; omega
    by_cases h5 : c = 36
    ·have D := Hd (show letterB c = true by unfold letterB; simp; omega)
     have t5 : ((c : Int) == 36) = true := by simp; omega
     clear h3 h4 h5
     rcases hh with ⟨t2, t3⟩ | t2
     all_goals
      go_enter Tryz.func108, Tryz.ntmps108
      go_wp2
      go_ret
      exact ⟨by rw [D.out]; rfl, rfl⟩
    ·have D := Hd (show letterB c = false by unfold letterB; simp; omega)
     have t5 : ((c : Int) == 36) = false := by simp; omega
     clear h3 h4 h5
     rcases hh with ⟨t2, t3⟩ | t2
     all_goals
      go_enter Tryz.func108, Tryz.ntmps108
      go_wp2
      go_ret
      exact ⟨by rw [D.out]; rfl, rfl⟩
theorem digit_prog (c : Nat) (w : World) (_hc : c < 256) :
  Calls Tryz.prog 123 #[.int .u8 c] w fun e w' => e = .returned (.bool (digitB c)) ∧ w = w' := by
 by_cases h1 : 48 ≤ c
 ·have t1 : ((48 : Int) ≤ c) := by omega
  by_cases h2 : c ≤ 57
  ·have D := Hd (show digitB c = true by unfold digitB; simp; omega)
   have t2 : ((c : Int) ≤ 57) := by omega
   go_enter Tryz.func123, Tryz.ntmps123
   go_wp2
   go_ret
   exact ⟨by rw [D.out]; rfl, rfl⟩
  ·have D := Hd (show digitB c = false by unfold digitB; simp; omega)
   have t2 : ¬ ((c : Int) ≤ 57) := by omega
   go_enter Tryz.func123, Tryz.ntmps123
   go_wp2
   go_ret
   exact ⟨by rw [D.out]; rfl, rfl⟩
 ·have t1 : ¬ ((48 : Int) ≤ c) := by omega
  have D := Hd (show digitB c = false by unfold digitB; simp; omega)
  go_enter Tryz.func123, Tryz.ntmps123
  go_wp2
  go_ret
  exact ⟨by rw [D.out]; rfl, rfl⟩
theorem letter_ref (c : Nat) (w : World) (hc : c < 256) :
  Calls Tryz.prog 104 #[.int .u8 c] w fun e w' => e = .returned (.bool (letterB c)) ∧ w = w' := by
 by_cases h1 : 97 ≤ c
 ·by_cases h2 : c ≤ 122
  ·have D := Hd (show letterB c = true by unfold letterB; simp; omega)
   have t1 : ((97 : Int) ≤ c) := by omega
   have t2 : ((c : Int) ≤ 122) := by omega
   go_enter Tryz.func104, Tryz.ntmps104
   go_wp2
   go_ret
   exact ⟨by rw [D.out]; rfl, rfl⟩
  ·have D := Hd (show letterB c = false by unfold letterB; simp; omega)
   have t1 : ((97 : Int) ≤ c) := by omega
   have t2 : ¬ ((c : Int) ≤ 122) := by omega
   have t3 : ¬ ((c : Int) ≤ 90) := by omega
   have t4 : ((c : Int) == 95) = false := by simp; omega
   have t5 : ((c : Int) == 36) = false := by simp; omega
   go_enter Tryz.func104, Tryz.ntmps104
   go_wp2
   go_ret
   exact ⟨by rw [D.out]; rfl, rfl⟩
 ·have t1 : ¬ ((97 : Int) ≤ c) := by omega
  by_cases h3 : 65 ≤ c ∧ c ≤ 90
  ·have D := Hd (show letterB c = true by unfold letterB; simp; omega)
   have t2 : ((65 : Int) ≤ c) := by omega
   have t3 : ((c : Int) ≤ 90) := by omega
   clear h3
   go_enter Tryz.func104, Tryz.ntmps104
   go_wp2
   go_ret
   exact ⟨by rw [D.out]; rfl, rfl⟩
  ·have hh : (65 : Int) ≤ c ∧ ¬ (c : Int) ≤ 90 ∨ ¬ (65 : Int) ≤ c := by omega
   by_cases h4 : c = 95
   ·have D := Hd (show letterB c = true by unfold letterB; simp; omega)
    have t4 : ((c : Int) == 95) = true := by simp; omega
    clear h3 h4
    rcases hh with ⟨t2, t3⟩ | t2
    all_goals
     go_enter Tryz.func104, Tryz.ntmps104
     go_wp2
     go_ret
     exact ⟨by rw [D.out]; rfl, rfl⟩
   ·have t4 : ((c : Int) == 95) = false := by simp; omega
    by_cases h5 : c = 36
    ·have D := Hd (show letterB c = true by unfold letterB; simp; omega)
     have t5 : ((c : Int) == 36) = true := by simp; omega
     clear h3 h4 h5
     rcases hh with ⟨t2, t3⟩ | t2
     all_goals
      go_enter Tryz.func104, Tryz.ntmps104
      go_wp2
      go_ret
      exact ⟨by rw [D.out]; rfl, rfl⟩
    ·have D := Hd (show letterB c = false by unfold letterB; simp; omega)
     have t5 : ((c : Int) == 36) = false := by simp; omega
     clear h3 h4 h5
     rcases hh with ⟨t2, t3⟩ | t2
     all_goals
      go_enter Tryz.func104, Tryz.ntmps104
      go_wp2
      go_ret
      exact ⟨by rw [D.out]; rfl, rfl⟩
theorem digit_ref (c : Nat) (w : World) (_hc : c < 256) :
  Calls Tryz.prog 120 #[.int .u8 c] w fun e w' => e = .returned (.bool (digitB c)) ∧ w = w' := by
 by_cases h1 : 48 ≤ c
 ·have t1 : ((48 : Int) ≤ c) := by omega
  by_cases h2 : c ≤ 57
  ·have D := Hd (show digitB c = true by unfold digitB; simp; omega)
   have t2 : ((c : Int) ≤ 57) := by omega
   go_enter Tryz.func120, Tryz.ntmps120
   go_wp2
   go_ret
   exact ⟨by rw [D.out]; rfl, rfl⟩
  ·have D := Hd (show digitB c = false by unfold digitB; simp; omega)
   have t2 : ¬ ((c : Int) ≤ 57) := by omega
   go_enter Tryz.func120, Tryz.ntmps120
   go_wp2
   go_ret
   exact ⟨by rw [D.out]; rfl, rfl⟩
 ·have t1 : ¬ ((48 : Int) ≤ c) := by omega
  have D := Hd (show digitB c = false by unfold digitB; simp; omega)
  go_enter Tryz.func120, Tryz.ntmps120
  go_wp2
  go_ret
  exact ⟨by rw [D.out]; rfl, rfl⟩
theorem aword_prog (s : ByteArray) (i : Nat) (w : World) (hs : s.size ≤ 1000000000000000) (hi : i ≤ s.size) :
  Calls Tryz.prog 109 #[.string s, .int .i64 i] w fun e w' => e = .returned (.int .i64 (wordN s i)) ∧ w = w' := by
 go_enter Tryz.func109, Tryz.ntmps109
 go_wp2
 go_loop [1] (fun v => ∃ k : Nat, i ≤ k ∧ k ≤ s.size ∧ v = .int .i64 k ∧ wordN s k = wordN s i) (fun v => s.size - (intOf v).toNat)
 case atStart => exact ⟨i, by omega, hi, rfl, rfl⟩
 case round =>
  obtain ⟨k, hk1, hk, rfl, hc⟩ := hrel
  have HC := Hd hc
  clear hc
  by_cases hlt : k < s.size
  ·have hb := byteN_at s k hlt
   have hu := byteN_lt s k
   have kl := letter_prog (byteN s k) w hu
   have kd := digit_prog (byteN s k) w hu
   have hgo := Hd (word_go hlt)
   have hst := Hd (@word_stop s k)
   unfold alnumB at hgo hst
   generalize byteN s k = b at *
   cases h1 : letterB b with
   | true =>
    rw [h1] at kl
    have KL := Hd kl
    have G := Hd (hgo.out (by rw [h1]; rfl))
    clear kl kd h1 hgo hst
    go_wp2_with (go_at_call 108; refine KL.out.mono ?_; rintro e w1 ⟨rfl, rfl⟩)
    go_round
    case rel => exact ⟨k + 1, by omega, by omega, by go_num, by rw [← G.out, HC.out]⟩
    case measure => simp [intOf]; omega
   | false =>
    rw [h1] at kl
    have KL := Hd kl
    cases h2 : digitB b with
    | true =>
     rw [h2] at kd
     have KD := Hd kd
     have G := Hd (hgo.out (by rw [h1, h2]; rfl))
     clear kl kd h1 h2 hgo hst
     go_wp2_with (first | (go_at_call 108; refine KL.out.mono ?_; rintro e w1 ⟨rfl, rfl⟩) | (go_at_call 123; refine KD.out.mono ?_; rintro e w1 ⟨rfl, rfl⟩))
     go_round
     case rel => exact ⟨k + 1, by omega, by omega, by go_num, by rw [← G.out, HC.out]⟩
     case measure => simp [intOf]; omega
    | false =>
     rw [h2] at kd
     have KD := Hd kd
     have G := Hd (hst.out (by rw [h1, h2]; simp))
     clear kl kd h1 h2 hgo hst
     go_wp2_with (first | (go_at_call 108; refine KL.out.mono ?_; rintro e w1 ⟨rfl, rfl⟩) | (go_at_call 123; refine KD.out.mono ?_; rintro e w1 ⟨rfl, rfl⟩))
     go_ret
     exact ⟨ret_int (by rw [← HC.out, G.out]), rfl⟩
  ·obtain rfl : k = s.size := by omega
   have G := Hd (@word_stop s s.size (by omega))
   go_wp2
   go_ret
   exact ⟨ret_int (by rw [← HC.out, G.out]), rfl⟩
theorem aword_ref (s : ByteArray) (i : Nat) (w : World) (hs : s.size ≤ 1000000000000000) (hi : i ≤ s.size) :
  Calls Tryz.prog 105 #[.string s, .int .i64 i] w fun e w' => e = .returned (.int .i64 (wordN s i)) ∧ w = w' := by
 go_enter Tryz.func105, Tryz.ntmps105
 go_wp2
 go_loop [1] (fun v => ∃ k : Nat, i ≤ k ∧ k ≤ s.size ∧ v = .int .i64 k ∧ wordN s k = wordN s i) (fun v => s.size - (intOf v).toNat)
 case atStart => exact ⟨i, by omega, hi, rfl, rfl⟩
 case round =>
  obtain ⟨k, hk1, hk, rfl, hc⟩ := hrel
  have HC := Hd hc
  clear hc
  by_cases hlt : k < s.size
  ·have hb := byteN_at s k hlt
   have hu := byteN_lt s k
   have kl := letter_ref (byteN s k) w hu
   have kd := digit_ref (byteN s k) w hu
   have hgo := Hd (word_go hlt)
   have hst := Hd (@word_stop s k)
   unfold alnumB at hgo hst
   generalize byteN s k = b at *
   cases h1 : letterB b with
   | true =>
    rw [h1] at kl
    have KL := Hd kl
    have G := Hd (hgo.out (by rw [h1]; rfl))
    clear kl kd h1 hgo hst
    go_wp2_with (go_at_call 104; refine KL.out.mono ?_; rintro e w1 ⟨rfl, rfl⟩)
    go_round
    case rel => exact ⟨k + 1, by omega, by omega, by go_num, by rw [← G.out, HC.out]⟩
    case measure => simp [intOf]; omega
   | false =>
    rw [h1] at kl
    have KL := Hd kl
    cases h2 : digitB b with
    | true =>
     rw [h2] at kd
     have KD := Hd kd
     have G := Hd (hgo.out (by rw [h1, h2]; rfl))
     clear kl kd h1 h2 hgo hst
     go_wp2_with (first | (go_at_call 104; refine KL.out.mono ?_; rintro e w1 ⟨rfl, rfl⟩) | (go_at_call 120; refine KD.out.mono ?_; rintro e w1 ⟨rfl, rfl⟩))
     go_round
     case rel => exact ⟨k + 1, by omega, by omega, by go_num, by rw [← G.out, HC.out]⟩
     case measure => simp [intOf]; omega
    | false =>
     rw [h2] at kd
     have KD := Hd kd
     have G := Hd (hst.out (by rw [h1, h2]; simp))
     clear kl kd h1 h2 hgo hst
     go_wp2_with (first | (go_at_call 104; refine KL.out.mono ?_; rintro e w1 ⟨rfl, rfl⟩) | (go_at_call 120; refine KD.out.mono ?_; rintro e w1 ⟨rfl, rfl⟩))
     go_ret
     exact ⟨ret_int (by rw [← HC.out, G.out]), rfl⟩
  ·obtain rfl : k = s.size := by omega
   have G := Hd (@word_stop s s.size (by omega))
   go_wp2
   go_ret
   exact ⟨ret_int (by rw [← HC.out, G.out]), rfl⟩
def wordsL : List (List UInt8) := [[105, 109, 112, 111, 114, 116], [102, 114, 111, 109], [101, 120, 112, 111, 114, 116], [116, 121, 112, 101], [105, 110, 116, 101, 114, 102, 97, 99, 101], [99, 108, 97, 115, 115], [101, 120, 116, 101, 110, 100, 115], [105, 109, 112, 108, 101, 109, 101, 110, 116, 115], [102, 117, 110, 99, 116, 105, 111, 110], [99, 111, 110, 115, 116], [108, 101, 116], [109, 117, 116], [105, 102], [101, 108, 115, 101], [119, 104, 105, 108, 101], [114, 101, 116, 117, 114, 110], [116, 104, 114, 111, 119], [116, 114, 121], [99, 97, 116, 99, 104], [110, 101, 119], [116, 104, 105, 115], [116, 114, 117, 101], [102, 97, 108, 115, 101], [110, 117, 108, 108], [116, 121, 112, 101, 111, 102], [97, 115], [107, 101, 121, 111, 102], [105, 110, 102, 101, 114], [105, 110], [97, 110, 121], [117, 110, 107, 110, 111, 119, 110], [110, 101, 118, 101, 114], [98, 111, 111, 108, 101, 97, 110], [110, 117, 109, 98, 101, 114], [115, 116, 114, 105, 110, 103]]
def resL (l : List UInt8) : Bool := wordsL.any fun x => l == x
theorem res_or (l : List UInt8) : resL l = (l == [105, 109, 112, 111, 114, 116] || (l == [102, 114, 111, 109] || (l == [101, 120, 112, 111, 114, 116] || (l == [116, 121, 112, 101] || (l == [105, 110, 116, 101, 114, 102, 97, 99, 101] || (l == [99, 108, 97, 115, 115] || (l == [101, 120, 116, 101, 110, 100, 115] || (l == [105, 109, 112, 108, 101, 109, 101, 110, 116, 115] || (l == [102, 117, 110, 99, 116, 105, 111, 110] || (l == [99, 111, 110, 115, 116] || (l == [108, 101, 116] || (l == [109, 117, 116] || (l == [105, 102] || (l == [101, 108, 115, 101] || (l == [119, 104, 105, 108, 101] || (l == [114, 101, 116, 117, 114, 110] || (l == [116, 104, 114, 111, 119] || (l == [116, 114, 121] || (l == [99, 97, 116, 99, 104] || (l == [110, 101, 119] || (l == [116, 104, 105, 115] || (l == [116, 114, 117, 101] || (l == [102, 97, 108, 115, 101] || (l == [110, 117, 108, 108] || (l == [116, 121, 112, 101, 111, 102] || (l == [97, 115] || (l == [107, 101, 121, 111, 102] || (l == [105, 110, 102, 101, 114] || (l == [105, 110] || (l == [97, 110, 121] || (l == [117, 110, 107, 110, 111, 119, 110] || (l == [110, 101, 118, 101, 114] || (l == [98, 111, 111, 108, 101, 97, 110] || (l == [110, 117, 109, 98, 101, 114] || (l == [115, 116, 114, 105, 110, 103] || false))))))))))))))))))))))))))))))))))) := rfl
theorem reserved_prog (s : ByteArray) (w : World) :
  Calls Tryz.prog 110 #[.string s] w fun e w' => e = .returned (.bool (resL s.toList)) ∧ w = w' := by
 have D := Hd (res_or s.toList)
 go_enter Tryz.func110, Tryz.ntmps110
 go_wp2
 all_goals first
  | (have h2 := ‹_ = false›; have h3 := h2.symm.trans (show _ = true by assumption); exact absurd h3 (by decide))
  | (go_ret; exact ⟨by rw [D.out]; simp only [*, Bool.true_or, Bool.or_true, Bool.or_false]; rfl, rfl⟩)
  | (go_ret; exact ⟨by rw [D.out]; simp only [*, Bool.true_or, Bool.or_true, Bool.or_false], rfl⟩)
def wordVs : List Value := wordsL.map fun l => Value.string ⟨l.toArray⟩
theorem words_ref (w : World) :
  Calls Tryz.prog 121 #[] w fun e w' => e = .returned (.slice (some ⟨w.heap.size, 0, none⟩) 35 35) ∧ w' = w.alloc (.cells wordVs.toArray 9) := by
 go_enter Tryz.func121, Tryz.ntmps121
 go_wp2
 go_ret
 exact ⟨rfl, rfl⟩
theorem words_cell (w : World) (k : Nat) (h : k < 35) : (w.alloc (.cells wordVs.toArray 9)).cell? ⟨w.heap.size, k, none⟩ = some (.string ⟨(wordsL.getD k []).toArray⟩) := by
 rw [World.cell?_alloc_at _ _ _ _ rfl]
 have h1 : k < wordsL.length := h
 simp [wordVs, List.getD_eq_getElem?_getD, List.getElem?_eq_getElem h1]
theorem reserved_ref (s : ByteArray) (w : World) :
  Calls Tryz.prog 106 #[.string s] w fun e w' => e = .returned (.bool (resL s.toList)) ∧ Below w.heap.size w w' := by
 have K := Hd (words_ref w)
 have C := Hd (words_cell w)
 have HB := Hd ((Below.refl w.heap.size w).alloc (Nat.le_refl _) (.cells wordVs.toArray 9))
 go_enter Tryz.func106, Tryz.ntmps106
 go_wp2_with fail
 refine K.out.mono ?_
 rintro e w1 ⟨rfl, hw1⟩
 rw [← hw1] at HB C
 clear hw1
 go_wp2_with fail
 go_loop [4] (fun v => ∃ k : Nat, k ≤ 35 ∧ v = .int .i64 k ∧ ∀ j, j < k → (s.toList == wordsL.getD j []) = false) (fun v => 35 - (intOf v).toNat)
 case atStart => exact ⟨0, by omega, by go_num, fun j h => absurd h (by omega)⟩
 case round =>
  obtain ⟨k, hk, rfl, hno⟩ := hrel
  have HN := Hd hno
  clear hno
  by_cases hlt : k < 35
  ·have f1 := C.out k hlt
   have hin : wordsL.getD k [] ∈ wordsL := by
    rw [List.getD_eq_getElem?_getD, List.getElem?_eq_getElem (show k < wordsL.length from hlt)]
    exact List.getElem_mem _
   cases hq : (s.toList == wordsL.getD k []) with
   | true =>
    have HR := Hd (show resL s.toList = true from List.any_eq_true.2 ⟨_, hin, hq⟩)
    clear hin
    have hq2 : (wordsL.getD k [] == s.toList) = true := by rw [beq_iff_eq] at hq ⊢; exact hq.symm
    generalize wordsL.getD k [] = x at *
    clear hq
    go_wp2_with fail
    go_ret
    exact ⟨by rw [HR.out]; rfl, HB.out⟩
   | false =>
    have HN' : Hid (∀ j, j < k + 1 → (s.toList == wordsL.getD j []) = false) := Hd (fun j hj => by
     rcases Nat.lt_or_ge j k with h | h
     ·exact HN.out j h
     ·obtain rfl : j = k := by omega
      exact hq)
    clear hin
    have hq2 : (wordsL.getD k [] == s.toList) = false := by
     cases h : (wordsL.getD k [] == s.toList) with
     | false => rfl
     | true => rw [beq_iff_eq] at h; rw [h] at hq; simp at hq
    generalize wordsL.getD k [] = x at f1 hq2
    clear hq
    go_wp2_with fail
    go_round
    case rel => exact ⟨k + 1, by omega, by go_num, HN'.out⟩
    case measure => simp [intOf]; omega
  ·obtain rfl : k = 35 := by omega
   have HR := Hd (show resL s.toList = false from by
    rw [resL, List.any_eq_false]
    intro x hx
    obtain ⟨j, hj, rfl⟩ := List.getElem_of_mem hx
    have := HN.out j hj
    rw [List.getD_eq_getElem?_getD, List.getElem?_eq_getElem hj] at this
    simpa using this)
   go_wp2_with fail
   go_ret
   exact ⟨by rw [HR.out]; rfl, HB.out⟩
theorem toList_eq (s : ByteArray) : s.toList = s.data.toList := ByteArray.toList_eq s
theorem toList_nil {s : ByteArray} (h : s.size = 0) : s.toList = [] := by
 rw [toList_eq]
 exact List.eq_nil_of_length_eq_zero (by simpa using h)
theorem size_nil {s : ByteArray} (h : s.toList = []) : s.size = 0 := by
 rw [toList_eq] at h
 have := congrArg List.length h
 simpa using this
def idB (s : ByteArray) : Bool := decide (0 < s.size) && letterB (byteN s 0) && (wordN s 0 == s.size) && !resL s.toList
theorem isname_prog (s : ByteArray) (w : World) (hs : s.size ≤ 1000000000000000) :
  Calls Tryz.prog 88 #[.string s] w fun e w' => e = .returned (.bool (idB s)) ∧ Below w.heap.size w w' := by
 by_cases h0 : s.size = 0
 ·have D := Hd (show idB s = false by simp [idB, h0])
  have t0 : s.toList = [] := toList_nil h0
  have t1 : s.toList.isEmpty = true := by rw [t0]; rfl
  go_enter Tryz.func88, Tryz.ntmps88
  go_wp2
  go_ret
  exact ⟨by rw [D.out]; rfl, Below.refl _ _⟩
 ·have t0 : ¬ s.toList = [] := fun h => h0 (size_nil h)
  have t1 : s.toList.isEmpty = false := by simpa using t0
  have hp : 0 < s.size := by omega
  have hb := byteN_at s 0 hp
  have hu := byteN_lt s 0
  have kl := letter_prog (byteN s 0) w hu
  cases h1 : letterB (byteN s 0) with
  | false =>
   have D := Hd (show idB s = false by simp [idB, h1])
   rw [h1] at kl
   have KL := Hd kl
   clear kl h1 t0
   generalize byteN s 0 = b at *
   go_enter Tryz.func88, Tryz.ntmps88
   go_wp2_with (go_at_call 108; refine KL.out.mono ?_; rintro e w1 ⟨rfl, rfl⟩)
   go_ret
   exact ⟨by rw [D.out]; rfl, Below.refl _ _⟩
  | true =>
   rw [h1] at kl
   have KL := Hd kl
   have KW := Hd (aword_prog s 0 w hs (by omega))
   have HD := Hd (show idB s = ((wordN s 0 == s.size) && !resL s.toList) by simp [idB, h1, hp])
   clear kl h1 t0
   generalize byteN s 0 = b at *
   generalize hn : wordN s 0 = n at *
   clear hn
   by_cases hq : n = s.size
   ·subst hq
    have D := Hd (show idB s = !resL s.toList by rw [HD.out]; simp)
    clear HD
    have t3 : (((s.size : Nat) : Int) == (s.size : Int)) = true := by simp
    have KR := Hd (reserved_prog s w)
    cases hr : resL s.toList with
    | true =>
     rw [hr] at KR D
     clear hr
     go_enter Tryz.func88, Tryz.ntmps88
     go_wp2_with (first | (go_at_call 108; refine KL.out.mono ?_; rintro e w1 ⟨rfl, rfl⟩) | (go_at_call 109; refine KW.out.mono ?_; rintro e w1 ⟨rfl, rfl⟩) | (go_at_call 110; refine KR.out.mono ?_; rintro e w1 ⟨rfl, rfl⟩))
     go_ret
     exact ⟨by rw [D.out]; rfl, (Below.refl _ _)⟩
    | false =>
     rw [hr] at KR D
     clear hr
     go_enter Tryz.func88, Tryz.ntmps88
     go_wp2_with (first | (go_at_call 108; refine KL.out.mono ?_; rintro e w1 ⟨rfl, rfl⟩) | (go_at_call 109; refine KW.out.mono ?_; rintro e w1 ⟨rfl, rfl⟩) | (go_at_call 110; refine KR.out.mono ?_; rintro e w1 ⟨rfl, rfl⟩))
     go_ret
     exact ⟨by rw [D.out]; rfl, (Below.refl _ _)⟩
   ·have D := Hd (show idB s = false by rw [HD.out]; simp [hq])
    clear HD
    have t3 : ((n : Int) == (s.size : Int)) = false := by simp; omega
    go_enter Tryz.func88, Tryz.ntmps88
    go_wp2_with (first | (go_at_call 108; refine KL.out.mono ?_; rintro e w1 ⟨rfl, rfl⟩) | (go_at_call 109; refine KW.out.mono ?_; rintro e w1 ⟨rfl, rfl⟩))
    go_ret
    exact ⟨by rw [D.out]; rfl, Below.refl _ _⟩
theorem isname_ref (s : ByteArray) (w : World) (hs : s.size ≤ 1000000000000000) :
  Calls Tryz.prog 86 #[.string s] w fun e w' => e = .returned (.bool (idB s)) ∧ Below w.heap.size w w' := by
 by_cases h0 : s.size = 0
 ·have D := Hd (show idB s = false by simp [idB, h0])
  have t0 : s.toList = [] := toList_nil h0
  have t1 : s.toList.isEmpty = true := by rw [t0]; rfl
  go_enter Tryz.func86, Tryz.ntmps86
  go_wp2
  go_ret
  exact ⟨by rw [D.out]; rfl, Below.refl _ _⟩
 ·have t0 : ¬ s.toList = [] := fun h => h0 (size_nil h)
  have t1 : s.toList.isEmpty = false := by simpa using t0
  have hp : 0 < s.size := by omega
  have hb := byteN_at s 0 hp
  have hu := byteN_lt s 0
  have kl := letter_ref (byteN s 0) w hu
  cases h1 : letterB (byteN s 0) with
  | false =>
   have D := Hd (show idB s = false by simp [idB, h1])
   rw [h1] at kl
   have KL := Hd kl
   clear kl h1 t0
   generalize byteN s 0 = b at *
   go_enter Tryz.func86, Tryz.ntmps86
   go_wp2_with (go_at_call 104; refine KL.out.mono ?_; rintro e w1 ⟨rfl, rfl⟩)
   go_ret
   exact ⟨by rw [D.out]; rfl, Below.refl _ _⟩
  | true =>
   rw [h1] at kl
   have KL := Hd kl
   have KW := Hd (aword_ref s 0 w hs (by omega))
   have HD := Hd (show idB s = ((wordN s 0 == s.size) && !resL s.toList) by simp [idB, h1, hp])
   clear kl h1 t0
   generalize byteN s 0 = b at *
   generalize hn : wordN s 0 = n at *
   clear hn
   by_cases hq : n = s.size
   ·subst hq
    have D := Hd (show idB s = !resL s.toList by rw [HD.out]; simp)
    clear HD
    have t3 : (((s.size : Nat) : Int) == (s.size : Int)) = true := by simp
    have KR := Hd (reserved_ref s w)
    cases hr : resL s.toList with
    | true =>
     rw [hr] at KR D
     clear hr
     go_enter Tryz.func86, Tryz.ntmps86
     go_wp2_with (first | (go_at_call 104; refine KL.out.mono ?_; rintro e w1 ⟨rfl, rfl⟩) | (go_at_call 105; refine KW.out.mono ?_; rintro e w1 ⟨rfl, rfl⟩) | (go_at_call 106; refine KR.out.mono ?_; rintro e w1 ⟨rfl, hb1⟩))
     go_ret
     exact ⟨by rw [D.out]; rfl, hb1⟩
    | false =>
     rw [hr] at KR D
     clear hr
     go_enter Tryz.func86, Tryz.ntmps86
     go_wp2_with (first | (go_at_call 104; refine KL.out.mono ?_; rintro e w1 ⟨rfl, rfl⟩) | (go_at_call 105; refine KW.out.mono ?_; rintro e w1 ⟨rfl, rfl⟩) | (go_at_call 106; refine KR.out.mono ?_; rintro e w1 ⟨rfl, hb1⟩))
     go_ret
     exact ⟨by rw [D.out]; rfl, hb1⟩
   ·have D := Hd (show idB s = false by rw [HD.out]; simp [hq])
    clear HD
    have t3 : ((n : Int) == (s.size : Int)) = false := by simp; omega
    go_enter Tryz.func86, Tryz.ntmps86
    go_wp2_with (first | (go_at_call 104; refine KL.out.mono ?_; rintro e w1 ⟨rfl, rfl⟩) | (go_at_call 105; refine KW.out.mono ?_; rintro e w1 ⟨rfl, rfl⟩))
    go_ret
    exact ⟨by rw [D.out]; rfl, Below.refl _ _⟩
def Asc (l : List Ty) : Prop := l.Pairwise fun a b => ordT a b = -1
theorem ordT_gt {a b : Ty} (h : ordT a b = 1) : ordT b a = -1 := by rw [ordT_flip, h]
theorem asc_unique : ∀ {l l' : List Ty}, Asc l → Asc l' → (∀ x, x ∈ l ↔ x ∈ l') → l = l'
 | [], [], _, _, _ => rfl
 | [], b :: l', _, _, h => absurd ((h b).2 (List.mem_cons_self ..)) (by simp)
 | a :: l, [], _, _, h => absurd ((h a).1 (List.mem_cons_self ..)) (by simp)
 | a :: l, b :: l', h, h', hm => by
  obtain ⟨h1, h2⟩ := List.pairwise_cons.1 h
  obtain ⟨h1', h2'⟩ := List.pairwise_cons.1 h'
  have hab : a = b := by
   rcases List.mem_cons.1 ((hm a).1 (List.mem_cons_self ..)) with e | e
   ·exact e
   ·rcases List.mem_cons.1 ((hm b).2 (List.mem_cons_self ..)) with e' | e'
    ·exact e'.symm
    ·have x1 := h1' a e
     have x2 := h1 b e'
     rw [ordT_flip, x2] at x1
     cases x1
  subst hab
  have ht : ∀ x, x ∈ l ↔ x ∈ l' := by
   intro x
   constructor
   ·intro hx
    rcases List.mem_cons.1 ((hm x).1 (List.mem_cons_of_mem _ hx)) with e | e
    ·subst e
     have := h1 x hx
     rw [ordT_zero.2 rfl] at this
     cases this
    ·exact e
   ·intro hx
    rcases List.mem_cons.1 ((hm x).2 (List.mem_cons_of_mem _ hx)) with e | e
    ·subst e
     have := h1' x hx
     rw [ordT_zero.2 rfl] at this
     cases this
    ·exact e
  rw [asc_unique h2 h2' ht]
def insT (t : Ty) : List Ty → List Ty
 | [] => [t]
 | a :: l => if ordT t a = -1 then t :: a :: l else if ordT t a = 0 then a :: l else a :: insT t l
theorem mem_insT (t x : Ty) : ∀ l, x ∈ insT t l ↔ x = t ∨ x ∈ l
 | [] => by simp [insT]
 | a :: l => by
  rw [insT]
  split
  ·simp
  ·split
   ·rename_i h
    have := ordT_zero.1 h
    subst this
    simp
   ·simp only [List.mem_cons, mem_insT t x l]
    constructor
    ·rintro (h | h | h)
     ·exact .inr (.inl h)
     ·exact .inl h
     ·exact .inr (.inr h)
    ·rintro (h | h | h)
     ·exact .inr (.inl h)
     ·exact .inl h
     ·exact .inr (.inr h)
theorem asc_insT (t : Ty) : ∀ {l}, Asc l → Asc (insT t l)
 | [], _ => by simp [insT, Asc]
 | a :: l, h => by
  obtain ⟨h1, h2⟩ := List.pairwise_cons.1 h
  rw [insT]
  split
  ·rename_i hlt
   refine List.pairwise_cons.2 ⟨fun x hx => ?_, h⟩
   rcases List.mem_cons.1 hx with rfl | hx
   ·exact hlt
   ·exact ordT_trans hlt (h1 x hx)
  ·split
   ·exact h
   ·rename_i h3 h4
    refine List.pairwise_cons.2 ⟨fun x hx => ?_, asc_insT t h2⟩
    rcases (mem_insT t x l).1 hx with rfl | hx
    ·rcases ordT_bd x a with e | e | e
     ·exact absurd e h3
     ·exact absurd e h4
     ·exact ordT_gt e
    ·exact h1 x hx
def sortT (l : List Ty) : List Ty := l.foldr insT []
theorem mem_sortT (x : Ty) : ∀ l, x ∈ sortT l ↔ x ∈ l
 | [] => by simp [sortT]
 | a :: l => by
  show x ∈ insT a (sortT l) ↔ _
  rw [mem_insT, mem_sortT x l, List.mem_cons]
theorem asc_sortT : ∀ l, Asc (sortT l)
 | [] => by simp [sortT, Asc]
 | a :: l => asc_insT a (asc_sortT l)
theorem sortT_of {l s : List Ty} (h : Asc s) (hm : ∀ x, x ∈ s ↔ x ∈ l) : sortT l = s :=
 asc_unique (asc_sortT l) h fun x => (mem_sortT x l).trans (hm x).symm
theorem sortT_self {l : List Ty} (h : Asc l) : sortT l = l := sortT_of h fun _ => Iff.rfl
def parts1 : Ty → List Ty
 | .mk k t n ps fs vs => if k = 15 then (ps.attach.map fun ⟨p, _⟩ => parts1 p).flatten else [.mk k t n ps fs vs]
termination_by t => SizeOf.sizeOf t
decreasing_by exact ty_lt_p ‹_›
def flatU (l : List Ty) : List Ty := (l.map parts1).flatten
theorem parts1_mk (k t n ps fs vs) : parts1 (.mk k t n ps fs vs) = if k = 15 then flatU ps else [.mk k t n ps fs vs] := by
 rw [parts1]
 unfold flatU
 simp only [List.map_attach_eq_pmap, List.pmap_eq_map]
theorem flatU_cons (a : Ty) (l : List Ty) : flatU (a :: l) = parts1 a ++ flatU l := by simp [flatU]
theorem flatU_app (a l : List Ty) : flatU (a ++ l) = flatU a ++ flatU l := by simp [flatU]
def hasK (k : Int) (l : List Ty) : Bool := l.any fun t => t.k == k
def infT : Ty → Bool
 | .mk k _ _ ps fs _ => k == 22 || (ps.attach.mapIdx fun i ⟨p, _⟩ => !(k == 21 && i == 1) && infT p).any id || (fs.attach.map fun ⟨f, _⟩ => infT f.2.2).any id
termination_by t => SizeOf.sizeOf t
decreasing_by
 ·exact ty_lt_p ‹_›
 ·exact ty_lt_f ‹_›
def infPs (k : Int) : Nat → List Ty → Bool
 | _, [] => false
 | i, p :: l => (!(k == 21 && i == 1) && infT p) || infPs k (i + 1) l
def infFs (l : FsT) : Bool := l.any fun f => infT f.2.2
theorem any_mapIdx {α : Type} (k : Int) (g : α → Ty) : ∀ (l : List α) (j : Nat), (l.mapIdx fun i p => !(k == 21 && (i + j) == 1) && infT (g p)).any id = infPs k j (l.map g)
 | [], _ => rfl
 | a :: l, j => by
  rw [List.mapIdx_cons, List.any_cons, List.map_cons, infPs, ← any_mapIdx k g l (j + 1)]
  simp only [Nat.zero_add, id_eq, Nat.add_assoc, Nat.add_comm 1 j]
theorem infT_mk (k t n ps fs vs) : infT (.mk k t n ps fs vs) = (k == 22 || infPs k 0 ps || infFs fs) := by
 rw [infT]
 have h := any_mapIdx k (fun p : {x // x ∈ ps} => p.1) ps.attach 0
 simp only [Nat.add_zero] at h
 rw [h]
 unfold infFs
 simp only [List.map_attach_eq_pmap, List.pmap_eq_map, List.any_map, List.map_id']
 rfl
structure Kinds where
 a : Bool
 u : Bool
 n : Bool
 s : Bool
def kindsOf (l : List Ty) : Kinds := ⟨hasK 3 l, hasK 2 l, hasK 7 l, hasK 8 l⟩
def keepT (h : Kinds) (t : Ty) : Bool :=
 if t.k = 1 then false else if t.k = 3 then true else if t.k = 2 ∧ h.a = false then true else if h.a = true ∨ h.u = true then infT t else if t.k = 9 then !h.n else if t.k = 10 then !h.s else true
def keptU (l : List Ty) : List Ty := (flatU l).filter (keepT (kindsOf (flatU l)))
def emptyB : ByteArray := ⟨#[]⟩
def tyK (k : Int) : Ty := .mk k emptyB 0 [] [] []
def shutU : List Ty → Ty
 | [] => tyK 1
 | [x] => x
 | x :: y :: l => .mk 15 emptyB 0 (x :: y :: l) [] []
def unionT (l : List Ty) : Ty := shutU (sortT (keptU l))
end Go.Proofs.YteakkjhcdpbidaaGreatDoor
