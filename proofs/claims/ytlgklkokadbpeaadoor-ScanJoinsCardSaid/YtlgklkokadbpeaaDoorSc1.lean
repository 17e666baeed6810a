import Derived.Test.YtlgklkokadbpeaaDoorSc0
namespace Go.Proofs.YtlgklkokadbpeaaDoor
open Go.RowKit

theorem letter_prog (c : Nat) (w : World) (hc : c < 256) :
    Calls Tryd.prog 57 #[.int .u8 c] w fun e w' => e = .returned (.bool (letterB c)) ∧ w = w' := by
  by_cases h1 : 97 ≤ c
  · by_cases h2 : c ≤ 122
    · have D := Lib.hid (show letterB c = true by unfold letterB; simp; omega)
      have t1 : ((97 : Int) ≤ c) := by omega
      have t2 : ((c : Int) ≤ 122) := by omega
      go_enter Tryd.func57, Tryd.ntmps57
      go_wp2
      go_ret
      exact ⟨by rw [D.out]; rfl, rfl⟩
    · have D := Lib.hid (show letterB c = false by unfold letterB; simp; omega)
      have t1 : ((97 : Int) ≤ c) := by omega
      have t2 : ¬ ((c : Int) ≤ 122) := by omega
      have t3 : ¬ ((c : Int) ≤ 90) := by omega
      have t4 : ((c : Int) == 95) = false := by simp; omega
      have t5 : ((c : Int) == 36) = false := by simp; omega
      go_enter Tryd.func57, Tryd.ntmps57
      go_wp2
      go_ret
      exact ⟨by rw [D.out]; rfl, rfl⟩
  · have t1 : ¬ ((97 : Int) ≤ c) := by omega
    by_cases h3 : 65 ≤ c ∧ c ≤ 90
    · have D := Lib.hid (show letterB c = true by unfold letterB; simp; omega)
      have t2 : ((65 : Int) ≤ c) := by omega
      have t3 : ((c : Int) ≤ 90) := by omega
      clear h3
      go_enter Tryd.func57, Tryd.ntmps57
      go_wp2
      go_ret
      exact ⟨by rw [D.out]; rfl, rfl⟩
    · have hh : (65 : Int) ≤ c ∧ ¬ (c : Int) ≤ 90 ∨ ¬ (65 : Int) ≤ c := by omega
      by_cases h4 : c = 95
      · have D := Lib.hid (show letterB c = true by unfold letterB; simp; omega)
        have t4 : ((c : Int) == 95) = true := by simp; omega
        clear h3 h4
        rcases hh with ⟨t2, t3⟩ | t2
        all_goals
          go_enter Tryd.func57, Tryd.ntmps57
          go_wp2
          go_ret
          exact ⟨by rw [D.out]; rfl, rfl⟩
      · have t4 : ((c : Int) == 95) = false := by simp; omega
        by_cases h5 : c = 36
        · have D := Lib.hid (show letterB c = true by unfold letterB; simp; omega)
          have t5 : ((c : Int) == 36) = true := by simp; omega
          clear h3 h4 h5
          rcases hh with ⟨t2, t3⟩ | t2
          all_goals
            go_enter Tryd.func57, Tryd.ntmps57
            go_wp2
            go_ret
            exact ⟨by rw [D.out]; rfl, rfl⟩
        · have D := Lib.hid (show letterB c = false by unfold letterB; simp; omega)
          have t5 : ((c : Int) == 36) = false := by simp; omega
          clear h3 h4 h5
          rcases hh with ⟨t2, t3⟩ | t2
          all_goals
            go_enter Tryd.func57, Tryd.ntmps57
            go_wp2
            go_ret
            exact ⟨by rw [D.out]; rfl, rfl⟩
theorem digit_prog (c : Nat) (w : World) (_hc : c < 256) :
    Calls Tryd.prog 72 #[.int .u8 c] w fun e w' => e = .returned (.bool (digitB c)) ∧ w = w' := by
  by_cases h1 : 48 ≤ c
  · have t1 : ((48 : Int) ≤ c) := by omega
    by_cases h2 : c ≤ 57
    · have D := Lib.hid (show digitB c = true by unfold digitB; simp; omega)
      have t2 : ((c : Int) ≤ 57) := by omega
      go_enter Tryd.func72, Tryd.ntmps72
      go_wp2
      go_ret
      exact ⟨by rw [D.out]; rfl, rfl⟩
    · have D := Lib.hid (show digitB c = false by unfold digitB; simp; omega)
      have t2 : ¬ ((c : Int) ≤ 57) := by omega
      go_enter Tryd.func72, Tryd.ntmps72
      go_wp2
      go_ret
      exact ⟨by rw [D.out]; rfl, rfl⟩
  · have t1 : ¬ ((48 : Int) ≤ c) := by omega
    have D := Lib.hid (show digitB c = false by unfold digitB; simp; omega)
    go_enter Tryd.func72, Tryd.ntmps72
    go_wp2
    go_ret
    exact ⟨by rw [D.out]; rfl, rfl⟩

theorem letter_ref (c : Nat) (w : World) (hc : c < 256) :
    Calls Tryd.prog 59 #[.int .u8 c] w fun e w' => e = .returned (.bool (letterB c)) ∧ w = w' := by
  by_cases h1 : 97 ≤ c
  · by_cases h2 : c ≤ 122
    · have D := Lib.hid (show letterB c = true by unfold letterB; simp; omega)
      have t1 : ((97 : Int) ≤ c) := by omega
      have t2 : ((c : Int) ≤ 122) := by omega
      go_enter Tryd.func59, Tryd.ntmps59
      go_wp2
      go_ret
      exact ⟨by rw [D.out]; rfl, rfl⟩
    · have D := Lib.hid (show letterB c = false by unfold letterB; simp; omega)
      have t1 : ((97 : Int) ≤ c) := by omega
      have t2 : ¬ ((c : Int) ≤ 122) := by omega
      have t3 : ¬ ((c : Int) ≤ 90) := by omega
      have t4 : ((c : Int) == 95) = false := by simp; omega
      have t5 : ((c : Int) == 36) = false := by simp; omega
      go_enter Tryd.func59, Tryd.ntmps59
      go_wp2
      go_ret
      exact ⟨by rw [D.out]; rfl, rfl⟩
  · have t1 : ¬ ((97 : Int) ≤ c) := by omega
    by_cases h3 : 65 ≤ c ∧ c ≤ 90
    · have D := Lib.hid (show letterB c = true by unfold letterB; simp; omega)
      have t2 : ((65 : Int) ≤ c) := by omega
      have t3 : ((c : Int) ≤ 90) := by omega
      clear h3
      go_enter Tryd.func59, Tryd.ntmps59
      go_wp2
      go_ret
      exact ⟨by rw [D.out]; rfl, rfl⟩
    · have hh : (65 : Int) ≤ c ∧ ¬ (c : Int) ≤ 90 ∨ ¬ (65 : Int) ≤ c := by omega
      by_cases h4 : c = 95
      · have D := Lib.hid (show letterB c = true by unfold letterB; simp; omega)
        have t4 : ((c : Int) == 95) = true := by simp; omega
        clear h3 h4
        rcases hh with ⟨t2, t3⟩ | t2
        all_goals
          go_enter Tryd.func59, Tryd.ntmps59
          go_wp2
          go_ret
          exact ⟨by rw [D.out]; rfl, rfl⟩
      · have t4 : ((c : Int) == 95) = false := by simp; omega
        by_cases h5 : c = 36
        · have D := Lib.hid (show letterB c = true by unfold letterB; simp; omega)
          have t5 : ((c : Int) == 36) = true := by simp; omega
          clear h3 h4 h5
          rcases hh with ⟨t2, t3⟩ | t2
          all_goals
            go_enter Tryd.func59, Tryd.ntmps59
            go_wp2
            go_ret
            exact ⟨by rw [D.out]; rfl, rfl⟩
        · have D := Lib.hid (show letterB c = false by unfold letterB; simp; omega)
          have t5 : ((c : Int) == 36) = false := by simp; omega
          clear h3 h4 h5
          rcases hh with ⟨t2, t3⟩ | t2
          all_goals
            go_enter Tryd.func59, Tryd.ntmps59
            go_wp2
            go_ret
            exact ⟨by rw [D.out]; rfl, rfl⟩
theorem digit_ref (c : Nat) (w : World) (_hc : c < 256) :
    Calls Tryd.prog 77 #[.int .u8 c] w fun e w' => e = .returned (.bool (digitB c)) ∧ w = w' := by
  by_cases h1 : 48 ≤ c
  · have t1 : ((48 : Int) ≤ c) := by omega
    by_cases h2 : c ≤ 57
    · have D := Lib.hid (show digitB c = true by unfold digitB; simp; omega)
      have t2 : ((c : Int) ≤ 57) := by omega
      go_enter Tryd.func77, Tryd.ntmps77
      go_wp2
      go_ret
      exact ⟨by rw [D.out]; rfl, rfl⟩
    · have D := Lib.hid (show digitB c = false by unfold digitB; simp; omega)
      have t2 : ¬ ((c : Int) ≤ 57) := by omega
      go_enter Tryd.func77, Tryd.ntmps77
      go_wp2
      go_ret
      exact ⟨by rw [D.out]; rfl, rfl⟩
  · have t1 : ¬ ((48 : Int) ≤ c) := by omega
    have D := Lib.hid (show digitB c = false by unfold digitB; simp; omega)
    go_enter Tryd.func77, Tryd.ntmps77
    go_wp2
    go_ret
    exact ⟨by rw [D.out]; rfl, rfl⟩

set_option maxHeartbeats 400000 in
theorem word_prog (s : ByteArray) (i : Nat) (w : World) (hs : s.size ≤ 1000000000000000) (hi : i ≤ s.size) :
    Calls Tryd.prog 58 #[.string s, .int .i64 i] w fun e w' => e = .returned (.int .i64 (wordN s i)) ∧ w = w' := by
  go_enter Tryd.func58, Tryd.ntmps58
  go_wp2
  go_loop [1] (fun v => ∃ k : Nat, i ≤ k ∧ k ≤ s.size ∧ v = .int .i64 k ∧ wordN s k = wordN s i) (fun v => s.size - (intOf v).toNat)
  case atStart => exact ⟨i, by omega, hi, rfl, rfl⟩
  case round =>
    obtain ⟨k, hk1, hk, rfl, hc⟩ := hrel
    have HC := Lib.hid hc
    clear hc
    by_cases hlt : k < s.size
    · have hb := B_at s k hlt
      have hu := B_lt s k
      have kl := letter_prog (B s k) w hu
      have kd := digit_prog (B s k) w hu
      have hgo := Lib.hid (word_go hlt)
      have hst := Lib.hid (@word_stop s k)
      unfold alnumB at hgo hst
      generalize B s k = b at *
      cases h1 : letterB b with
      | true =>
        rw [h1] at kl
        have KL := Lib.hid kl
        have G := Lib.hid (hgo.out (by rw [h1]; rfl))
        clear kl kd h1 hgo hst
        go_wp2_with (go_at_call 57; refine KL.out.mono ?_; rintro e w1 ⟨rfl, rfl⟩)
        go_round
        case rel => exact ⟨k + 1, by omega, by omega, by go_num, by rw [← G.out, HC.out]⟩
        case measure => simp [intOf]; omega
      | false =>
        rw [h1] at kl
        have KL := Lib.hid kl
        cases h2 : digitB b with
        | true =>
          rw [h2] at kd
          have KD := Lib.hid kd
          have G := Lib.hid (hgo.out (by rw [h1, h2]; rfl))
          clear kl kd h1 h2 hgo hst
          go_wp2_with (first | (go_at_call 57; refine KL.out.mono ?_; rintro e w1 ⟨rfl, rfl⟩) | (go_at_call 72; refine KD.out.mono ?_; rintro e w1 ⟨rfl, rfl⟩))
          go_round
          case rel => exact ⟨k + 1, by omega, by omega, by go_num, by rw [← G.out, HC.out]⟩
          case measure => simp [intOf]; omega
        | false =>
          rw [h2] at kd
          have KD := Lib.hid kd
          have G := Lib.hid (hst.out (by rw [h1, h2]; simp))
          clear kl kd h1 h2 hgo hst
          go_wp2_with (first | (go_at_call 57; refine KL.out.mono ?_; rintro e w1 ⟨rfl, rfl⟩) | (go_at_call 72; refine KD.out.mono ?_; rintro e w1 ⟨rfl, rfl⟩))
          go_ret
          exact ⟨ret_int (by rw [← HC.out, G.out]), rfl⟩
    · obtain rfl : k = s.size := by omega
      have G := Lib.hid (@word_stop s s.size (by omega))
      go_wp2
      go_ret
      exact ⟨ret_int (by rw [← HC.out, G.out]), rfl⟩

set_option maxHeartbeats 400000 in
theorem word_ref (s : ByteArray) (i : Nat) (w : World) (hs : s.size ≤ 1000000000000000) (hi : i ≤ s.size) :
    Calls Tryd.prog 60 #[.string s, .int .i64 i] w fun e w' => e = .returned (.int .i64 (wordN s i)) ∧ w = w' := by
  go_enter Tryd.func60, Tryd.ntmps60
  go_wp2
  go_loop [1] (fun v => ∃ k : Nat, i ≤ k ∧ k ≤ s.size ∧ v = .int .i64 k ∧ wordN s k = wordN s i) (fun v => s.size - (intOf v).toNat)
  case atStart => exact ⟨i, by omega, hi, rfl, rfl⟩
  case round =>
    obtain ⟨k, hk1, hk, rfl, hc⟩ := hrel
    have HC := Lib.hid hc
    clear hc
    by_cases hlt : k < s.size
    · have hb := B_at s k hlt
      have hu := B_lt s k
      have kl := letter_ref (B s k) w hu
      have kd := digit_ref (B s k) w hu
      have hgo := Lib.hid (word_go hlt)
      have hst := Lib.hid (@word_stop s k)
      unfold alnumB at hgo hst
      generalize B s k = b at *
      cases h1 : letterB b with
      | true =>
        rw [h1] at kl
        have KL := Lib.hid kl
        have G := Lib.hid (hgo.out (by rw [h1]; rfl))
        clear kl kd h1 hgo hst
        go_wp2_with (go_at_call 59; refine KL.out.mono ?_; rintro e w1 ⟨rfl, rfl⟩)
        go_round
        case rel => exact ⟨k + 1, by omega, by omega, by go_num, by rw [← G.out, HC.out]⟩
        case measure => simp [intOf]; omega
      | false =>
        rw [h1] at kl
        have KL := Lib.hid kl
        cases h2 : digitB b with
        | true =>
          rw [h2] at kd
          have KD := Lib.hid kd
          have G := Lib.hid (hgo.out (by rw [h1, h2]; rfl))
          clear kl kd h1 h2 hgo hst
          go_wp2_with (first | (go_at_call 59; refine KL.out.mono ?_; rintro e w1 ⟨rfl, rfl⟩) | (go_at_call 77; refine KD.out.mono ?_; rintro e w1 ⟨rfl, rfl⟩))
          go_round
          case rel => exact ⟨k + 1, by omega, by omega, by go_num, by rw [← G.out, HC.out]⟩
          case measure => simp [intOf]; omega
        | false =>
          rw [h2] at kd
          have KD := Lib.hid kd
          have G := Lib.hid (hst.out (by rw [h1, h2]; simp))
          clear kl kd h1 h2 hgo hst
          go_wp2_with (first | (go_at_call 59; refine KL.out.mono ?_; rintro e w1 ⟨rfl, rfl⟩) | (go_at_call 77; refine KD.out.mono ?_; rintro e w1 ⟨rfl, rfl⟩))
          go_ret
          exact ⟨ret_int (by rw [← HC.out, G.out]), rfl⟩
    · obtain rfl : k = s.size := by omega
      have G := Lib.hid (@word_stop s s.size (by omega))
      go_wp2
      go_ret
      exact ⟨ret_int (by rw [← HC.out, G.out]), rfl⟩
end Go.Proofs.YtlgklkokadbpeaaDoor
