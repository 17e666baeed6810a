import Derived.Test.YtcogdhdigjhjnaaDoorW6
namespace Go.Proofs.YtcogdhdigjhjnaaDoor
open Go.RowKit
theorem nl_end (s : ByteArray) : nl s s.size = false := by
  have hs : s.size = s.data.size := rfl
  unfold nl
  rw [getElem!_neg _ _ (by omega)]
  rfl
def AtPost (s : ByteArray) (line col : Int) (w : World) (e : Ending) (w' : World) : Prop :=
  ∃ x y, e = .returned (.tuple #[.int .i64 x, .int .i64 y]) ∧ AtR s line col x y ∧ w = w'
set_option maxHeartbeats 400000 in
theorem at_ref (s : ByteArray) (line col : Int) (w : World) (hs : s.size ≤ 1000000000000) :
    Calls Tryd.prog 15 #[.string s, .int .i64 line, .int .i64 col] w (AtPost s line col w) := by
  have HE := Lib.hid (nl_end s)
  go_enter Tryd.func15, Tryd.ntmps15
  go_wp2
  go_loop [8, 9, 10] (fun l c i => ∃ k : Nat, k ≤ s.size + 1 ∧ i = .int .i64 k ∧ l = .int .i64 (lineN s k) ∧ c = .int .i64 (colN s k) ∧ ∀ p, p < k → ¬ Found s line col p) (fun _ _ i => s.size + 1 - (intOf i).toNat)
  case atStart => exact ⟨0, by omega, by go_num, rfl, rfl, fun p h => absurd h (by omega)⟩
  case round =>
    obtain ⟨k, hk, rfl, rfl, rfl, hno⟩ := hrel
    have HN := Lib.hid hno
    clear hno
    have hl := lineN_bd s k
    have hc := colN_bd s k
    by_cases hlt : k ≤ s.size
    · by_cases hf : (lineN s k : Int) = line ∧ (colN s k : Int) = col
      · have t1 : (((lineN s k : Nat) : Int) == line) = true := by simp [hf.1]
        have t2 : (((colN s k : Nat) : Int) == col) = true := by simp [hf.2]
        have HF := Lib.hid hf
        clear hf
        go_wp2
        go_ret2
        exact ⟨_, _, rfl, .inl ⟨k, ⟨hlt, HF.out.1, HF.out.2⟩, rfl, rfl⟩, rfl⟩
      · have HN' : Hid (∀ p, p < k + 1 → ¬ Found s line col p) := Lib.hid (fun p hp h => by
          rcases Nat.lt_or_ge p k with h1 | h1
          · exact HN.out p h1 h
          · obtain rfl : p = k := by omega
            exact hf ⟨h.2.1, h.2.2⟩)
        clear HN
        have hcase : (((((lineN s k : Nat) : Int) == line) = true ∧ (((colN s k : Nat) : Int) == col) = false)) ∨ (((lineN s k : Nat) : Int) == line) = false := by
          by_cases h1 : (lineN s k : Int) = line
          · exact .inl ⟨by simp [h1], by simp; exact fun h2 => hf ⟨h1, h2⟩⟩
          · exact .inr (by simp [h1])
        clear hf
        cases hn : nl s k with
        | true =>
          have hlt2 : k < s.size := by
            rcases Nat.lt_or_ge k s.size with h | h
            · exact h
            · obtain rfl : k = s.size := by omega
              rw [HE.out] at hn; cases hn
          have hb := nl_at s k hlt2
          rw [hn] at hb
          have hl1 := Lib.hid (lineN_hit hn)
          have hc1 := Lib.hid (colN_hit hn)
          clear hn
          rcases hcase with ⟨t1, t2⟩ | t1
          all_goals
            go_wp2
            go_round
            case rel => exact ⟨k + 1, by omega, by go_num, by rw [hl1.out]; go_num, by rw [hc1.out]; rfl, HN'.out⟩
            case measure => simp [intOf]; omega
        | false =>
          have hl1 := Lib.hid (lineN_miss hn)
          have hc1 := Lib.hid (colN_miss hn)
          by_cases hlt2 : k < s.size
          · have hb := nl_at s k hlt2
            rw [hn] at hb
            clear hn
            rcases hcase with ⟨t1, t2⟩ | t1
            all_goals
              go_wp2
              go_round
              case rel => exact ⟨k + 1, by omega, by go_num, by rw [hl1.out], by rw [hc1.out]; go_num, HN'.out⟩
              case measure => simp [intOf]; omega
          · have hge : decide (k < s.size) = false := by simp; omega
            clear hn
            rcases hcase with ⟨t1, t2⟩ | t1
            all_goals
              go_wp2
              go_round
              case rel => exact ⟨k + 1, by omega, by go_num, by rw [hl1.out], by rw [hc1.out]; go_num, HN'.out⟩
              case measure => simp [intOf]; omega
    · obtain rfl : k = s.size + 1 := by omega
      go_wp2
      go_ret2
      exact ⟨_, _, rfl, .inr ⟨fun p hp => HN.out p (by have := hp.1; omega) hp, rfl, rfl⟩, rfl⟩
end Go.Proofs.YtcogdhdigjhjnaaDoor
