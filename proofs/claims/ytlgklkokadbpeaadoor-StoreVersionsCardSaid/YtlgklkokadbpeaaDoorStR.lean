import Derived.Test.YtlgklkokadbpeaaDoorStN
namespace Go.Proofs.YtlgklkokadbpeaaDoor
open Go.RowKit

set_option maxRecDepth 100000 in
set_option maxHeartbeats 2000000 in
theorem name_ref (s : ByteArray) (w : World) (hs : s.size ≤ 1000000000000000) :
    Calls Tryd.prog 23 #[.string s] w fun e w' => e = .returned (.bool (nameR s)) ∧ w = w' := by
  by_cases h1 : s.size < 1
  · have D := Lib.hid (show nameR s = false by rw [nameR, decide_eq_false (by omega)]; rfl)
    have t1 : decide (s.size < 1) = true := decide_eq_true h1
    go_enter Tryd.func23, Tryd.ntmps23
    go_wp2_with fail
    go_ret
    exact ⟨by rw [D.out]; rfl, rfl⟩
  by_cases h2 : 64 < s.size
  · have D := Lib.hid (show nameR s = false by rw [nameR, decide_eq_false (by omega)]; rfl)
    have t1 : decide (s.size < 1) = false := decide_eq_false h1
    have t2 : decide (64 < s.size) = true := decide_eq_true h2
    go_enter Tryd.func23, Tryd.ntmps23
    go_wp2_with fail
    go_ret
    exact ⟨by rw [D.out]; rfl, rfl⟩
  have t1 : decide (s.size < 1) = false := decide_eq_false h1
  have t2 : decide (64 < s.size) = false := decide_eq_false h2
  have hp : 0 < s.size := by omega
  have hx0 : (s[0]).toNat = B s 0 := B_at s 0 hp
  have hsz : decide (1 ≤ s.size ∧ s.size ≤ 64) = true := decide_eq_true (by omega)
  by_cases h3 : B s 0 < 97
  · have D := Lib.hid (show nameR s = false by rw [nameR, show smallB (B s 0) = false from decide_eq_false (by omega)]; simp)
    have t3 : decide (((B s 0 : Nat) : Int) < 97) = true := by simp; omega
    clear hsz
    go_enter Tryd.func23, Tryd.ntmps23
    go_wp2_with fail
    go_ret
    exact ⟨by rw [D.out]; rfl, rfl⟩
  by_cases h4 : 122 < B s 0
  · have D := Lib.hid (show nameR s = false by rw [nameR, show smallB (B s 0) = false from decide_eq_false (by omega)]; simp)
    have t3 : decide (((B s 0 : Nat) : Int) < 97) = false := by simp; omega
    have t4 : decide ((122 : Int) < ((B s 0 : Nat) : Int)) = true := by simp; omega
    clear hsz
    go_enter Tryd.func23, Tryd.ntmps23
    go_wp2_with fail
    go_ret
    exact ⟨by rw [D.out]; rfl, rfl⟩
  · have D := Lib.hid (show nameR s = allIn s s.size by rw [nameR, hsz, show smallB (B s 0) = true from decide_eq_true (by omega)]; simp)
    have t3 : decide (((B s 0 : Nat) : Int) < 97) = false := by simp; omega
    have t4 : decide ((122 : Int) < ((B s 0 : Nat) : Int)) = false := by simp; omega
    clear hsz
    go_enter Tryd.func23, Tryd.ntmps23
    go_wp2_with fail
    go_loop [3] (fun v => ∃ k : Nat, k ≤ s.size ∧ v = .int .i64 k ∧ allIn s k = true) (fun v => s.size - (intOf v).toNat)
    case atStart => exact ⟨0, by omega, by go_num, rfl⟩
    case round =>
      obtain ⟨k, hk, rfl, hn⟩ := hrel
      by_cases hlt : k < s.size
      · have hxk : (s[k]).toNat = B s k := B_at s k hlt
        have hcs : (97 ≤ B s k ∧ B s k ≤ 122) ∨ (48 ≤ B s k ∧ B s k ≤ 57) ∨ B s k = 95 ∨ (58 ≤ B s k ∧ B s k < 97 ∧ B s k ≠ 95) ∨ 123 ≤ B s k ∨ B s k = 46 ∨ B s k = 45 ∨ B s k = 47 ∨ (B s k < 48 ∧ B s k ≠ 46 ∧ B s k ≠ 45 ∧ B s k ≠ 47) := by omega
        rcases hcs with hcs | hcs | hcs | hcs | hcs | hcs | hcs | hcs | hcs
        · skip
          have D2 := Lib.hid ((all_step s k (decide_eq_true (by omega))).trans hn)
          have t97 : decide (97 ≤ ((B s k : Nat) : Int)) = true := by simp; omega
          have t122 : decide (((B s k : Nat) : Int) ≤ 122) = true := by simp; omega
          clear hn hcs
          go_wp2_with fail
          go_round
          case rel => exact ⟨k + 1, by omega, by go_num, D2.out⟩
          case measure => simp [intOf]; omega
        · skip
          have D2 := Lib.hid ((all_step s k (decide_eq_true (by omega))).trans hn)
          have t97 : decide (97 ≤ ((B s k : Nat) : Int)) = false := by simp; omega
          have t48 : decide (48 ≤ ((B s k : Nat) : Int)) = true := by simp; omega
          have t57 : decide (((B s k : Nat) : Int) ≤ 57) = true := by simp; omega
          clear hn hcs
          go_wp2_with fail
          go_round
          case rel => exact ⟨k + 1, by omega, by go_num, D2.out⟩
          case measure => simp [intOf]; omega
        · skip
          have D2 := Lib.hid ((all_step s k (decide_eq_true (by omega))).trans hn)
          have t97 : decide (97 ≤ ((B s k : Nat) : Int)) = false := by simp; omega
          have t48 : decide (48 ≤ ((B s k : Nat) : Int)) = true := by simp; omega
          have t57 : decide (((B s k : Nat) : Int) ≤ 57) = false := by simp; omega
          have e46 : (((B s k : Nat) : Int) == 46) = false := by simp; omega
          have g46 : (((B s k : Nat) : Int) != 46) = true := by simp; omega
          have e95 : (((B s k : Nat) : Int) == 95) = true := by simp; omega
          have g95 : (((B s k : Nat) : Int) != 95) = false := by simp; omega
          have e45 : (((B s k : Nat) : Int) == 45) = false := by simp; omega
          have g45 : (((B s k : Nat) : Int) != 45) = true := by simp; omega
          have e47 : (((B s k : Nat) : Int) == 47) = false := by simp; omega
          have g47 : (((B s k : Nat) : Int) != 47) = true := by simp; omega
          clear hn hcs
          go_wp2_with fail
          go_round
          case rel => exact ⟨k + 1, by omega, by go_num, D2.out⟩
          case measure => simp [intOf]; omega
        · skip
          have D2 := Lib.hid (all_bad s k (decide_eq_false (by omega)) s.size hlt)
          have t97 : decide (97 ≤ ((B s k : Nat) : Int)) = false := by simp; omega
          have t48 : decide (48 ≤ ((B s k : Nat) : Int)) = true := by simp; omega
          have t57 : decide (((B s k : Nat) : Int) ≤ 57) = false := by simp; omega
          have e46 : (((B s k : Nat) : Int) == 46) = false := by simp; omega
          have g46 : (((B s k : Nat) : Int) != 46) = true := by simp; omega
          have e95 : (((B s k : Nat) : Int) == 95) = false := by simp; omega
          have g95 : (((B s k : Nat) : Int) != 95) = true := by simp; omega
          have e45 : (((B s k : Nat) : Int) == 45) = false := by simp; omega
          have g45 : (((B s k : Nat) : Int) != 45) = true := by simp; omega
          have e47 : (((B s k : Nat) : Int) == 47) = false := by simp; omega
          have g47 : (((B s k : Nat) : Int) != 47) = true := by simp; omega
          clear hn hcs
          go_wp2_with fail
          go_ret
          exact ⟨by rw [D.out, D2.out]; rfl, rfl⟩
        · skip
          have D2 := Lib.hid (all_bad s k (decide_eq_false (by omega)) s.size hlt)
          have t97 : decide (97 ≤ ((B s k : Nat) : Int)) = true := by simp; omega
          have t122 : decide (((B s k : Nat) : Int) ≤ 122) = false := by simp; omega
          have t48 : decide (48 ≤ ((B s k : Nat) : Int)) = true := by simp; omega
          have t57 : decide (((B s k : Nat) : Int) ≤ 57) = false := by simp; omega
          have e46 : (((B s k : Nat) : Int) == 46) = false := by simp; omega
          have g46 : (((B s k : Nat) : Int) != 46) = true := by simp; omega
          have e95 : (((B s k : Nat) : Int) == 95) = false := by simp; omega
          have g95 : (((B s k : Nat) : Int) != 95) = true := by simp; omega
          have e45 : (((B s k : Nat) : Int) == 45) = false := by simp; omega
          have g45 : (((B s k : Nat) : Int) != 45) = true := by simp; omega
          have e47 : (((B s k : Nat) : Int) == 47) = false := by simp; omega
          have g47 : (((B s k : Nat) : Int) != 47) = true := by simp; omega
          clear hn hcs
          go_wp2_with fail
          go_ret
          exact ⟨by rw [D.out, D2.out]; rfl, rfl⟩
        · skip
          have D2 := Lib.hid ((all_step s k (decide_eq_true (by omega))).trans hn)
          have t97 : decide (97 ≤ ((B s k : Nat) : Int)) = false := by simp; omega
          have t48 : decide (48 ≤ ((B s k : Nat) : Int)) = false := by simp; omega
          have e46 : (((B s k : Nat) : Int) == 46) = true := by simp; omega
          have g46 : (((B s k : Nat) : Int) != 46) = false := by simp; omega
          have e95 : (((B s k : Nat) : Int) == 95) = false := by simp; omega
          have g95 : (((B s k : Nat) : Int) != 95) = true := by simp; omega
          have e45 : (((B s k : Nat) : Int) == 45) = false := by simp; omega
          have g45 : (((B s k : Nat) : Int) != 45) = true := by simp; omega
          have e47 : (((B s k : Nat) : Int) == 47) = false := by simp; omega
          have g47 : (((B s k : Nat) : Int) != 47) = true := by simp; omega
          clear hn hcs
          go_wp2_with fail
          go_round
          case rel => exact ⟨k + 1, by omega, by go_num, D2.out⟩
          case measure => simp [intOf]; omega
        · skip
          have D2 := Lib.hid ((all_step s k (decide_eq_true (by omega))).trans hn)
          have t97 : decide (97 ≤ ((B s k : Nat) : Int)) = false := by simp; omega
          have t48 : decide (48 ≤ ((B s k : Nat) : Int)) = false := by simp; omega
          have e46 : (((B s k : Nat) : Int) == 46) = false := by simp; omega
          have g46 : (((B s k : Nat) : Int) != 46) = true := by simp; omega
          have e95 : (((B s k : Nat) : Int) == 95) = false := by simp; omega
          have g95 : (((B s k : Nat) : Int) != 95) = true := by simp; omega
          have e45 : (((B s k : Nat) : Int) == 45) = true := by simp; omega
          have g45 : (((B s k : Nat) : Int) != 45) = false := by simp; omega
          have e47 : (((B s k : Nat) : Int) == 47) = false := by simp; omega
          have g47 : (((B s k : Nat) : Int) != 47) = true := by simp; omega
          clear hn hcs
          go_wp2_with fail
          go_round
          case rel => exact ⟨k + 1, by omega, by go_num, D2.out⟩
          case measure => simp [intOf]; omega
        · skip
          have D2 := Lib.hid ((all_step s k (decide_eq_true (by omega))).trans hn)
          have t97 : decide (97 ≤ ((B s k : Nat) : Int)) = false := by simp; omega
          have t48 : decide (48 ≤ ((B s k : Nat) : Int)) = false := by simp; omega
          have e46 : (((B s k : Nat) : Int) == 46) = false := by simp; omega
          have g46 : (((B s k : Nat) : Int) != 46) = true := by simp; omega
          have e95 : (((B s k : Nat) : Int) == 95) = false := by simp; omega
          have g95 : (((B s k : Nat) : Int) != 95) = true := by simp; omega
          have e45 : (((B s k : Nat) : Int) == 45) = false := by simp; omega
          have g45 : (((B s k : Nat) : Int) != 45) = true := by simp; omega
          have e47 : (((B s k : Nat) : Int) == 47) = true := by simp; omega
          have g47 : (((B s k : Nat) : Int) != 47) = false := by simp; omega
          clear hn hcs
          go_wp2_with fail
          go_round
          case rel => exact ⟨k + 1, by omega, by go_num, D2.out⟩
          case measure => simp [intOf]; omega
        · skip
          have D2 := Lib.hid (all_bad s k (decide_eq_false (by omega)) s.size hlt)
          have t97 : decide (97 ≤ ((B s k : Nat) : Int)) = false := by simp; omega
          have t48 : decide (48 ≤ ((B s k : Nat) : Int)) = false := by simp; omega
          have e46 : (((B s k : Nat) : Int) == 46) = false := by simp; omega
          have g46 : (((B s k : Nat) : Int) != 46) = true := by simp; omega
          have e95 : (((B s k : Nat) : Int) == 95) = false := by simp; omega
          have g95 : (((B s k : Nat) : Int) != 95) = true := by simp; omega
          have e45 : (((B s k : Nat) : Int) == 45) = false := by simp; omega
          have g45 : (((B s k : Nat) : Int) != 45) = true := by simp; omega
          have e47 : (((B s k : Nat) : Int) == 47) = false := by simp; omega
          have g47 : (((B s k : Nat) : Int) != 47) = true := by simp; omega
          clear hn hcs
          go_wp2_with fail
          go_ret
          exact ⟨by rw [D.out, D2.out]; rfl, rfl⟩
      · obtain rfl : k = s.size := by omega
        have D2 := Lib.hid hn
        clear hn
        go_wp2_with fail
        go_ret
        exact ⟨by rw [D.out, D2.out]; rfl, rfl⟩
end Go.Proofs.YtlgklkokadbpeaaDoor
