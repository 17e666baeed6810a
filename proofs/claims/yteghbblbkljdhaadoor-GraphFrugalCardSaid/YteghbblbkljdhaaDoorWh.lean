import Derived.Test.YteghbblbkljdhaaDoorRows
import Derived.Test.YteghbblbkljdhaaDoorPure
import Derived.WalkKit
import Derived.WalkLawsBesides
import Derived.WalkSpells
import Derived.LoopTactic
import Derived.Outline
import Derived.Below
import Derived.Lib.Hide
import Derived.Lib.Strings
import Derived.Test.YteghbblbkljdhaaDoorShelf
namespace Go.Proofs.YteghbblbkljdhaaDoor
open Go.RowKit
set_option maxHeartbeats 400000 in
theorem where_ref (s : ByteArray) (at_ : Nat) (w : World) (hs : s.size ≤ 1000000000000) (hat : at_ ≤ s.size) :
    Calls Tryd.prog 43 #[.string s, .int .i64 at_] w fun e w' => e = .returned (.tuple #[.int .i64 (lineN s at_), .int .i64 (colN s at_), .int .i64 0]) ∧ w = w' := by
  have t1 : decide ((at_ : Int) < 0) = false := by simp
  have t2 : decide (s.size < at_) = false := by simp; omega
  go_enter Tryd.func43, Tryd.ntmps43
  go_wp2
  go_loop [7, 8, 9] (fun l c i => ∃ k : Nat, k ≤ at_ ∧ i = .int .i64 k ∧ l = .int .i64 (lineN s k) ∧ c = .int .i64 (colN s k)) (fun _ _ i => at_ - (intOf i).toNat)
  case atStart => exact ⟨0, by omega, by go_num, rfl, rfl⟩
  case round =>
    obtain ⟨k, hk, rfl, rfl, rfl⟩ := hrel
    have hl := lineN_bd s k
    have hc := colN_bd s k
    by_cases hlt : k < at_
    · have hb := nl_at s k (by omega)
      cases hn : nl s k with
      | true =>
        rw [hn] at hb
        have hl1 := Lib.hid (lineN_hit hn)
        have hc1 := Lib.hid (colN_hit hn)
        clear hn
        go_wp2
        go_round
        case rel => exact ⟨k + 1, by omega, by go_num, by rw [hl1.out]; go_num, by rw [hc1.out]; rfl⟩
        case measure => simp [intOf]; omega
      | false =>
        rw [hn] at hb
        have hl1 := Lib.hid (lineN_miss hn)
        have hc1 := Lib.hid (colN_miss hn)
        clear hn
        go_wp2
        go_round
        case rel => exact ⟨k + 1, by omega, by go_num, by rw [hl1.out], by rw [hc1.out]; go_num⟩
        case measure => simp [intOf]; omega
    · obtain rfl : k = at_ := by omega
      go_wp2
      go_ret3
      exact ⟨rfl, rfl⟩
theorem where_ref_out (s : ByteArray) (at_ : Int) (w : World) (hs : s.size ≤ 1000000000000) (hat : at_ < 0 ∨ s.size < at_) :
    Calls Tryd.prog 43 #[.string s, .int .i64 at_] w fun e w' => e = .returned (.tuple #[.int .i64 0, .int .i64 0, .int .i64 2]) ∧ w = w' := by
  rcases hat with hat | hat
  · go_enter Tryd.func43, Tryd.ntmps43
    go_wp2
    go_ret3
    exact ⟨rfl, rfl⟩
  · have h2 : ¬ at_ < 0 := by omega
    go_enter Tryd.func43, Tryd.ntmps43
    go_wp2
    go_ret3
    exact ⟨rfl, rfl⟩
set_option maxHeartbeats 400000 in
theorem where_prog (s : ByteArray) (at_ : Nat) (w : World) (hs : s.size ≤ 1000000000000) (hat : at_ ≤ s.size) :
    Calls Tryd.prog 41 #[.string s, .int .i64 at_] w fun e w' => e = .returned (.tuple #[.int .i64 (lineN s at_), .int .i64 (colN s at_), .int .i64 0]) ∧ w = w' := by
  have t1 : decide ((at_ : Int) < 0) = false := by simp
  have t2 : decide (s.size < at_) = false := by simp; omega
  have hl := lineN_bd s at_
  have hc := colN_bd s at_
  have e1 := Lib.hid (count_line s at_ hat)
  have e2 := Lib.hid (last_ext s at_ hat)
  have hz : (s.extract 0 at_).size = at_ := by rw [ByteArray.size_extract]; omega
  have hx : (s.extract 0 at_).size < 4611686018427387904 := by omega
  have hcn : Lib.countByte (s.data.toList.take at_) 10 ≤ at_ := by have := e1.out; omega
  have hln : (at_ : Int) - Lib.lastIndexByte (s.extract 0 at_) 10 = colN s at_ := by rw [e2.out]; omega
  have H := Lib.hid hln
  clear hln hz
  go_enter Tryd.func41, Tryd.ntmps41
  go_wp2_with fail
  refine (Tryd.strings_Count_one _ _ _).mono ?_
  rintro e w1 ⟨rfl, rfl⟩
  go_wp2_with fail
  refine (Tryd.strings_LastIndexByte _ _ hx _).mono ?_
  rintro e w1 ⟨rfl, rfl⟩
  rw [e2.out]
  go_wp2_with fail
  go_ret3
  exact ⟨by rw [← e1.out]; simp; omega, rfl⟩
theorem where_prog_out (s : ByteArray) (at_ : Int) (w : World) (hs : s.size ≤ 1000000000000) (hat : at_ < 0 ∨ s.size < at_) :
    Calls Tryd.prog 41 #[.string s, .int .i64 at_] w fun e w' => e = .returned (.tuple #[.int .i64 0, .int .i64 0, .int .i64 2]) ∧ w = w' := by
  rcases hat with hat | hat
  · go_enter Tryd.func41, Tryd.ntmps41
    go_wp2
    go_ret3
    exact ⟨rfl, rfl⟩
  · have h2 : ¬ at_ < 0 := by omega
    go_enter Tryd.func41, Tryd.ntmps41
    go_wp2
    go_ret3
    exact ⟨rfl, rfl⟩
def whR (s : ByteArray) (a : Int) : Int × Int × Int := if a < 0 ∨ s.size < a then (0, 0, 2) else (lineN s a.toNat, colN s a.toNat, 0)
def whV (r : Int × Int × Int) : Value := .tuple #[.int .i64 r.1, .int .i64 r.2.1, .int .i64 r.2.2]
theorem where_prog_any (s : ByteArray) (a : Int) (w : World) (hs : s.size ≤ 1000000000000) :
    Calls Tryd.prog 41 #[.string s, .int .i64 a] w fun e w' => e = .returned (whV (whR s a)) ∧ w = w' := by
  by_cases h : a < 0 ∨ s.size < a
  · rw [whR, if_pos h]; exact where_prog_out s a w hs h
  · obtain ⟨n, rfl⟩ : ∃ n : Nat, a = n := ⟨a.toNat, by omega⟩
    rw [whR, if_neg h]; exact where_prog s n w hs (by omega)
theorem where_ref_any (s : ByteArray) (a : Int) (w : World) (hs : s.size ≤ 1000000000000) :
    Calls Tryd.prog 43 #[.string s, .int .i64 a] w fun e w' => e = .returned (whV (whR s a)) ∧ w = w' := by
  by_cases h : a < 0 ∨ s.size < a
  · rw [whR, if_pos h]; exact where_ref_out s a w hs h
  · obtain ⟨n, rfl⟩ : ∃ n : Nat, a = n := ⟨a.toNat, by omega⟩
    rw [whR, if_neg h]; exact where_ref s n w hs (by omega)
end Go.Proofs.YteghbblbkljdhaaDoor
