import Derived.Test.YteghbblbkljdhaaDoorSoR
import Derived.Test.YteghbblbkljdhaaDoorProg
import Derived.WalkKit
import Derived.WalkLawsBesides
import Derived.LoopTactic
import Derived.Outline
import Derived.Handy
namespace Go.Proofs.YteghbblbkljdhaaDoor
open Go.RowKit
set_option maxRecDepth 100000 in
set_option maxHeartbeats 1000000 in
theorem nan_s (s : ByteArray) (w : World) : Calls Tryd.prog 62 #[.string s] w fun e w' => e = .returned (.bool false) ∧ w = w' := by
  go_enter Tryd.func62, Tryd.ntmps62
  go_wp2_with fail
  go_ret
  exact ⟨rfl, rfl⟩
set_option maxRecDepth 100000 in
set_option maxHeartbeats 1000000 in
theorem nan_i (x : Int) (w : World) : Calls Tryd.prog 63 #[.int .i64 x] w fun e w' => e = .returned (.bool false) ∧ w = w' := by
  go_enter Tryd.func63, Tryd.ntmps63
  go_wp2_with fail
  go_ret
  exact ⟨rfl, rfl⟩
theorem less_iff (a b : ByteArray) : Op.bytesLess a.toList b.toList = decide (a.data.toList < b.data.toList) := by
  rw [bytesLess_eq, ByteArray.toList_eq, ByteArray.toList_eq]
theorem gtr_iff (a b : ByteArray) : (!(Op.bytesLess a.toList b.toList || a.toList == b.toList)) = decide (b.data.toList < a.data.toList) := by
  rw [less_iff, ByteArray.toList_eq, ByteArray.toList_eq, Bool.eq_iff_iff]
  simp only [Bool.not_eq_true', Bool.or_eq_false_iff, decide_eq_false_iff_not, beq_eq_false_iff_ne, ne_eq, decide_eq_true_eq]
  constructor
  · rintro ⟨h1, h2⟩
    rcases Classical.em (b.data.toList < a.data.toList) with h | h
    · exact h
    · exact absurd (list_tot h1 h) h2
  · intro h
    exact ⟨fun h' => List.lt_irrefl _ (List.lt_trans h h'), fun e => by rw [e] at h; exact List.lt_irrefl _ h⟩
set_option maxRecDepth 100000 in
set_option maxHeartbeats 1000000 in
theorem compare_s (a b : ByteArray) (w : World) : Calls Tryd.prog 49 #[.string a, .string b] w fun e w' => e = .returned (.int .i64 (cmpS a b)) ∧ w = w' := by
  have l := less_iff a b
  have g := gtr_iff a b
  unfold cmpS
  by_cases h1 : a.data.toList < b.data.toList
  · rw [decide_eq_true h1] at l
    rw [if_pos h1]
    clear h1 g
    go_enter Tryd.func49, Tryd.ntmps49
    go_wp2_with (go_at_call 62; refine (nan_s _ _).mono ?_; rintro e w2 ⟨rfl, rfl⟩)
    go_ret
    exact ⟨rfl, rfl⟩
  · rw [decide_eq_false h1] at l
    rw [if_neg h1]
    by_cases h2 : b.data.toList < a.data.toList
    · have e : (a.toList == b.toList) = false := by
        rw [ByteArray.toList_eq, ByteArray.toList_eq]
        exact beq_eq_false_iff_ne.2 (fun e => by rw [e] at h2; exact List.lt_irrefl _ h2)
      rw [if_pos h2]
      clear h1 h2 g
      go_enter Tryd.func49, Tryd.ntmps49
      go_wp2_with (go_at_call 62; refine (nan_s _ _).mono ?_; rintro e w2 ⟨rfl, rfl⟩)
      go_ret
      exact ⟨rfl, rfl⟩
    · obtain rfl : a = b := bytes_inj (list_tot h1 h2)
      rw [if_neg h2]
      clear h1 h2 g
      go_enter Tryd.func49, Tryd.ntmps49
      go_wp2_with (go_at_call 62; refine (nan_s _ _).mono ?_; rintro e w2 ⟨rfl, rfl⟩)
      go_ret
      exact ⟨rfl, rfl⟩
set_option maxRecDepth 100000 in
set_option maxHeartbeats 1000000 in
theorem compare_i (a b : Int) (w : World) : Calls Tryd.prog 50 #[.int .i64 a, .int .i64 b] w fun e w' => e = .returned (.int .i64 (cmpI a b)) ∧ w = w' := by
  unfold cmpI
  by_cases h1 : a < b
  · rw [if_pos h1]
    go_enter Tryd.func50, Tryd.ntmps50
    go_wp2_with (go_at_call 63; refine (nan_i _ _).mono ?_; rintro e w2 ⟨rfl, rfl⟩)
    go_ret
    exact ⟨rfl, rfl⟩
  · rw [if_neg h1]
    by_cases h2 : b < a
    · rw [if_pos h2]
      have t1 : decide (a < b) = false := decide_eq_false h1
      go_enter Tryd.func50, Tryd.ntmps50
      go_wp2_with (go_at_call 63; refine (nan_i _ _).mono ?_; rintro e w2 ⟨rfl, rfl⟩)
      go_ret
      exact ⟨rfl, rfl⟩
    · rw [if_neg h2]
      obtain rfl : a = b := by omega
      clear h1 h2
      go_enter Tryd.func50, Tryd.ntmps50
      go_wp2_with (go_at_call 63; refine (nan_i _ _).mono ?_; rintro e w2 ⟨rfl, rfl⟩)
      go_ret
      exact ⟨rfl, rfl⟩
/-- The first that isn't 0, of four. -/
def or4 (a b c d : Int) : Int := if a ≠ 0 then a else if b ≠ 0 then b else if c ≠ 0 then c else d
set_option maxRecDepth 100000 in
set_option maxHeartbeats 2000000 in
theorem or_four (g : Nat) (a b c d : Int) (w : World) (h0 : w.cell? ⟨g, 0, none⟩ = some (.int .i64 a)) (h1 : w.cell? ⟨g, 1, none⟩ = some (.int .i64 b)) (h2 : w.cell? ⟨g, 2, none⟩ = some (.int .i64 c)) (h3 : w.cell? ⟨g, 3, none⟩ = some (.int .i64 d)) :
    Calls Tryd.prog 48 #[.slice (some ⟨g, 0, none⟩) 4 4] w fun e w' => e = .returned (.int .i64 (or4 a b c d)) ∧ w = w' := by
  unfold or4
  by_cases ha : a = 0
  case neg =>
    have ta : (a != 0) = true := by simpa using ha
    rw [if_pos ha]
    go_enter Tryd.func48, Tryd.ntmps48
    go_wp2
    go_rounds 1
    go_ret
    exact ⟨rfl, rfl⟩
  subst ha
  rw [if_neg (by simp)]
  by_cases hb : b = 0
  case neg =>
    have tb : (b != 0) = true := by simpa using hb
    rw [if_pos hb]
    go_enter Tryd.func48, Tryd.ntmps48
    go_wp2
    go_rounds 2
    go_ret
    exact ⟨rfl, rfl⟩
  subst hb
  rw [if_neg (by simp)]
  by_cases hc : c = 0
  case neg =>
    have tc : (c != 0) = true := by simpa using hc
    rw [if_pos hc]
    go_enter Tryd.func48, Tryd.ntmps48
    go_wp2
    go_rounds 3
    go_ret
    exact ⟨rfl, rfl⟩
  subst hc
  rw [if_neg (by simp)]
  by_cases hd : d = 0
  case neg =>
    have td : (d != 0) = true := by simpa using hd
    go_enter Tryd.func48, Tryd.ntmps48
    go_wp2
    go_rounds 4
    go_ret
    exact ⟨rfl, rfl⟩
  subst hd
  go_enter Tryd.func48, Tryd.ntmps48
  go_wp2
  go_rounds 5
  go_ret
  exact ⟨rfl, rfl⟩
end Go.Proofs.YteghbblbkljdhaaDoor
