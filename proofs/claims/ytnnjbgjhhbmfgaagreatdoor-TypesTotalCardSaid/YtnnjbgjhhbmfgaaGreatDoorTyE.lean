import Derived.Test.YtnnjbgjhhbmfgaaGreatDoorTyD
import Derived.Test.YtnnjbgjhhbmfgaaGreatDoorProg
import Derived.WalkKit
import Derived.WalkLawsBesides
import Derived.LoopTactic
import Derived.Outline
import Derived.Handy
import Derived.Sort.Walk0
namespace Go.Proofs.YtnnjbgjhhbmfgaaGreatDoor
open Go.RowKit
set_option maxRecDepth 100000 in
set_option maxHeartbeats 1000000 in
theorem nan_s (s : ByteArray) (w : World) : Calls Tryz.prog 47 #[.string s] w fun e w' => e = .returned (.bool false) ∧ w = w' := by
  go_enter Tryz.func47, Tryz.ntmps47
  go_wp2_with fail
  go_ret
  exact ⟨rfl, rfl⟩
set_option maxRecDepth 100000 in
set_option maxHeartbeats 1000000 in
theorem nan_i (x : Int) (w : World) : Calls Tryz.prog 46 #[.int .i64 x] w fun e w' => e = .returned (.bool false) ∧ w = w' := by
  go_enter Tryz.func46, Tryz.ntmps46
  go_wp2_with fail
  go_ret
  exact ⟨rfl, rfl⟩
set_option maxRecDepth 100000 in
set_option maxHeartbeats 1000000 in
theorem nan_l (x : Int) (w : World) : Calls Tryz.prog 48 #[.int .i64 x] w fun e w' => e = .returned (.bool false) ∧ w = w' := by
  go_enter Tryz.func48, Tryz.ntmps48
  go_wp2_with fail
  go_ret
  exact ⟨rfl, rfl⟩
theorem less_iff (a b : ByteArray) : Op.bytesLess a.toList b.toList = decide (a.data.toList < b.data.toList) := by
  rw [bytesLess_eq, ByteArray.toList_eq, ByteArray.toList_eq]
theorem gtr_iff (a b : ByteArray) : (!(Op.bytesLess a.toList b.toList || a.toList == b.toList)) = decide (b.data.toList < a.data.toList) := by
  rw [less_iff, ByteArray.toList_eq, ByteArray.toList_eq, Bool.eq_iff_iff]
  simp only [Bool.not_eq_true', Bool.or_eq_false_iff, decide_eq_false_iff_not, beq_eq_false_iff_ne, ne_eq, decide_eq_true_eq]
  constructor
  · rintro ⟨h1, h2⟩
    rcases Classical.em (b.data.toList < a.data.toList) with h | h
    · exact h
    · exact absurd (tot_list h1 h) h2
  · intro h
    exact ⟨fun h' => List.lt_irrefl _ (List.lt_trans h h'), fun e => by rw [e] at h; exact List.lt_irrefl _ h⟩
set_option maxRecDepth 100000 in
set_option maxHeartbeats 1000000 in
theorem compare_s (a b : ByteArray) (w : World) : Calls Tryz.prog 23 #[.string a, .string b] w fun e w' => e = .returned (.int .i64 (cmpB a b)) ∧ w = w' := by
  have l := less_iff a b
  have g := gtr_iff a b
  unfold cmpB
  by_cases h1 : a.data.toList < b.data.toList
  · rw [decide_eq_true h1] at l
    rw [if_pos h1]
    clear h1 g
    go_enter Tryz.func23, Tryz.ntmps23
    go_wp2_with (go_at_call 47; refine (nan_s _ _).mono ?_; rintro e w2 ⟨rfl, rfl⟩)
    go_ret
    exact ⟨rfl, rfl⟩
  · rw [decide_eq_false h1] at l
    rw [if_neg h1]
    by_cases h2 : b.data.toList < a.data.toList
    · have e : (a.toList == b.toList) = false := by
        rw [ByteArray.toList_eq, ByteArray.toList_eq]
        exact beq_eq_false_iff_ne.2 (fun e => by rw [e] at h2; exact List.lt_irrefl _ h2)
      rw [if_pos h2]
      clear h1 h2 g
      go_enter Tryz.func23, Tryz.ntmps23
      go_wp2_with (go_at_call 47; refine (nan_s _ _).mono ?_; rintro e w2 ⟨rfl, rfl⟩)
      go_ret
      exact ⟨rfl, rfl⟩
    · obtain rfl : a = b := bytes_ext (tot_list h1 h2)
      rw [if_neg h2]
      clear h1 h2 g
      go_enter Tryz.func23, Tryz.ntmps23
      go_wp2_with (go_at_call 47; refine (nan_s _ _).mono ?_; rintro e w2 ⟨rfl, rfl⟩)
      go_ret
      exact ⟨rfl, rfl⟩
set_option maxRecDepth 100000 in
set_option maxHeartbeats 1000000 in
theorem compare_i (a b : Int) (w : World) : Calls Tryz.prog 22 #[.int .i64 a, .int .i64 b] w fun e w' => e = .returned (.int .i64 (cmpZ a b)) ∧ w = w' := by
  unfold cmpZ
  by_cases h1 : a < b
  · rw [if_pos h1]
    go_enter Tryz.func22, Tryz.ntmps22
    go_wp2_with (go_at_call 46; refine (nan_i _ _).mono ?_; rintro e w2 ⟨rfl, rfl⟩)
    go_ret
    exact ⟨rfl, rfl⟩
  · rw [if_neg h1]
    by_cases h2 : b < a
    · rw [if_pos h2]
      have t1 : decide (a < b) = false := decide_eq_false h1
      go_enter Tryz.func22, Tryz.ntmps22
      go_wp2_with (go_at_call 46; refine (nan_i _ _).mono ?_; rintro e w2 ⟨rfl, rfl⟩)
      go_ret
      exact ⟨rfl, rfl⟩
    · rw [if_neg h2]
      obtain rfl : a = b := by omega
      clear h1 h2
      go_enter Tryz.func22, Tryz.ntmps22
      go_wp2_with (go_at_call 46; refine (nan_i _ _).mono ?_; rintro e w2 ⟨rfl, rfl⟩)
      go_ret
      exact ⟨rfl, rfl⟩
set_option maxRecDepth 100000 in
set_option maxHeartbeats 1000000 in
theorem compare_l (a b : Int) (w : World) : Calls Tryz.prog 24 #[.int .i64 a, .int .i64 b] w fun e w' => e = .returned (.int .i64 (cmpZ a b)) ∧ w = w' := by
  unfold cmpZ
  by_cases h1 : a < b
  · rw [if_pos h1]
    go_enter Tryz.func24, Tryz.ntmps24
    go_wp2_with (go_at_call 48; refine (nan_l _ _).mono ?_; rintro e w2 ⟨rfl, rfl⟩)
    go_ret
    exact ⟨rfl, rfl⟩
  · rw [if_neg h1]
    by_cases h2 : b < a
    · rw [if_pos h2]
      have t1 : decide (a < b) = false := decide_eq_false h1
      go_enter Tryz.func24, Tryz.ntmps24
      go_wp2_with (go_at_call 48; refine (nan_l _ _).mono ?_; rintro e w2 ⟨rfl, rfl⟩)
      go_ret
      exact ⟨rfl, rfl⟩
    · rw [if_neg h2]
      obtain rfl : a = b := by omega
      clear h1 h2
      go_enter Tryz.func24, Tryz.ntmps24
      go_wp2_with (go_at_call 48; refine (nan_l _ _).mono ?_; rintro e w2 ⟨rfl, rfl⟩)
      go_ret
      exact ⟨rfl, rfl⟩
set_option maxRecDepth 100000 in
set_option maxHeartbeats 2000000 in
theorem or_2 (g : Nat) (a b : Int) (w : World) (h0 : w.cell? ⟨g, 0, none⟩ = some (.int .i64 a)) (h1 : w.cell? ⟨g, 1, none⟩ = some (.int .i64 b)) :
    Calls Tryz.prog 21 #[.slice (some ⟨g, 0, none⟩) 2 2] w fun e w' => e = .returned (.int .i64 (or2 a b)) ∧ w = w' := by
  unfold or2
  by_cases ha : a = 0
  case neg =>
    have ta : (a != 0) = true := by simpa using ha
    rw [if_pos ha]
    go_enter Tryz.func21, Tryz.ntmps21
    go_wp2
    go_rounds 1
    go_ret
    exact ⟨rfl, rfl⟩
  subst ha
  rw [if_neg (by simp)]
  by_cases hb : b = 0
  case neg =>
    have tb : (b != 0) = true := by simpa using hb
    go_enter Tryz.func21, Tryz.ntmps21
    go_wp2
    go_rounds 2
    go_ret
    exact ⟨rfl, rfl⟩
  subst hb
  go_enter Tryz.func21, Tryz.ntmps21
  go_wp2
  go_rounds 3
  go_ret
  exact ⟨rfl, rfl⟩
set_option maxRecDepth 100000 in
set_option maxHeartbeats 2000000 in
theorem or_3 (g : Nat) (a b c : Int) (w : World) (h0 : w.cell? ⟨g, 0, none⟩ = some (.int .i64 a)) (h1 : w.cell? ⟨g, 1, none⟩ = some (.int .i64 b)) (h2 : w.cell? ⟨g, 2, none⟩ = some (.int .i64 c)) :
    Calls Tryz.prog 21 #[.slice (some ⟨g, 0, none⟩) 3 3] w fun e w' => e = .returned (.int .i64 (or2 a (or2 b c))) ∧ w = w' := by
  unfold or2
  by_cases ha : a = 0
  case neg =>
    have ta : (a != 0) = true := by simpa using ha
    rw [if_pos ha]
    go_enter Tryz.func21, Tryz.ntmps21
    go_wp2
    go_rounds 1
    go_ret
    exact ⟨rfl, rfl⟩
  subst ha
  rw [if_neg (by simp)]
  by_cases hb : b = 0
  case neg =>
    have tb : (b != 0) = true := by simpa using hb
    rw [if_pos hb]
    go_enter Tryz.func21, Tryz.ntmps21
    go_wp2
    go_rounds 2
    go_ret
    exact ⟨rfl, rfl⟩
  subst hb
  rw [if_neg (by simp)]
  by_cases hc : c = 0
  case neg =>
    have tc : (c != 0) = true := by simpa using hc
    go_enter Tryz.func21, Tryz.ntmps21
    go_wp2
    go_rounds 3
    go_ret
    exact ⟨rfl, rfl⟩
  subst hc
  go_enter Tryz.func21, Tryz.ntmps21
  go_wp2
  go_rounds 4
  go_ret
  exact ⟨rfl, rfl⟩
end Go.Proofs.YtnnjbgjhhbmfgaaGreatDoor
