import Derived.Test.YtogoolpgajopcaaTrA
namespace Go.Proofs.Ytogoolpgajopcaa
open Go.RowKit
/-- Is it a word that is a type? -/
def wordB (t : ByteArray) : Bool := (t.toList == [97, 110, 121]) || ((t.toList == [117, 110, 107, 110, 111, 119, 110]) || ((t.toList == [110, 101, 118, 101, 114]) || ((t.toList == [110, 117, 108, 108]) || ((t.toList == [98, 111, 111, 108, 101, 97, 110]) || ((t.toList == [110, 117, 109, 98, 101, 114]) || ((t.toList == [115, 116, 114, 105, 110, 103]) || ((t.toList == [116, 114, 117, 101]) || (t.toList == [102, 97, 108, 115, 101]))))))))
set_option maxRecDepth 100000 in
set_option maxHeartbeats 4000000 in
theorem word_all (t : ByteArray) (w : World) : Calls Try.prog 66 #[.string t] w fun e w' => e = .returned (.bool (wordB t)) ∧ w = w' := by
  obtain ⟨y, hy⟩ : ∃ y, wordB t = y := ⟨_, rfl⟩
  rw [hy]
  have HY := Lib.hid hy
  clear hy
  go_enter Try.func66, Try.ntmps66
  go_wp2_with fail
  all_goals first
    | (exfalso; simp_all; done)
    | (go_ret; refine ⟨ret_bool ?_, rfl⟩; rw [← HY.out]; unfold wordB; simp only [*, Bool.true_or, Bool.or_true, Bool.or_false]; done)
set_option maxRecDepth 100000 in
set_option maxHeartbeats 4000000 in
theorem word_ref (t : ByteArray) (w : World) : Calls Try.prog 38 #[.string t] w fun e w' => e = .returned (.bool (wordB t)) ∧ w = w' := by
  obtain ⟨y, hy⟩ : ∃ y, wordB t = y := ⟨_, rfl⟩
  rw [hy]
  have HY := Lib.hid hy
  clear hy
  go_enter Try.func38, Try.ntmps38
  go_wp2_with fail
  all_goals first
    | (exfalso; simp_all; done)
    | (go_ret; refine ⟨ret_bool ?_, rfl⟩; rw [← HY.out]; unfold wordB; simp only [*, Bool.true_or, Bool.or_true, Bool.or_false]; done)
end Go.Proofs.Ytogoolpgajopcaa
