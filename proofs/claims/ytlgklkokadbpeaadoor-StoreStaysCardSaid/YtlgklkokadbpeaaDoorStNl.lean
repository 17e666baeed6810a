import Derived.Test.YtlgklkokadbpeaaDoorStV
namespace Go.Proofs.YtlgklkokadbpeaaDoor
open Go.RowKit
set_option maxRecDepth 100000 in
set_option maxHeartbeats 1000000 in
theorem get_nil (s : ByteArray) (W : World) :
    Calls Tryd.prog 28 #[.pointer none, .string s] W fun e w' => e = .returned (.tuple #[.agg #[.string ⟨#[]⟩, .string ⟨#[]⟩, .int .i64 0], .int .i64 3]) ∧ Below W.heap.size W w' := by
  go_enter Tryd.func28, Tryd.ntmps28
  go_wp2_with fail
  exact bodyPost_ret (v := .tuple #[.agg #[.string ⟨#[]⟩, .string ⟨#[]⟩, .int .i64 0], .int .i64 3]) (by simp [results, Tryd.results28, go_sem]) rfl ⟨rfl, (Below.refl W.heap.size W).alloc (by simp) _⟩
set_option maxRecDepth 100000 in
set_option maxHeartbeats 1000000 in
theorem put_nil (s t : ByteArray) (W : World) :
    Calls Tryd.prog 24 #[.pointer none, .string s, .string t] W fun e w' => e = .returned (.int .i64 3) ∧ W = w' := by
  go_enter Tryd.func24, Tryd.ntmps24
  go_wp2_with fail
  go_ret
  exact ⟨rfl, rfl⟩
set_option maxRecDepth 100000 in
set_option maxHeartbeats 1000000 in
theorem edit_nil (s : ByteArray) (v : Value) (W : World) :
    Calls Tryd.prog 26 #[.pointer none, .string s, v] W fun e w' => e = .returned (.int .i64 3) ∧ Below W.heap.size W w' := by
  have KG := Lib.hid (get_nil s W)
  go_enter Tryd.func26, Tryd.ntmps26
  go_wp2_with (go_at_call 28; refine KG.out.mono ?_; rintro e w1 ⟨rfl, hb1⟩)
  go_ret
  exact ⟨rfl, hb1.alloc hb1.size _⟩
set_option maxRecDepth 100000 in
set_option maxHeartbeats 1000000 in
theorem drop_nil (s : ByteArray) (W : World) :
    Calls Tryd.prog 27 #[.pointer none, .string s] W fun e w' => e = .returned (.int .i64 3) ∧ Below W.heap.size W w' := by
  have KG := Lib.hid (get_nil s W)
  go_enter Tryd.func27, Tryd.ntmps27
  go_wp2_with (go_at_call 28; refine KG.out.mono ?_; rintro e w1 ⟨rfl, hb1⟩)
  go_ret
  exact ⟨rfl, hb1.alloc hb1.size _⟩
set_option maxRecDepth 100000 in
set_option maxHeartbeats 1000000 in
theorem all_nil (W : World) :
    Calls Tryd.prog 21 #[.pointer none] W fun e w' => e = .returned (.slice none 0 0) ∧ W = w' := by
  go_enter Tryd.func21, Tryd.ntmps21
  go_wp2_with fail
  go_ret
  exact ⟨rfl, rfl⟩
set_option maxRecDepth 100000 in
set_option maxHeartbeats 1000000 in
theorem rev_nil (W : World) :
    Calls Tryd.prog 19 #[.pointer none] W fun e w' => e = .returned (.int .i64 0) ∧ W = w' := by
  go_enter Tryd.func19, Tryd.ntmps19
  go_wp2_with fail
  go_ret
  exact ⟨rfl, rfl⟩
end Go.Proofs.YtlgklkokadbpeaaDoor
