import Derived.Test.YtjcaeoacgoklmaaDoorGtC
namespace Go.Proofs.YtjcaeoacgoklmaaDoor
open Go.RowKit
set_option maxRecDepth 100000 in
theorem need_one (W : World) : Calls Tryd.prog 15 #[.int .i64 1] W fun e w' => e = .returned (.int .i64 0) ∧ w' = W := by
  have ix : ∀ w, (Instr.index 68 (.agg #[.int .i64 0, .int .i64 0, .int .i64 3, .int .i64 1, .int .i64 2]) (.int .i64 1)).run Tryd.prog w = .ok (.int .i64 0) w := fun w => by kernel_rfl
  go_enter Tryd.func15, Tryd.ntmps15
  go_wp2_with fail
  go_ret
  exact ⟨rfl, rfl⟩
end Go.Proofs.YtjcaeoacgoklmaaDoor
