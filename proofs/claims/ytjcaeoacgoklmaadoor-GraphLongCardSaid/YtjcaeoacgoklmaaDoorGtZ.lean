import Derived.Test.YtjcaeoacgoklmaaDoorGtY
namespace Go.Proofs.YtjcaeoacgoklmaaDoor
open Go.RowKit
theorem u8_nat {x : Int} (h : (Lit.int .u8 x).wf = true) : ∃ z : Nat, z < 256 ∧ x = (z : Int) := by
  have h1 : IntKind.u8.min ≤ x ∧ x ≤ IntKind.u8.max := by simpa [Lit.wf] using h
  have h2 : IntKind.u8.min = 0 := by decide
  have h3 : IntKind.u8.max = 255 := by decide
  refine ⟨x.toNat, ?_⟩
  omega
end Go.Proofs.YtjcaeoacgoklmaaDoor
