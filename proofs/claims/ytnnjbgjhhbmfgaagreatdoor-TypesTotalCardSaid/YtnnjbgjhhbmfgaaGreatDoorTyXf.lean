import Derived.Test.YtnnjbgjhhbmfgaaGreatDoorTyXe
import Derived.Test.YtnnjbgjhhbmfgaaGreatDoorTyXb
namespace Go.Proofs.YtnnjbgjhhbmfgaaGreatDoor
open Go.RowKit
theorem comp_any : CompP := fun K w0 w g c s h hb hg hs => by
  by_cases h2 : s.length < 2
  · exact comp_short h hb h2
  · exact comp_long h hb hg (by omega) hs
/-- types.Union, at all rows of types. -/
theorem union_all {K : Nat → Prop} {w : World} {l : List Ty} {A : Option Addr} {c : Nat} (hL : ListT K w l A c) (hbd : (flatU l).length ≤ 1099511627776) (hlo : ∀ b, K b → b < w.heap.size) :
    Calls Tryz.prog 7 #[.slice A l.length c] w (UnionPost K w l) := union_any sort_any sort_nil comp_any comp_nil hL hbd hlo
end Go.Proofs.YtnnjbgjhhbmfgaaGreatDoor
