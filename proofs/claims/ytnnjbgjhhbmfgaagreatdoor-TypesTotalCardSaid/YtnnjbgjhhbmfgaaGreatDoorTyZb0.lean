import Derived.Test.YtnnjbgjhhbmfgaaGreatDoorTyZa
import Derived.BigQuiet
namespace Go.Proofs.YtnnjbgjhhbmfgaaGreatDoor
open Go.RowKit
theorem drewN_below {B : Nat} {a w : World} (h : Below B a w) : ∀ n, Below B a (w.drewN n)
  | 0 => h
  | n + 1 => (drewN_below h n).drew
def fitsB (s : Shp) (t : ByteArray) (n : Int) (np nf nv : Nat) : Bool :=
  !((!s.t && !(t.toList == [])) || (!s.n && n != 0) || (!s.f && decide (0 < nf)) || (!s.v && decide (0 < nv))) && (decide (s.lo ≤ (np : Int)) && (s.hi == -1 || decide ((np : Int) ≤ s.hi)))
end Go.Proofs.YtnnjbgjhhbmfgaaGreatDoor
