import Derived.Test.YtlpfpehegddcfaaGreatDoorMx44
import Derived.Test.YtlpfpehegddcfaaGreatDoorRows
import Derived.Test.YtlpfpehegddcfaaGreatDoorTie
import Derived.Test.YtlpfpehegddcfaaGreatDoorCards
import Derived.ProofKit
import Derived.OpenShut
import Derived.ShutString
import Derived.PinnedBridge
import Derived.Lay
import Derived.LaidOnce
import Derived.SevenTiedAt
import Derived.SizedLaws
namespace Go.Proofs.YtlpfpehegddcfaaGreatDoor
open Go.RowKit Go.Shelf Go.Lib
open Go.ChangeShapes Go.WideShapes Go.ChangeAt
theorem own : ownKnob Tryz.prog.godebug = none := by kernel_rfl
theorem laidOut : laidOutB Tryz.prog = true := by kernel_rfl
def laidE : List (String × DataW Unit) := [("unicode/utf8.acceptRanges", Rows.laid_unicode_utf8_acceptRanges), ("unicode/utf8.first", Rows.laid_unicode_utf8_first)]
theorem size_ofR {s : ByteArray} (h : s.data.toList.length ≤ reachBytes) : s.size ≤ 140737488351232 := by
  have h2 : s.size = s.data.toList.length := by simp
  have h3 : reachBytes = 140737488351232 := rfl
  omega
end Go.Proofs.YtlpfpehegddcfaaGreatDoor
