import Derived.Test.YtnnjbgjhhbmfgaaGreatDoorTyL
import Derived.Test.YtnnjbgjhhbmfgaaGreatDoorTyCw
import Derived.Test.YtnnjbgjhhbmfgaaGreatDoorTyOp
import Derived.Test.YtnnjbgjhhbmfgaaGreatDoorRows
import Derived.Test.YtnnjbgjhhbmfgaaGreatDoorTie
import Derived.Test.YtnnjbgjhhbmfgaaGreatDoorCards
import Derived.ProofKit
import Derived.OpenShut
import Derived.ShutString
import Derived.PinnedBridge
import Derived.Lay
import Derived.LaidOnce
import Derived.SevenTiedAt
import Derived.SizedLaws
namespace Go.Proofs.YtnnjbgjhhbmfgaaGreatDoor
open Go.RowKit Go.Shelf Go.Lib
open Go.ChangeShapes Go.WideShapes Go.ChangeAt
theorem own : ownKnob Tryz.prog.godebug = none := by kernel_rfl
theorem laidOut : laidOutB Tryz.prog = true := by kernel_rfl
def laid : List (String × DataW Unit) := [("math/bits.deBruijn32tab", Rows.laid_math_bits_deBruijn32tab), ("math/bits.deBruijn64tab", Rows.laid_math_bits_deBruijn64tab), ("internal/strconv.uint64pow10", Rows.laid_internal_strconv_uint64pow10), ("unicode/utf8.acceptRanges", Rows.laid_unicode_utf8_acceptRanges), ("unicode/utf8.first", Rows.laid_unicode_utf8_first)]
end Go.Proofs.YtnnjbgjhhbmfgaaGreatDoor
