import Derived.Test.YteghbblbkljdhaaDoorAw
import Derived.Test.YteghbblbkljdhaaDoorTie
import Derived.Test.YteghbblbkljdhaaDoorCards
import Derived.ProofKit
import Derived.OpenShut
import Derived.ShutString
import Derived.PinnedBridge
import Derived.Lay
import Derived.LaidOnce
import Derived.SevenTiedAt
import Derived.SizedLaws
import Derived.Lib.LaidU8
import Derived.Lib.LaidTab
import Derived.Lib.SmallJoins
namespace Go.Proofs.YteghbblbkljdhaaDoor
open Go.RowKit

open Go.RowKit Go.Shelf Go.Lib
open Go.ChangeShapes Go.WideShapes Go.ChangeAt
theorem own : ownKnob Tryd.prog.godebug = none := by kernel_rfl
theorem laidOut : laidOutB Tryd.prog = true := by kernel_rfl
def laid : List (String × DataW Unit) := [("math/bits.deBruijn32tab", Rows.laid_math_bits_deBruijn32tab), ("math/bits.deBruijn64tab", Rows.laid_math_bits_deBruijn64tab), ("internal/strconv.uint64pow10", Rows.laid_internal_strconv_uint64pow10), ("plinth/report.said", Rows.laid_plinth_report_said)]
theorem tab_of_reads {P : Program} {w : World} {n : String} {g : Nat} {t e : TypeId} {m : Nat} {k : IntKind} {zs : List Int} (hg : P.globalNamed n = some g) (hty : (P.globals[g]?).map (·.type) = some t) (ht : P.underlying t = some (.array m e)) (he : P.underlying e = some (.int k)) (hce : P.cellsOf e = 1) (hct : P.cellsOf t = m)
    (h : VarReads P w n (tabData k zs)) : TabIs P w n k zs := by
  obtain ⟨g', t', cs, fuel, p, hg', ht', hvar, hd⟩ := h
  obtain rfl := Option.some.inj (hg.symm.trans hg')
  obtain rfl := Option.some.inj (hty.symm.trans ht')
  unfold TabIs
  rw [hvar, ← cells_of_tab ht he hce hct hd]
theorem pow_eq : (Rows.laid_internal_strconv_uint64pow10 : DataW Unit) = tabData .u64 pow10Tab := by kernel_rfl
theorem said_eq : (Rows.laid_plinth_report_said : DataW Unit) = .agg ((List.range 32).map fun i => .lit (.string (saidL i))) := by kernel_rfl
theorem said_of {w : World} (h : VarReads Tryd.prog w "plinth/report.said" (.agg ((List.range 32).map fun i => .lit (.string (saidL i))))) : HasSaid w := by
  intro i hi
  obtain ⟨g, t, cs, fuel, p, hg, hty, hvar, hd⟩ := h
  obtain rfl := Option.some.inj ((show Tryd.prog.globalNamed "plinth/report.said" = some 0 by kernel_rfl).symm.trans hg)
  obtain rfl := Option.some.inj ((show (Tryd.prog.globals[0]?).map (·.type) = some 94 by kernel_rfl).symm.trans hty)
  obtain ⟨fuel', d, q, hdi, he⟩ := array_elem (show Tryd.prog.underlying 94 = some (.array 32 9) by kernel_rfl) hd i hi
  simp only [List.getElem?_map, List.getElem?_range hi, Option.map_some, Option.some.injEq] at hdi
  subst hdi
  rw [show Tryd.prog.cellsOf 9 = 1 by kernel_rfl, Nat.mul_one] at he
  obtain ⟨s, h1, h2, _⟩ := DataW.trod_string Tryd.underlying9 he
  have h3 := congrArg (·[0]?) h1
  simp only [List.getElem?_take, List.getElem?_drop] at h3
  rw [World.var?_cell hg hvar i, ← Array.getElem?_toList]
  have h4 : s.data.toList = saidL i := by simpa using (congrArg Prod.fst h2).symm
  simpa [← h4] using h3
theorem both_of {w : World} (hL : laidMetH Tryd.prog laid w) : HasSaid w ∧ Tab10 w := by
  rw [MakeChecks.laidMetH_plain _ _ _ (by kernel_rfl)] at hL
  refine ⟨said_of (said_eq ▸ Lib.laidMet.reads hL (.tail _ (.tail _ (.tail _ (.head _))))), ?_⟩
  exact tab_of_reads (g := 2) (t := 140) (e := 133) (m := 20) (by kernel_rfl) (by kernel_rfl) (by kernel_rfl) (by kernel_rfl) (by kernel_rfl) (by kernel_rfl) (pow_eq ▸ Lib.laidMet.reads hL (.tail _ (.tail _ (.head _))))
theorem size_of {s : ByteArray} (h : s.data.toList.length ≤ reachBytes) : s.size ≤ 1000000000000000 := by
  have h2 : s.size = s.data.toList.length := by simp
  have h3 : reachBytes ≤ 1000000000000000 := by decide
  omega
end Go.Proofs.YteghbblbkljdhaaDoor
