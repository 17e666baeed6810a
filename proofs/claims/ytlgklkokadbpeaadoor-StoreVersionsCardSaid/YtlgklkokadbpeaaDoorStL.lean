import Derived.Test.YtlgklkokadbpeaaDoorChB
import Derived.WideMake
import Derived.MapKept
namespace Go.Proofs.YtlgklkokadbpeaaDoor
open Go.RowKit

theorem lookup_none {P : Program} (w : World) (mt kt et : TypeId) (z : Value) (s : ByteArray) (hm : P.underlying mt = some (.map kt et)) (hk : P.underlying kt = some .string) (hz : (zeroValue et).run P w = .ok z w) :
    (Instr.lookup mt (.map none) (.string s) true).run P w = .ok (.tuple #[z, .bool false]) w := by
  have hf : Instr.findNow .string (.string s) ([] : List MapEntry) 0 = some none := rfl
  have hc : ∀ e, (Instr.checkKey e 10000 kt (.string s)).run P w = .ok () w := fun e => MapKept.run_checkKey (k := .string s) hk (by simp [MapKept.IsKey]) e 9999
  simp [Instr.lookup, run_underlying hm, hc, MapKept.run_findKey hk hf, Result.andThen, hz]
theorem lookup_one {P : Program} (w : World) (mt kt et : TypeId) (v : Value) (s : ByteArray) (r n clock : Nat) (he : (s == s) = true) (hm : P.underlying mt = some (.map kt et)) (hk : P.underlying kt = some .string) (hb : w.heap[r]? = some (.map #[{ key := .string s, val := v, born := n }] clock)) :
    (Instr.lookup mt (.map (some r)) (.string s) true).run P w = .ok (.tuple #[v, .bool true]) w := by
  have hf : Instr.findNow .string (.string s) [{ key := .string s, val := v, born := n }] 0 = some (some (0, v)) := by simp [Instr.findNow, Instr.sameNow, he]
  have hc : ∀ e, (Instr.checkKey e 10000 kt (.string s)).run P w = .ok () w := fun e => MapKept.run_checkKey (k := .string s) hk (by simp [MapKept.IsKey]) e 9999
  simp [Instr.lookup, run_underlying hm, MapKept.run_getObj_map hb, hc, MapKept.run_findKey hk hf, Result.andThen]
end Go.Proofs.YtlgklkokadbpeaaDoor
