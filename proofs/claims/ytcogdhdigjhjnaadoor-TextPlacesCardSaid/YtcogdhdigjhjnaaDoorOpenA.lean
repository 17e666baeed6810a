import Derived.Test.YtcogdhdigjhjnaaDoorBase
namespace Go.Proofs.YtcogdhdigjhjnaaDoor
open Go.RowKit Go.ChangeShapes Go.WideShapes
/-- An array of integers that comes in by value. -/
theorem open_arr {H : Type} {enc : TypeId × Value → H} {P : Program} {W : World} {base bb : Nat} {spare : Nat → Bool} {held : Bool} {r : Reach} {n : Nat} {k : IntKind} {t e : TypeId} {v : Value} {d : DataW H} {p : List MemPlace}
    (ht : P.underlying t = some (.array n e)) (he : P.underlying e = some (.int k)) (hce : P.cellsOf e = 1) (hct : P.cellsOf t = n) (hv : Value.okWide P W r bb t v) (h : DataW.Trod enc P W base spare held t v d p) :
    ∃ f : Nat → Int, v = .agg ((List.range n).map fun i => Value.int k (f i)).toArray ∧ ∀ i, i < n → (Lit.int k (f i)).wf = true := by
  simp only [Value.okWide, ht] at hv
  obtain ⟨cs, rfl, hsz, _⟩ := hv
  obtain ⟨fuel, hf⟩ := h
  obtain ⟨xs, m, _, _, hlen, hn, hel⟩ := DataW.trod_array ht hf
  have key : ∀ i, i < n → ∃ z, cs[i]? = some (.int k z) ∧ (Lit.int k z).wf = true := by
    intro i hi
    have hx : xs[i]? = some (xs[i]'(by omega)) := List.getElem?_eq_getElem (by omega)
    have h1 := (hel i hi).trans hx
    rw [hce] at h1
    obtain ⟨z, e1, _, wz⟩ := DataW.trod_int he h1
    refine ⟨z, ?_, wz⟩
    have hci : i < cs.toList.length := by simp; omega
    have h2 : ((Value.agg cs).cells.toList.drop (i * 1)).take 1 = [cs.toList[i]] := by
      have : (Value.agg cs).cells.toList = cs.toList := rfl
      rw [this, Nat.mul_one, List.drop_eq_getElem_cons hci]
      rfl
    rw [h2] at e1
    have e2 : cs.toList[i] = .int k z := by simpa using e1
    rw [← Array.getElem?_toList, List.getElem?_eq_getElem hci, e2]
  obtain ⟨g, hg⟩ : ∃ g : Nat → Int, ∀ i, i < n → cs[i]? = some (.int k (g i)) ∧ (Lit.int k (g i)).wf = true := by
    classical
    exact ⟨fun i => if h : i < n then (key i h).choose else 0, fun i h => by dsimp only; rw [dif_pos h]; exact (key i h).choose_spec⟩
  refine ⟨g, ?_, fun i hi => (hg i hi).2⟩
  congr 1
  apply Array.ext_getElem?
  intro i
  by_cases hi : i < n
  · rw [(hg i hi).1]; simp [hi]
  · rw [Array.getElem?_eq_none (by rw [hsz, hct]; omega), Array.getElem?_eq_none (by simp; omega)]
end Go.Proofs.YtcogdhdigjhjnaaDoor
