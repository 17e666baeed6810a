import Derived.Test.YthcldnjcijaikabDoorBa
namespace Go.Proofs.YthcldnjcijaikabDoor
open Go.RowKit

open Go.RowKit Go.Shelf Go.Lib
open Go.ChangeShapes Go.WideShapes Go.ChangeAt
theorem open_diag {H : Type} {enc : TypeId × Value → H} {W : World} {base bb : Nat} {sp : Nat → Bool} {held : Bool} {r : Reach} {v : Value} {d : DataW H} {p : List MemPlace}
    (hv : Value.okWide Tryd.prog W r bb 23 v) (h : DataW.Trod enc Tryd.prog W base sp held 23 v d p) (hz : ∀ n ∈ d.weights Tryd.prog 23, n ≤ reachBytes) :
    ∃ (f t : ByteArray) (a c : Int), v = .agg #[.string f, .int .i64 a, .int .i64 c, .string t] ∧ f.size ≤ 1000000000000000 ∧ t.size ≤ 1000000000000000 := by
  obtain ⟨v0, v1, v2, v3, y0, y1, y2, y3, m, rfl, rfl, rfl, h0, h1, h2, h3⟩ := Go.Joins.open_agg4 Tryd.underlying23 (by kernel_rfl) (by kernel_rfl) hv h
  obtain ⟨f, e0, q0, _⟩ := DataW.trod_string Tryd.underlying9 h0
  obtain ⟨a, e1, q1, _⟩ := DataW.trod_int Tryd.underlying3 h1
  obtain ⟨c, e2, q2, _⟩ := DataW.trod_int Tryd.underlying3 h2
  obtain ⟨t, e3, q3, _⟩ := DataW.trod_string Tryd.underlying9 h3
  obtain rfl : v0 = .string f := by simpa using e0
  obtain rfl : v1 = .int .i64 a := by simpa using e1
  obtain rfl : v2 = .int .i64 c := by simpa using e2
  obtain rfl : v3 = .string t := by simpa using e3
  subst q0 q1 q2 q3
  refine ⟨f, t, a, c, rfl, size_of (hz _ ?_), size_of (hz _ ?_)⟩
  · simp [DataW.weights, DataW.weightsEach, Tryd.underlying23]
  · simp [DataW.weights, DataW.weightsEach, Tryd.underlying23]
end Go.Proofs.YthcldnjcijaikabDoor
