import Derived.Test.YteghbblbkljdhaaDoorSoO
import Derived.Test.YteghbblbkljdhaaDoorBa
import Derived.Deep.Slices
import Derived.Deep.Fields
import Derived.ChangeSame
namespace Go.Proofs.YteghbblbkljdhaaDoor
open Go.RowKit Go.ChangeShapes Go.WideShapes Go.Deep
theorem add_add (a : Addr) (x y : Nat) : (a.add x).add y = a.add (x + y) := by
  unfold Addr.add
  by_cases hx : x = 0 <;> by_cases hy : y = 0 <;> simp [hx, hy, Nat.add_assoc] <;> omega
set_option maxRecDepth 100000 in
theorem cellsOfD : Tryd.prog.cellsOf 55 = 4 := by kernel_rfl
set_option maxRecDepth 100000 in
/-- A slice of Diags that came in. -/
theorem diag_arg {H : Type} {enc : TypeId × Value → H} {W : World} {fuel len cap : Nat} {a0 : Option Addr} {d : DataW H} {p : List MemPlace}
    (hf : DataW.trod enc Tryd.prog W 0 (fun _ => true) true fuel 60 [.slice a0 len cap] = some (d, p)) : ∃ f, NilOk a0 len cap ∧ Src W a0 len f := by
  rcases open_slice Tryd.underlying60 hf with ⟨hcs, _⟩ | ⟨a, len', cap', m, n, D, Pl, hcs, _, hl, _, hm, hx, hi⟩
  · simp at hcs
    obtain ⟨-, rfl, rfl⟩ := hcs
    exact ⟨fun _ => ⟨⟨#[]⟩, 0, 0, ⟨#[]⟩⟩, fun _ => ⟨rfl, rfl⟩, .inl rfl⟩
  · simp at hcs
    obtain ⟨rfl, rfl, rfl⟩ := hcs
    rcases Nat.eq_zero_or_pos len with h0 | h0
    · exact ⟨fun _ => ⟨⟨#[]⟩, 0, 0, ⟨#[]⟩⟩, (fun h => by cases h), .inl h0⟩
    simp only [if_true] at hm
    subst hm
    have key : ∀ i, i < len → ∃ x : DiagD, W.cell? (a.add (i * 4)) = some (.string x.f) ∧ W.cell? (a.add (i * 4 + 1)) = some (.int .i64 x.a) ∧ W.cell? (a.add (i * 4 + 2)) = some (.int .i64 x.c) ∧ W.cell? (a.add (i * 4 + 3)) = some (.string x.t) := by
      intro i hlt
      obtain ⟨cs', hc, ht⟩ := hi i (by omega)
      rw [cellsOfD] at hc
      obtain ⟨_, hcl, hat⟩ := World.cells?_some hc
      match cs', hcl with
      | [c0, c1, c2, c3], _ =>
        obtain ⟨ys, n', _, hy, _, hyl, hg⟩ := DataW.trod_struct Tryd.underlying55 ht
        have k3 : Tryd.prog.cellsOf 3 = 1 := by kernel_rfl
        have k9 : Tryd.prog.cellsOf 9 = 1 := by kernel_rfl
        match ys, hyl with
        | [y0, y1, y2, y3], _ =>
          have g0 : DataW.trod enc Tryd.prog W 0 (fun _ => true) true n' 9 (([c0, c1, c2, c3].drop 0).take (Tryd.prog.cellsOf 9)) = some y0 := hg 0 _ rfl
          have g1 : DataW.trod enc Tryd.prog W 0 (fun _ => true) true n' 3 (([c0, c1, c2, c3].drop 1).take (Tryd.prog.cellsOf 3)) = some y1 := hg 1 _ rfl
          have g2 : DataW.trod enc Tryd.prog W 0 (fun _ => true) true n' 3 (([c0, c1, c2, c3].drop 2).take (Tryd.prog.cellsOf 3)) = some y2 := hg 2 _ rfl
          have g3 : DataW.trod enc Tryd.prog W 0 (fun _ => true) true n' 9 (([c0, c1, c2, c3].drop 3).take (Tryd.prog.cellsOf 9)) = some y3 := hg 3 _ rfl
          rw [k9] at g0 g3
          rw [k3] at g1 g2
          obtain ⟨s, e0, _, _⟩ := DataW.trod_string Tryd.underlying9 g0
          obtain ⟨x, e1, _, _⟩ := DataW.trod_int Tryd.underlying3 g1
          obtain ⟨y, e2, _, _⟩ := DataW.trod_int Tryd.underlying3 g2
          obtain ⟨t, e3, _, _⟩ := DataW.trod_string Tryd.underlying9 g3
          obtain rfl : c0 = .string s := by have h : [c0] = [.string s] := e0; simpa using h
          obtain rfl : c1 = .int .i64 x := by have h : [c1] = [.int .i64 x] := e1; simpa using h
          obtain rfl : c2 = .int .i64 y := by have h : [c2] = [.int .i64 y] := e2; simpa using h
          obtain rfl : c3 = .string t := by have h : [c3] = [.string t] := e3; simpa using h
          have a0 := hat 0 (by decide)
          have a1 := hat 1 (by decide)
          have a2 := hat 2 (by decide)
          have a3 := hat 3 (by decide)
          rw [add_add] at a0 a1 a2 a3
          exact ⟨⟨s, x, y, t⟩, a0, a1, a2, a3⟩
    obtain ⟨g, hg⟩ : ∃ g : Nat → DiagD, ∀ i, i < len → W.cell? (a.add (i * 4)) = some (.string (g i).f) ∧ W.cell? (a.add (i * 4 + 1)) = some (.int .i64 (g i).a) ∧ W.cell? (a.add (i * 4 + 2)) = some (.int .i64 (g i).c) ∧ W.cell? (a.add (i * 4 + 3)) = some (.string (g i).t) := by
      classical
      exact ⟨fun i => if h : i < len then (key i h).choose else ⟨⟨#[]⟩, 0, 0, ⟨#[]⟩⟩, fun i h => by dsimp only; rw [dif_pos h]; exact (key i h).choose_spec⟩
    obtain ⟨b, off, spot⟩ := a
    have hc0 := (hg 0 h0).1
    have hspot : spot = none := by simpa [Addr.add] using World.cell?_spot hc0
    subst hspot
    have hadd : ∀ k, (⟨b, off, none⟩ : Addr).add k = ⟨b, off + k, none⟩ := fun k => by unfold Addr.add; split <;> simp_all
    refine ⟨g, (fun h => by cases h), .inr ⟨b, off, rfl, ?_, fun j u hj => ?_⟩⟩
    · have := World.block_lt_of_cell? _ _ hc0
      rw [hadd] at this
      exact this
    · have hlt : j < len * 4 := by have := (List.getElem?_eq_some_iff.1 hj).1; rwa [flat4_len] at this
      obtain ⟨k, x, hx, rfl⟩ : ∃ k x, x < 4 ∧ j = k * 4 + x := ⟨j / 4, j % 4, by omega, by omega⟩
      rw [flat4_at g len k x (by omega) hx] at hj
      obtain ⟨x0, x1, x2, x3⟩ := hg k (by omega)
      rw [hadd] at x0 x1 x2 x3
      rcases x with _ | _ | _ | _ | x
      · rw [Nat.add_zero, x0]; exact hj
      · rw [x1]; exact hj
      · rw [x2]; exact hj
      · rw [x3]; exact hj
      · omega
end Go.Proofs.YteghbblbkljdhaaDoor
