import Derived.Test.YtcogdhdigjhjnaaDoorBase
import Derived.Test.YtcogdhdigjhjnaaDoorA3
import Derived.Deep.Slices
import Derived.Deep.Fields
import Derived.ChangeSame
namespace Go.Proofs.YtcogdhdigjhjnaaDoor
open Go.RowKit Go.ChangeShapes Go.WideShapes Go.Deep
theorem weightsAll_mem {H : Type} {P : Program} {e : TypeId} {l : List (DataW H)} {d : DataW H} (hd : d ∈ l) {n : Nat} (hn : n ∈ d.weights P e) : n ∈ DataW.weightsAll P e l := by
  induction l with
  | nil => cases hd
  | cons x r ih =>
    rw [DataW.weightsAll, List.mem_append]
    rcases List.mem_cons.1 hd with rfl | h
    · exact .inl hn
    · exact .inr (ih h)
theorem cellsOf43 : Tryd.prog.cellsOf 43 = 3 := by kernel_rfl
theorem edit_arg {H : Type} {enc : TypeId × Value → H} {W : World} {fuel len cap : Nat} {a0 : Option Addr} {d : DataW H} {p : List MemPlace}
    (hf : DataW.trod enc Tryd.prog W 0 (fun _ => true) true fuel 35 [.slice a0 len cap] = some (d, p)) (hz : ∀ n ∈ d.weights Tryd.prog 35, n ≤ reachBytes) : EditArg W a0 len cap := by
  rcases open_slice Tryd.underlying35 hf with ⟨hcs, _⟩ | ⟨a, len', cap', m, n, D, Pl, hcs, _, hl, _, hm, hx, hi⟩
  · simp at hcs
    exact .inl hcs.2.1
  · simp at hcs
    obtain ⟨rfl, rfl, rfl⟩ := hcs
    rcases Nat.eq_zero_or_pos len with h0 | h0
    · exact .inl h0
    simp only [if_true] at hm
    subst hm
    simp only [Prod.mk.injEq] at hx
    have key : ∀ i, i < len → ∃ x : EditD, W.cell? (a.add (i * 3)) = some (.int .i64 x.From) ∧ W.cell? (a.add (i * 3 + 1)) = some (.int .i64 x.To) ∧ W.cell? (a.add (i * 3 + 2)) = some (.string x.Text) ∧ x.Text.size ≤ 1000000000000000 := by
      intro i hlt
      obtain ⟨cs', hc, ht⟩ := hi i (by omega)
      rw [cellsOf43] at hc
      obtain ⟨_, hcl, hat⟩ := World.cells?_some hc
      match cs', hcl with
      | [c0, c1, c2], _ =>
        obtain ⟨ys, n', _, hy, _, hyl, hg⟩ := DataW.trod_struct Tryd.underlying43 ht
        have k3 : Tryd.prog.cellsOf 3 = 1 := by kernel_rfl
        have k9 : Tryd.prog.cellsOf 9 = 1 := by kernel_rfl
        match ys, hyl with
        | [y0, y1, y2], _ =>
          have g0 : DataW.trod enc Tryd.prog W 0 (fun _ => true) true n' 3 (([c0, c1, c2].drop 0).take (Tryd.prog.cellsOf 3)) = some y0 := hg 0 _ rfl
          have g1 : DataW.trod enc Tryd.prog W 0 (fun _ => true) true n' 3 (([c0, c1, c2].drop 1).take (Tryd.prog.cellsOf 3)) = some y1 := hg 1 _ rfl
          have g2 : DataW.trod enc Tryd.prog W 0 (fun _ => true) true n' 9 (([c0, c1, c2].drop 2).take (Tryd.prog.cellsOf 9)) = some y2 := hg 2 _ rfl
          rw [k3] at g0 g1
          rw [k9] at g2
          obtain ⟨f, e0, q0, _⟩ := DataW.trod_int Tryd.underlying3 g0
          obtain ⟨t, e1, q1, _⟩ := DataW.trod_int Tryd.underlying3 g1
          obtain ⟨s, e2, q2, _⟩ := DataW.trod_string Tryd.underlying9 g2
          obtain rfl : c0 = .int .i64 f := by have h : [c0] = [.int .i64 f] := e0; simpa using h
          obtain rfl : c1 = .int .i64 t := by have h : [c1] = [.int .i64 t] := e1; simpa using h
          obtain rfl : c2 = .string s := by have h : [c2] = [.string s] := e2; simpa using h
          subst q0 q1 q2
          have a0 := hat 0 (by decide)
          have a1 := hat 1 (by decide)
          have a2 := hat 2 (by decide)
          rw [add_add] at a0 a1 a2
          refine ⟨⟨f, t, s⟩, a0, a1, a2, size_of (hz _ ?_)⟩
          simp only [Prod.mk.injEq] at hy
          rw [hx.1]
          simp only [DataW.weights, Tryd.underlying35]
          refine List.mem_cons_of_mem _ (List.mem_append_left _ (weightsAll_mem (d := D i) (List.mem_map.2 ⟨i, List.mem_range.2 hlt, rfl⟩) ?_))
          rw [hy.1]
          simp [DataW.weights, DataW.weightsEach, Tryd.underlying43]
    obtain ⟨g, hg⟩ : ∃ g : Nat → EditD, ∀ i, i < len → W.cell? (a.add (i * 3)) = some (.int .i64 (g i).From) ∧ W.cell? (a.add (i * 3 + 1)) = some (.int .i64 (g i).To) ∧ W.cell? (a.add (i * 3 + 2)) = some (.string (g i).Text) ∧ (g i).Text.size ≤ 1000000000000000 := by
      classical
      exact ⟨fun i => if h : i < len then (key i h).choose else ⟨0, 0, ⟨#[]⟩⟩, fun i h => by dsimp only; rw [dif_pos h]; exact (key i h).choose_spec⟩
    obtain ⟨b, off, spot⟩ := a
    have hc0 := (hg 0 h0).1
    have hspot : spot = none := by simpa [Addr.add] using World.cell?_spot hc0
    subst hspot
    have hadd : ∀ k, (⟨b, off, none⟩ : Addr).add k = ⟨b, off + k, none⟩ := fun k => by unfold Addr.add; split <;> simp_all
    refine .inr ⟨b, off, (List.range len).map g, rfl, by simp, hl, ?_, ?_, ?_⟩
    · have := World.block_lt_of_cell? _ _ hc0
      rw [hadd] at this
      exact this
    · intro i hi
      have hi' : i < len := by simpa using hi
      obtain ⟨x1, x2, x3, _⟩ := hg i hi'
      rw [hadd] at x1 x2 x3
      simp only [List.getElem_map, List.getElem_range]
      exact ⟨x1, x2, x3⟩
    · intro x hx
      obtain ⟨i, hi, rfl⟩ := List.mem_map.1 hx
      exact (hg i (List.mem_range.1 hi)).2.2.2
end Go.Proofs.YtcogdhdigjhjnaaDoor
