import Derived.Test.YtlgklkokadbpeaaDoorStB
import Derived.Test.YtlgklkokadbpeaaDoorStEd
import Derived.Deep.Slices
import Derived.Deep.Fields
import Derived.ChangeSame
namespace Go.Proofs.YtlgklkokadbpeaaDoor
open Go.RowKit Go.ChangeShapes Go.WideShapes Go.Deep
theorem add_add (a : Addr) (x y : Nat) : (a.add x).add y = a.add (x + y) := by
  unfold Addr.add
  by_cases hx : x = 0 <;> by_cases hy : y = 0 <;> simp [hx, hy, Nat.add_assoc] <;> omega
theorem weightsAll_mem {H : Type} {P : Program} {e : TypeId} {l : List (DataW H)} {d : DataW H} (hd : d ∈ l) {n : Nat} (hn : n ∈ d.weights P e) : n ∈ DataW.weightsAll P e l := by
  induction l with
  | nil => cases hd
  | cons x r ih =>
    rw [DataW.weightsAll, List.mem_append]
    rcases List.mem_cons.1 hd with rfl | h
    · exact .inl hn
    · exact .inr (ih h)
theorem cellsOfE : Tryd.prog.cellsOf 55 = 3 := by kernel_rfl
theorem edit_arg {H : Type} {enc : TypeId × Value → H} {W : World} {fuel len cap : Nat} {a0 : Option Addr} {d : DataW H} {p : List MemPlace}
    (hf : DataW.trod enc Tryd.prog W 0 (fun _ => true) true fuel 32 [.slice a0 len cap] = some (d, p)) (hz : ∀ n ∈ d.weights Tryd.prog 32, n ≤ reachBytes) : ∃ xs, EA W a0 len cap xs := by
  rcases open_slice Tryd.underlying32 hf with ⟨hcs, _⟩ | ⟨a, len', cap', m, n, D, Pl, hcs, _, hl, _, hm, hx, hi⟩
  · simp at hcs
    obtain ⟨-, rfl, -⟩ := hcs
    exact ⟨[], rfl, by simp, .inl rfl⟩
  · simp at hcs
    obtain ⟨rfl, rfl, rfl⟩ := hcs
    rcases Nat.eq_zero_or_pos len with h0 | h0
    · exact ⟨[], by simp [h0], by simp, .inl h0⟩
    simp only [if_true] at hm
    subst hm
    simp only [Prod.mk.injEq] at hx
    have key : ∀ i, i < len → ∃ x : EditD, W.cell? (a.add (i * 3)) = some (.int .i64 x.From) ∧ W.cell? (a.add (i * 3 + 1)) = some (.int .i64 x.To) ∧ W.cell? (a.add (i * 3 + 2)) = some (.string x.Text) ∧ x.Text.size ≤ 1000000000000000 := by
      intro i hlt
      obtain ⟨cs', hc, ht⟩ := hi i (by omega)
      rw [cellsOfE] at hc
      obtain ⟨_, hcl, hat⟩ := World.cells?_some hc
      match cs', hcl with
      | [c0, c1, c2], _ =>
        obtain ⟨ys, n', _, hy, _, hyl, hg⟩ := DataW.trod_struct Tryd.underlying55 ht
        have k3 : Tryd.prog.cellsOf 3 = 1 := by kernel_rfl
        have k9 : Tryd.prog.cellsOf 9 = 1 := by kernel_rfl
        match ys, hyl with
        | [y0, y1, y2], _ =>
          have g0 : DataW.trod enc Tryd.prog W 0 (fun _ => true) true n' 3 (([c0, c1, c2].drop 0).take (Tryd.prog.cellsOf 3)) = some y0 := hg 0 _ rfl
          have g1 : DataW.trod enc Tryd.prog W 0 (fun _ => true) true n' 3 (([c0, c1, c2].drop 1).take (Tryd.prog.cellsOf 3)) = some y1 := hg 1 _ rfl
          have g2 : DataW.trod enc Tryd.prog W 0 (fun _ => true) true n' 9 (([c0, c1, c2].drop 2).take (Tryd.prog.cellsOf 9)) = some y2 := hg 2 _ rfl
          rw [k3] at g0 g1
          rw [k9] at g2
          obtain ⟨f, e0, q0, _⟩ := DataW.trod_int Tryd.underlying3 g0
          obtain ⟨t, e1, q1, _⟩ := DataW.trod_int Tryd.underlying3 g1
          obtain ⟨s, e2, q2, _⟩ := DataW.trod_string Tryd.underlying9 g2
          obtain rfl : c0 = .int .i64 f := by have h : [c0] = [.int .i64 f] := e0; simpa using h
          obtain rfl : c1 = .int .i64 t := by have h : [c1] = [.int .i64 t] := e1; simpa using h
          obtain rfl : c2 = .string s := by have h : [c2] = [.string s] := e2; simpa using h
          subst q0 q1 q2
          have a0 := hat 0 (by decide)
          have a1 := hat 1 (by decide)
          have a2 := hat 2 (by decide)
          rw [add_add] at a0 a1 a2
          refine ⟨⟨f, t, s⟩, a0, a1, a2, size_ofS (hz _ ?_)⟩
          simp only [Prod.mk.injEq] at hy
          rw [hx.1]
          simp only [DataW.weights, Tryd.underlying32]
          refine List.mem_cons_of_mem _ (List.mem_append_left _ (weightsAll_mem (d := D i) (List.mem_map.2 ⟨i, List.mem_range.2 hlt, rfl⟩) ?_))
          rw [hy.1]
          simp [DataW.weights, DataW.weightsEach, Tryd.underlying55]
    obtain ⟨g, hg⟩ : ∃ g : Nat → EditD, ∀ i, i < len → W.cell? (a.add (i * 3)) = some (.int .i64 (g i).From) ∧ W.cell? (a.add (i * 3 + 1)) = some (.int .i64 (g i).To) ∧ W.cell? (a.add (i * 3 + 2)) = some (.string (g i).Text) ∧ (g i).Text.size ≤ 1000000000000000 := by
      classical
      exact ⟨fun i => if h : i < len then (key i h).choose else ⟨0, 0, ⟨#[]⟩⟩, fun i h => by dsimp only; rw [dif_pos h]; exact (key i h).choose_spec⟩
    obtain ⟨b, off, spot⟩ := a
    have hc0 := (hg 0 h0).1
    have hspot : spot = none := by simpa [Addr.add] using World.cell?_spot hc0
    subst hspot
    have hadd : ∀ k, (⟨b, off, none⟩ : Addr).add k = ⟨b, off + k, none⟩ := fun k => by unfold Addr.add; split <;> simp_all
    refine ⟨(List.range len).map g, by simp, fun x hx => ?_, .inr ⟨b, off, rfl, hl, ?_, fun i hi => ?_⟩⟩
    · obtain ⟨i, hi, rfl⟩ := List.mem_map.1 hx
      exact (hg i (List.mem_range.1 hi)).2.2.2
    · have := World.block_lt_of_cell? _ _ hc0
      rw [hadd] at this
      exact this
    · have hi' : i < len := by simpa using hi
      obtain ⟨x1, x2, x3, _⟩ := hg i hi'
      rw [hadd] at x1 x2 x3
      simp only [List.getElem_map, List.getElem_range]
      exact ⟨x1, x2, x3⟩
/-- A call of a script: its kind, its name, its bytes, its edits. -/
structure OpD where
  k : Int
  n : ByteArray
  t : ByteArray
  A : Option Addr
  m : Nat
  d : Nat
  xs : List EditD
def OpsAt (w : World) (b off : Nat) (os : List OpD) : Prop :=
  ∀ i (h : i < os.length), w.cell? ⟨b, off + i * 4, none⟩ = some (.int .i64 os[i].k) ∧ w.cell? ⟨b, off + i * 4 + 1, none⟩ = some (.string os[i].n) ∧ w.cell? ⟨b, off + i * 4 + 2, none⟩ = some (.string os[i].t) ∧ w.cell? ⟨b, off + i * 4 + 3, none⟩ = some (.slice os[i].A os[i].m os[i].d)
def OpOk (w : World) (o : OpD) : Prop := o.n.size ≤ 1000000000000000 ∧ o.t.size ≤ 1000000000000000 ∧ EA w o.A o.m o.d o.xs
/-- A script that came in. -/
def OA (w : World) (A : Option Addr) (n d : Nat) (os : List OpD) : Prop :=
  os.length = n ∧ (∀ o ∈ os, OpOk w o) ∧ (n = 0 ∨ ∃ b off, A = some ⟨b, off, none⟩ ∧ n ≤ d ∧ b < w.heap.size ∧ OpsAt w b off os)
theorem cellsOfO : Tryd.prog.cellsOf 34 = 4 := by kernel_rfl
theorem op_arg {H : Type} {enc : TypeId × Value → H} {W : World} {fuel len cap : Nat} {a0 : Option Addr} {d : DataW H} {p : List MemPlace}
    (hf : DataW.trod enc Tryd.prog W 0 (fun _ => true) true fuel 22 [.slice a0 len cap] = some (d, p)) (hz : ∀ n ∈ d.weights Tryd.prog 22, n ≤ reachBytes) : ∃ os, OA W a0 len cap os := by
  rcases open_slice Tryd.underlying22 hf with ⟨hcs, _⟩ | ⟨a, len', cap', m, n, D, Pl, hcs, _, hl, _, hm, hx, hi⟩
  · simp at hcs
    obtain ⟨-, rfl, -⟩ := hcs
    exact ⟨[], rfl, by simp, .inl rfl⟩
  · simp at hcs
    obtain ⟨rfl, rfl, rfl⟩ := hcs
    rcases Nat.eq_zero_or_pos len with h0 | h0
    · exact ⟨[], by simp [h0], by simp, .inl h0⟩
    simp only [if_true] at hm
    subst hm
    simp only [Prod.mk.injEq] at hx
    have key : ∀ i, i < len → ∃ x : OpD, W.cell? (a.add (i * 4)) = some (.int .i64 x.k) ∧ W.cell? (a.add (i * 4 + 1)) = some (.string x.n) ∧ W.cell? (a.add (i * 4 + 2)) = some (.string x.t) ∧ W.cell? (a.add (i * 4 + 3)) = some (.slice x.A x.m x.d) ∧ OpOk W x := by
      intro i hlt
      obtain ⟨cs', hc, ht⟩ := hi i (by omega)
      rw [cellsOfO] at hc
      obtain ⟨_, hcl, hat⟩ := World.cells?_some hc
      match cs', hcl with
      | [c0, c1, c2, c3], _ =>
        obtain ⟨ys, n', _, hy, _, hyl, hg⟩ := DataW.trod_struct Tryd.underlying34 ht
        have k3 : Tryd.prog.cellsOf 3 = 1 := by kernel_rfl
        have k9 : Tryd.prog.cellsOf 9 = 1 := by kernel_rfl
        have ke : Tryd.prog.cellsOf 32 = 1 := by kernel_rfl
        match ys, hyl with
        | [y0, y1, y2, y3], _ =>
          have g0 : DataW.trod enc Tryd.prog W 0 (fun _ => true) true n' 3 (([c0, c1, c2, c3].drop 0).take (Tryd.prog.cellsOf 3)) = some y0 := hg 0 _ rfl
          have g1 : DataW.trod enc Tryd.prog W 0 (fun _ => true) true n' 9 (([c0, c1, c2, c3].drop 1).take (Tryd.prog.cellsOf 9)) = some y1 := hg 1 _ rfl
          have g2 : DataW.trod enc Tryd.prog W 0 (fun _ => true) true n' 9 (([c0, c1, c2, c3].drop 2).take (Tryd.prog.cellsOf 9)) = some y2 := hg 2 _ rfl
          have g3 : DataW.trod enc Tryd.prog W 0 (fun _ => true) true n' 32 (([c0, c1, c2, c3].drop 3).take (Tryd.prog.cellsOf 32)) = some y3 := hg 3 _ rfl
          rw [k3] at g0
          rw [k9] at g1 g2
          rw [ke] at g3
          have g3' : DataW.trod enc Tryd.prog W 0 (fun _ => true) true n' 32 [c3] = some y3 := g3
          obtain ⟨f, e0, q0, _⟩ := DataW.trod_int Tryd.underlying3 g0
          obtain ⟨s, e1, q1, _⟩ := DataW.trod_string Tryd.underlying9 g1
          obtain ⟨t, e2, q2, _⟩ := DataW.trod_string Tryd.underlying9 g2
          obtain ⟨A', m', d', e3⟩ : ∃ A' m' d', c3 = .slice A' m' d' := by
            rcases open_slice Tryd.underlying32 g3' with ⟨hcs, _⟩ | ⟨a, len', cap', m, n, D, Pl, hcs, _⟩
            · exact ⟨none, 0, 0, by simpa using hcs⟩
            · exact ⟨some a, len', cap', by simpa using hcs⟩
          obtain rfl : c0 = .int .i64 f := by have h : [c0] = [.int .i64 f] := e0; simpa using h
          obtain rfl : c1 = .string s := by have h : [c1] = [.string s] := e1; simpa using h
          obtain rfl : c2 = .string t := by have h : [c2] = [.string t] := e2; simpa using h
          subst e3
          subst q0 q1 q2
          have a0 := hat 0 (by decide)
          have a1 := hat 1 (by decide)
          have a2 := hat 2 (by decide)
          have a3 := hat 3 (by decide)
          rw [add_add] at a0 a1 a2 a3
          have hw : ∀ n ∈ (D i).weights Tryd.prog 34, n ≤ reachBytes := fun n hn => hz n (by
            rw [hx.1]
            simp only [DataW.weights, Tryd.underlying22]
            exact List.mem_cons_of_mem _ (List.mem_append_left _ (weightsAll_mem (d := D i) (List.mem_map.2 ⟨i, List.mem_range.2 hlt, rfl⟩) hn)))
          simp only [Prod.mk.injEq] at hy
          obtain ⟨d3, p3⟩ := y3
          obtain ⟨xs, hxs⟩ := edit_arg g3' (fun n hn => hw n (by rw [hy.1]; simp only [DataW.weights, Tryd.underlying34]; simp [DataW.weightsEach, hn]))
          refine ⟨⟨f, s, t, A', m', d', xs⟩, a0, a1, a2, a3, size_ofS (hw _ ?_), size_ofS (hw _ ?_), hxs⟩
          · rw [hy.1]; simp [DataW.weights, DataW.weightsEach, Tryd.underlying34]
          · rw [hy.1]; simp [DataW.weights, DataW.weightsEach, Tryd.underlying34]
    obtain ⟨g, hg⟩ : ∃ g : Nat → OpD, ∀ i, i < len → W.cell? (a.add (i * 4)) = some (.int .i64 (g i).k) ∧ W.cell? (a.add (i * 4 + 1)) = some (.string (g i).n) ∧ W.cell? (a.add (i * 4 + 2)) = some (.string (g i).t) ∧ W.cell? (a.add (i * 4 + 3)) = some (.slice (g i).A (g i).m (g i).d) ∧ OpOk W (g i) := by
      classical
      exact ⟨fun i => if h : i < len then (key i h).choose else ⟨0, ⟨#[]⟩, ⟨#[]⟩, none, 0, 0, []⟩, fun i h => by dsimp only; rw [dif_pos h]; exact (key i h).choose_spec⟩
    obtain ⟨b, off, spot⟩ := a
    have hc0 := (hg 0 h0).1
    have hspot : spot = none := by simpa [Addr.add] using World.cell?_spot hc0
    subst hspot
    have hadd : ∀ k, (⟨b, off, none⟩ : Addr).add k = ⟨b, off + k, none⟩ := fun k => by unfold Addr.add; split <;> simp_all
    refine ⟨(List.range len).map g, by simp, fun x hx => ?_, .inr ⟨b, off, rfl, hl, ?_, fun i hi => ?_⟩⟩
    · obtain ⟨i, hi, rfl⟩ := List.mem_map.1 hx
      exact (hg i (List.mem_range.1 hi)).2.2.2.2
    · have := World.block_lt_of_cell? _ _ hc0
      rw [hadd] at this
      exact this
    · have hi' : i < len := by simpa using hi
      obtain ⟨x1, x2, x3, x4, _⟩ := hg i hi'
      rw [hadd] at x1 x2 x3 x4
      simp only [List.getElem_map, List.getElem_range]
      exact ⟨x1, x2, x3, x4⟩
end Go.Proofs.YtlgklkokadbpeaaDoor
