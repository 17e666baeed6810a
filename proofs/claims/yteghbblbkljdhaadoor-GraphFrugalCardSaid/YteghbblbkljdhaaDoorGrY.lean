import Derived.Test.YteghbblbkljdhaaDoorGrX
import Derived.Deep.Slices
import Derived.Deep.Fields
import Derived.ChangeSame
import Derived.ProofKit
import Derived.OpenShut
import Derived.SizedLaws
namespace Go.Proofs.YteghbblbkljdhaaDoor
open Go.RowKit Go.ChangeShapes Go.WideShapes Go.Deep
theorem size_ofG {s : ByteArray} (h : s.data.toList.length ≤ reachBytes) : s.size ≤ 1000000000000000 := by
  have h2 : s.size = s.data.toList.length := by simp
  have h3 : reachBytes ≤ 1000000000000000 := by decide
  omega
theorem add_addG (a : Addr) (x y : Nat) : (a.add x).add y = a.add (x + y) := by
  unfold Addr.add
  by_cases hx : x = 0 <;> by_cases hy : y = 0 <;> simp [hx, hy, Nat.add_assoc] <;> omega
theorem weightsAllG {H : Type} {P : Program} {e : TypeId} {l : List (DataW H)} {d : DataW H} (hd : d ∈ l) {n : Nat} (hn : n ∈ d.weights P e) : n ∈ DataW.weightsAll P e l := by
  induction l with
  | nil => cases hd
  | cons x r ih =>
    rw [DataW.weightsAll, List.mem_append]
    rcases List.mem_cons.1 hd with rfl | h
    · exact .inl hn
    · exact .inr (ih h)
theorem haddG {b off : Nat} (k : Nat) : (⟨b, off, none⟩ : Addr).add k = ⟨b, off + k, none⟩ := by unfold Addr.add; split <;> simp_all
theorem cells9 : Tryd.prog.cellsOf 9 = 1 := by kernel_rfl
theorem cells3 : Tryd.prog.cellsOf 3 = 1 := by kernel_rfl
theorem cells35 : Tryd.prog.cellsOf 35 = 1 := by kernel_rfl
theorem cells38 : Tryd.prog.cellsOf 38 = 4 := by kernel_rfl
theorem cells31 : Tryd.prog.cellsOf 31 = 3 := by kernel_rfl
/-- A row of strings that came in. -/
theorem refs_arg {H : Type} {enc : TypeId × Value → H} {W : World} {fuel len cap : Nat} {a0 : Option Addr} {d : DataW H} {p : List MemPlace}
    (hf : DataW.trod enc Tryd.prog W 0 (fun _ => true) true fuel 35 [.slice a0 len cap] = some (d, p)) (hz : ∀ n ∈ d.weights Tryd.prog 35, n ≤ reachBytes) : ∃ l : List ByteArray, l.length = len ∧ refsAt W l a0 ∧ ∀ a ∈ l, a.size ≤ 1000000000000000 := by
  rcases open_slice Tryd.underlying35 hf with ⟨hcs, _⟩ | ⟨a, len', cap', m, n, D, Pl, hcs, _, hl, _, hm, hx, hi⟩
  · simp at hcs
    obtain ⟨-, rfl, -⟩ := hcs
    exact ⟨[], rfl, ⟨fun _ => rfl, fun h => absurd rfl h⟩, by simp⟩
  · simp at hcs
    obtain ⟨rfl, rfl, rfl⟩ := hcs
    simp only [if_true] at hm
    subst hm
    simp only [Prod.mk.injEq] at hx
    have key : ∀ i, i < len → ∃ x : ByteArray, W.cell? (a.add i) = some (.string x) ∧ x.size ≤ 1000000000000000 := by
      intro i hlt
      obtain ⟨cs', hc, ht⟩ := hi i (by omega)
      rw [cells9] at hc
      obtain ⟨_, hcl, hat⟩ := World.cells?_some hc
      match cs', hcl with
      | [c0], _ =>
        obtain ⟨s, e0, q0, _⟩ := DataW.trod_string Tryd.underlying9 ht
        obtain rfl : c0 = .string s := by simpa using e0
        have a0 := hat 0 (by decide)
        rw [add_addG] at a0
        refine ⟨s, by simpa using a0, size_ofG (hz _ ?_)⟩
        rw [hx.1]
        simp only [DataW.weights, Tryd.underlying35]
        refine List.mem_cons_of_mem _ (List.mem_append_left _ (weightsAllG (d := D i) (List.mem_map.2 ⟨i, List.mem_range.2 hlt, rfl⟩) ?_))
        rw [(Prod.mk.inj q0).1]
        simp [DataW.weights]
    obtain ⟨g, hg⟩ : ∃ g : Nat → ByteArray, ∀ i, i < len → W.cell? (a.add i) = some (.string (g i)) ∧ (g i).size ≤ 1000000000000000 := by
      classical
      exact ⟨fun i => if h : i < len then (key i h).choose else ⟨#[]⟩, fun i h => by dsimp only; rw [dif_pos h]; exact (key i h).choose_spec⟩
    refine ⟨(List.range len).map g, by simp, ⟨fun h => (by cases h), fun hne => ?_⟩, fun x hx => ?_⟩
    · have h0 : 0 < len := by
        rcases Nat.eq_zero_or_pos len with h0 | h0
        · subst h0; simp at hne
        · exact h0
      obtain ⟨b, off, spot⟩ := a
      have hc0 := (hg 0 h0).1
      have hspot : spot = none := by simpa [Addr.add] using World.cell?_spot hc0
      subst hspot
      refine ⟨b, off, rfl, fun j x hj => ?_⟩
      have hjl : j < len := by have := (List.getElem?_eq_some_iff.1 hj).1; simpa using this
      have hxj : g j = x := by simpa [List.getElem?_map, List.getElem?_range hjl] using hj
      have := (hg j hjl).1
      rw [haddG] at this
      rw [this, hxj]
    · obtain ⟨i, hi, rfl⟩ := List.mem_map.1 hx
      exact (hg i (List.mem_range.1 hi)).2
def RuleS (r : Rule) : Prop := r.text.size ≤ 1000000000000000 ∧ r.name.size ≤ 1000000000000000 ∧ ∀ a ∈ r.refs, a.size ≤ 1000000000000000
/-- Rules that came in. -/
def RA (W : World) (a0 : Option Addr) (n : Nat) (l : List Rule) : Prop := l.length = n ∧ (∀ r ∈ l, RuleS r) ∧ ∃ b o A c, (l ≠ [] → a0 = some ⟨b, o, none⟩) ∧ RulesAt W b o l A c
theorem rule_arg {H : Type} {enc : TypeId × Value → H} {W : World} {fuel len cap : Nat} {a0 : Option Addr} {d : DataW H} {p : List MemPlace}
    (hf : DataW.trod enc Tryd.prog W 0 (fun _ => true) true fuel 22 [.slice a0 len cap] = some (d, p)) (hz : ∀ n ∈ d.weights Tryd.prog 22, n ≤ reachBytes) : ∃ l, RA W a0 len l := by
  rcases open_slice Tryd.underlying22 hf with ⟨hcs, _⟩ | ⟨a, len', cap', m, n, D, Pl, hcs, _, hl, _, hm, hx, hi⟩
  · simp at hcs
    obtain ⟨-, rfl, -⟩ := hcs
    exact ⟨[], rfl, by simp, 0, 0, fun _ => none, fun _ => 0, fun h => absurd rfl h, fun i r hr => by simp at hr⟩
  · simp at hcs
    obtain ⟨rfl, rfl, rfl⟩ := hcs
    rcases Nat.eq_zero_or_pos len with h0 | h0
    · exact ⟨[], by simp [h0], by simp, 0, 0, fun _ => none, fun _ => 0, fun h => absurd rfl h, fun i r hr => by simp at hr⟩
    simp only [if_true] at hm
    subst hm
    simp only [Prod.mk.injEq] at hx
    have key : ∀ i, i < len → ∃ x : Rule × Option Addr × Nat, W.cell? (a.add (i * 4)) = some (.string x.1.name) ∧ W.cell? (a.add (i * 4 + 1)) = some (.int .i64 x.1.kind) ∧ W.cell? (a.add (i * 4 + 2)) = some (.slice x.2.1 x.1.refs.length x.2.2) ∧ W.cell? (a.add (i * 4 + 3)) = some (.string x.1.text) ∧ refsAt W x.1.refs x.2.1 ∧ RuleS x.1 := by
      intro i hlt
      obtain ⟨cs', hc, ht⟩ := hi i (by omega)
      rw [cells38] at hc
      obtain ⟨_, hcl, hat⟩ := World.cells?_some hc
      match cs', hcl with
      | [c0, c1, c2, c3], _ =>
        obtain ⟨ys, n', _, hy, _, hyl, hg⟩ := DataW.trod_struct Tryd.underlying38 ht
        match ys, hyl with
        | [y0, y1, y2, y3], _ =>
          have g0 : DataW.trod enc Tryd.prog W 0 (fun _ => true) true n' 9 (([c0, c1, c2, c3].drop 0).take (Tryd.prog.cellsOf 9)) = some y0 := hg 0 _ rfl
          have g1 : DataW.trod enc Tryd.prog W 0 (fun _ => true) true n' 3 (([c0, c1, c2, c3].drop 1).take (Tryd.prog.cellsOf 3)) = some y1 := hg 1 _ rfl
          have g2 : DataW.trod enc Tryd.prog W 0 (fun _ => true) true n' 35 (([c0, c1, c2, c3].drop 2).take (Tryd.prog.cellsOf 35)) = some y2 := hg 2 _ rfl
          have g3 : DataW.trod enc Tryd.prog W 0 (fun _ => true) true n' 9 (([c0, c1, c2, c3].drop 3).take (Tryd.prog.cellsOf 9)) = some y3 := hg 3 _ rfl
          rw [cells9] at g0 g3
          rw [cells3] at g1
          rw [cells35] at g2
          have g2' : DataW.trod enc Tryd.prog W 0 (fun _ => true) true n' 35 [c2] = some y2 := g2
          obtain ⟨s, e0, q0, _⟩ := DataW.trod_string Tryd.underlying9 g0
          obtain ⟨f, e1, q1, _⟩ := DataW.trod_int Tryd.underlying3 g1
          obtain ⟨t, e3, q3, _⟩ := DataW.trod_string Tryd.underlying9 g3
          obtain ⟨A', m', d', e2⟩ : ∃ A' m' d', c2 = .slice A' m' d' := by
            rcases open_slice Tryd.underlying35 g2' with ⟨hcs, _⟩ | ⟨a, len', cap', m, n, D, Pl, hcs, _⟩
            · exact ⟨none, 0, 0, by simpa using hcs⟩
            · exact ⟨some a, len', cap', by simpa using hcs⟩
          obtain rfl : c0 = .string s := by have h : [c0] = [.string s] := e0; simpa using h
          obtain rfl : c1 = .int .i64 f := by have h : [c1] = [.int .i64 f] := e1; simpa using h
          obtain rfl : c3 = .string t := by have h : [c3] = [.string t] := e3; simpa using h
          subst e2
          subst q0 q1 q3
          have a0 := hat 0 (by decide)
          have a1 := hat 1 (by decide)
          have a2 := hat 2 (by decide)
          have a3 := hat 3 (by decide)
          rw [add_addG] at a0 a1 a2 a3
          have hw : ∀ n ∈ (D i).weights Tryd.prog 38, n ≤ reachBytes := fun n hn => hz n (by
            rw [hx.1]
            simp only [DataW.weights, Tryd.underlying22]
            exact List.mem_cons_of_mem _ (List.mem_append_left _ (weightsAllG (d := D i) (List.mem_map.2 ⟨i, List.mem_range.2 hlt, rfl⟩) hn)))
          simp only [Prod.mk.injEq] at hy
          obtain ⟨d2, p2⟩ := y2
          obtain ⟨xs, hxl, hxs, hxz⟩ := refs_arg g2' (fun n hn => hw n (by rw [hy.1]; simp only [DataW.weights, Tryd.underlying38]; simp [DataW.weightsEach, hn]))
          subst hxl
          refine ⟨⟨⟨s, f, xs, t⟩, A', d'⟩, a0, a1, a2, a3, hxs, size_ofG (hw _ ?_), size_ofG (hw _ ?_), hxz⟩
          · rw [hy.1]; simp [DataW.weights, DataW.weightsEach, Tryd.underlying38]
          · rw [hy.1]; simp [DataW.weights, DataW.weightsEach, Tryd.underlying38]
    obtain ⟨g, hg⟩ : ∃ g : Nat → Rule × Option Addr × Nat, ∀ i, i < len → W.cell? (a.add (i * 4)) = some (.string (g i).1.name) ∧ W.cell? (a.add (i * 4 + 1)) = some (.int .i64 (g i).1.kind) ∧ W.cell? (a.add (i * 4 + 2)) = some (.slice (g i).2.1 (g i).1.refs.length (g i).2.2) ∧ W.cell? (a.add (i * 4 + 3)) = some (.string (g i).1.text) ∧ refsAt W (g i).1.refs (g i).2.1 ∧ RuleS (g i).1 := by
      classical
      exact ⟨fun i => if h : i < len then (key i h).choose else ⟨⟨⟨#[]⟩, 0, [], ⟨#[]⟩⟩, none, 0⟩, fun i h => by dsimp only; rw [dif_pos h]; exact (key i h).choose_spec⟩
    obtain ⟨b, off, spot⟩ := a
    have hc0 := (hg 0 h0).1
    have hspot : spot = none := by simpa [Addr.add] using World.cell?_spot hc0
    subst hspot
    refine ⟨(List.range len).map fun i => (g i).1, by simp, fun x hx => ?_, b, off, fun i => (g i).2.1, fun i => (g i).2.2, fun _ => rfl, fun i r hr => ?_⟩
    · obtain ⟨i, hi, rfl⟩ := List.mem_map.1 hx
      exact (hg i (List.mem_range.1 hi)).2.2.2.2.2
    · have hi' : i < len := by have := (List.getElem?_eq_some_iff.1 hr).1; simpa using this
      have hri : (g i).1 = r := by simpa [List.getElem?_map, List.getElem?_range hi'] using hr
      obtain ⟨x1, x2, x3, x4, x5, _⟩ := hg i hi'
      rw [haddG] at x1 x2 x3 x4
      rw [← hri]
      exact ⟨x1, x2, x3, x4, x5⟩
structure OpD where
  k : Int
  n : ByteArray
  t : ByteArray
def OpsAt (w : World) (b off : Nat) (os : List OpD) : Prop :=
  ∀ i x, os[i]? = some x → w.cell? ⟨b, off + i * 3, none⟩ = some (.int .i64 x.k) ∧ w.cell? ⟨b, off + i * 3 + 1, none⟩ = some (.string x.n) ∧ w.cell? ⟨b, off + i * 3 + 2, none⟩ = some (.string x.t)
def OA (w : World) (a0 : Option Addr) (n : Nat) (os : List OpD) : Prop := os.length = n ∧ (∀ x ∈ os, x.n.size ≤ 1000000000000000 ∧ x.t.size ≤ 1000000000000000) ∧ ∃ b o, (os ≠ [] → a0 = some ⟨b, o, none⟩) ∧ OpsAt w b o os
theorem op_arg {H : Type} {enc : TypeId × Value → H} {W : World} {fuel len cap : Nat} {a0 : Option Addr} {d : DataW H} {p : List MemPlace}
    (hf : DataW.trod enc Tryd.prog W 0 (fun _ => true) true fuel 23 [.slice a0 len cap] = some (d, p)) (hz : ∀ n ∈ d.weights Tryd.prog 23, n ≤ reachBytes) : ∃ os, OA W a0 len os := by
  rcases open_slice Tryd.underlying23 hf with ⟨hcs, _⟩ | ⟨a, len', cap', m, n, D, Pl, hcs, _, hl, _, hm, hx, hi⟩
  · simp at hcs
    obtain ⟨-, rfl, -⟩ := hcs
    exact ⟨[], rfl, by simp, 0, 0, fun h => absurd rfl h, fun i r hr => by simp at hr⟩
  · simp at hcs
    obtain ⟨rfl, rfl, rfl⟩ := hcs
    rcases Nat.eq_zero_or_pos len with h0 | h0
    · exact ⟨[], by simp [h0], by simp, 0, 0, fun h => absurd rfl h, fun i r hr => by simp at hr⟩
    simp only [if_true] at hm
    subst hm
    simp only [Prod.mk.injEq] at hx
    have key : ∀ i, i < len → ∃ x : OpD, W.cell? (a.add (i * 3)) = some (.int .i64 x.k) ∧ W.cell? (a.add (i * 3 + 1)) = some (.string x.n) ∧ W.cell? (a.add (i * 3 + 2)) = some (.string x.t) ∧ x.n.size ≤ 1000000000000000 ∧ x.t.size ≤ 1000000000000000 := by
      intro i hlt
      obtain ⟨cs', hc, ht⟩ := hi i (by omega)
      rw [cells31] at hc
      obtain ⟨_, hcl, hat⟩ := World.cells?_some hc
      match cs', hcl with
      | [c0, c1, c2], _ =>
        obtain ⟨ys, n', _, hy, _, hyl, hg⟩ := DataW.trod_struct Tryd.underlying31 ht
        match ys, hyl with
        | [y0, y1, y2], _ =>
          have g0 : DataW.trod enc Tryd.prog W 0 (fun _ => true) true n' 3 (([c0, c1, c2].drop 0).take (Tryd.prog.cellsOf 3)) = some y0 := hg 0 _ rfl
          have g1 : DataW.trod enc Tryd.prog W 0 (fun _ => true) true n' 9 (([c0, c1, c2].drop 1).take (Tryd.prog.cellsOf 9)) = some y1 := hg 1 _ rfl
          have g2 : DataW.trod enc Tryd.prog W 0 (fun _ => true) true n' 9 (([c0, c1, c2].drop 2).take (Tryd.prog.cellsOf 9)) = some y2 := hg 2 _ rfl
          rw [cells9] at g1 g2
          rw [cells3] at g0
          obtain ⟨f, e0, q0, _⟩ := DataW.trod_int Tryd.underlying3 g0
          obtain ⟨s, e1, q1, _⟩ := DataW.trod_string Tryd.underlying9 g1
          obtain ⟨t, e2, q2, _⟩ := DataW.trod_string Tryd.underlying9 g2
          obtain rfl : c0 = .int .i64 f := by have h : [c0] = [.int .i64 f] := e0; simpa using h
          obtain rfl : c1 = .string s := by have h : [c1] = [.string s] := e1; simpa using h
          obtain rfl : c2 = .string t := by have h : [c2] = [.string t] := e2; simpa using h
          subst q0 q1 q2
          have a0 := hat 0 (by decide)
          have a1 := hat 1 (by decide)
          have a2 := hat 2 (by decide)
          rw [add_addG] at a0 a1 a2
          have hw : ∀ n ∈ (D i).weights Tryd.prog 31, n ≤ reachBytes := fun n hn => hz n (by
            rw [hx.1]
            simp only [DataW.weights, Tryd.underlying23]
            exact List.mem_cons_of_mem _ (List.mem_append_left _ (weightsAllG (d := D i) (List.mem_map.2 ⟨i, List.mem_range.2 hlt, rfl⟩) hn)))
          simp only [Prod.mk.injEq] at hy
          refine ⟨⟨f, s, t⟩, a0, a1, a2, size_ofG (hw _ ?_), size_ofG (hw _ ?_)⟩
          · rw [hy.1]; simp [DataW.weights, DataW.weightsEach, Tryd.underlying31]
          · rw [hy.1]; simp [DataW.weights, DataW.weightsEach, Tryd.underlying31]
    obtain ⟨g, hg⟩ : ∃ g : Nat → OpD, ∀ i, i < len → W.cell? (a.add (i * 3)) = some (.int .i64 (g i).k) ∧ W.cell? (a.add (i * 3 + 1)) = some (.string (g i).n) ∧ W.cell? (a.add (i * 3 + 2)) = some (.string (g i).t) ∧ (g i).n.size ≤ 1000000000000000 ∧ (g i).t.size ≤ 1000000000000000 := by
      classical
      exact ⟨fun i => if h : i < len then (key i h).choose else ⟨0, ⟨#[]⟩, ⟨#[]⟩⟩, fun i h => by dsimp only; rw [dif_pos h]; exact (key i h).choose_spec⟩
    obtain ⟨b, off, spot⟩ := a
    have hc0 := (hg 0 h0).1
    have hspot : spot = none := by simpa [Addr.add] using World.cell?_spot hc0
    subst hspot
    refine ⟨(List.range len).map g, by simp, fun x hx => ?_, b, off, fun _ => rfl, fun i r hr => ?_⟩
    · obtain ⟨i, hi, rfl⟩ := List.mem_map.1 hx
      exact (hg i (List.mem_range.1 hi)).2.2.2
    · have hi' : i < len := by have := (List.getElem?_eq_some_iff.1 hr).1; simpa using this
      have hri : g i = r := by simpa [List.getElem?_map, List.getElem?_range hi'] using hr
      obtain ⟨x1, x2, x3, _⟩ := hg i hi'
      rw [haddG] at x1 x2 x3
      rw [← hri]
      exact ⟨x1, x2, x3⟩
theorem RA.later {W W' : World} {a0 : Option Addr} {n : Nat} {l : List Rule} (h : RA W a0 n l) (hb : Below W.heap.size W W') : RA W' a0 n l := by
  obtain ⟨h1, h2, b, o, A, c, h3, h4⟩ := h
  exact ⟨h1, h2, b, o, A, c, h3, h4.later hb⟩
theorem OA.later {W W' : World} {a0 : Option Addr} {n : Nat} {l : List OpD} (h : OA W a0 n l) (hb : Below W.heap.size W W') : OA W' a0 n l := by
  obtain ⟨h1, h2, b, o, h3, h4⟩ := h
  exact ⟨h1, h2, b, o, h3, fun i x hx => ⟨cell_keepG hb (h4 i x hx).1, cell_keepG hb (h4 i x hx).2.1, cell_keepG hb (h4 i x hx).2.2⟩⟩
end Go.Proofs.YteghbblbkljdhaaDoor
