import Derived.Test.YteghbblbkljdhaaDoorSp2
import Derived.Test.YteghbblbkljdhaaDoorSoY
namespace Go.Proofs.YteghbblbkljdhaaDoor
open Go.RowKit Go.Deep
open Go.ChangeShapes Go.WideShapes
set_option maxRecDepth 100000 in
/-- A slice of Files that came in, of a bulk. -/
theorem file_argB {H : Type} {enc : TypeId × Value → H} {W : World} {fuel len cap : Nat} {a0 : Option Addr} {d : DataW H} {p : List MemPlace}
    (hf : DataW.trod enc Tryd.prog W 0 (fun _ => true) true fuel 59 [.slice a0 len cap] = some (d, p)) (hB : Rows.uptoBulk d ≤ 1048576) : ∃ f, NilOk a0 len cap ∧ FSrc W a0 len f ∧ ∀ k, k < len → (f k).n.size ≤ 1048576 ∧ (f k).t.size ≤ 1048576 := by
  rcases open_slice Tryd.underlying59 hf with ⟨hcs, _⟩ | ⟨a, len', cap', m, n, D, Pl, hcs, _, hl, _, hm, hx, hi⟩
  · simp at hcs
    obtain ⟨-, rfl, rfl⟩ := hcs
    exact ⟨fun _ => zeroF, fun _ => ⟨rfl, rfl⟩, .inl rfl, fun k hk => by omega⟩
  · simp at hcs
    obtain ⟨rfl, rfl, rfl⟩ := hcs
    rcases Nat.eq_zero_or_pos len with h0 | h0
    · exact ⟨fun _ => zeroF, (fun h => by cases h), .inl h0, fun k hk => by omega⟩
    simp only [if_true] at hm
    subst hm
    have key : ∀ i, i < len → ∃ x : Fi, W.cell? (a.add (i * 3)) = some (.string x.n) ∧ W.cell? (a.add (i * 3 + 1)) = some (.string x.t) ∧ W.cell? (a.add (i * 3 + 2)) = some (.int .i64 x.v) ∧ x.n.size ≤ 1048576 ∧ x.t.size ≤ 1048576 := by
      intro i hlt
      obtain ⟨cs', hc, ht⟩ := hi i (by omega)
      have cellsF : Tryd.prog.cellsOf 62 = 3 := by kernel_rfl
      rw [cellsF] at hc
      obtain ⟨_, hcl, hat⟩ := World.cells?_some hc
      match cs', hcl with
      | [c0, c1, c2], _ =>
        obtain ⟨ys, n', _, hy, _, hyl, hg⟩ := DataW.trod_struct Tryd.underlying62 ht
        have k3 : Tryd.prog.cellsOf 3 = 1 := by kernel_rfl
        have k9 : Tryd.prog.cellsOf 9 = 1 := by kernel_rfl
        match ys, hyl with
        | [y0, y1, y2], _ =>
          have g0 : DataW.trod enc Tryd.prog W 0 (fun _ => true) true n' 9 (([c0, c1, c2].drop 0).take (Tryd.prog.cellsOf 9)) = some y0 := hg 0 _ rfl
          have g1 : DataW.trod enc Tryd.prog W 0 (fun _ => true) true n' 9 (([c0, c1, c2].drop 1).take (Tryd.prog.cellsOf 9)) = some y1 := hg 1 _ rfl
          have g2 : DataW.trod enc Tryd.prog W 0 (fun _ => true) true n' 3 (([c0, c1, c2].drop 2).take (Tryd.prog.cellsOf 3)) = some y2 := hg 2 _ rfl
          rw [k9] at g0 g1
          rw [k3] at g2
          obtain ⟨s, e0, q0, _⟩ := DataW.trod_string Tryd.underlying9 g0
          obtain ⟨t, e1, q1, _⟩ := DataW.trod_string Tryd.underlying9 g1
          obtain ⟨y, e2, q2, _⟩ := DataW.trod_int Tryd.underlying3 g2
          obtain rfl : c0 = .string s := by have h : [c0] = [.string s] := e0; simpa using h
          obtain rfl : c1 = .string t := by have h : [c1] = [.string t] := e1; simpa using h
          obtain rfl : c2 = .int .i64 y := by have h : [c2] = [.int .i64 y] := e2; simpa using h
          have a0 := hat 0 (by decide)
          have a1 := hat 1 (by decide)
          have a2 := hat 2 (by decide)
          rw [add_add] at a0 a1 a2
          have hsz : s.size ≤ 1048576 ∧ t.size ≤ 1048576 := by
            have h5 := bulk_mem hlt D
            have h6 : Rows.uptoBulkAll ((List.range len).map D) ≤ 1048576 := by
              have h7 : d = _ := (Prod.mk.inj hx).1
              rw [h7] at hB
              simp only [Rows.uptoBulk] at hB
              omega
            have h8 : D i = _ := (Prod.mk.inj hy).1
            rw [h8, q0, q1, q2] at h5
            simp only [List.map_cons, List.map_nil, Rows.uptoBulk, Rows.uptoBulkAll, Array.length_toList] at h5
            have e1 : s.data.size = s.size := rfl
            have e2 : t.data.size = t.size := rfl
            omega
          exact ⟨⟨s, t, y⟩, a0, a1, a2, hsz⟩
    obtain ⟨g, hg⟩ : ∃ g : Nat → Fi, ∀ i, i < len → W.cell? (a.add (i * 3)) = some (.string (g i).n) ∧ W.cell? (a.add (i * 3 + 1)) = some (.string (g i).t) ∧ W.cell? (a.add (i * 3 + 2)) = some (.int .i64 (g i).v) ∧ (g i).n.size ≤ 1048576 ∧ (g i).t.size ≤ 1048576 := by
      classical
      exact ⟨fun i => if h : i < len then (key i h).choose else zeroF, fun i h => by dsimp only; rw [dif_pos h]; exact (key i h).choose_spec⟩
    obtain ⟨b, off, spot⟩ := a
    have hc0 := (hg 0 h0).1
    have hspot : spot = none := by simpa [Addr.add] using World.cell?_spot hc0
    subst hspot
    have hadd : ∀ k, (⟨b, off, none⟩ : Addr).add k = ⟨b, off + k, none⟩ := fun k => by unfold Addr.add; split <;> simp_all
    refine ⟨g, (fun h => by cases h), .inr ⟨b, off, rfl, ?_, fun k hk => ?_⟩, fun k hk => (hg k hk).2.2.2⟩
    · have := World.block_lt_of_cell? _ _ hc0
      rw [hadd] at this
      exact this
    · obtain ⟨x0, x1, x2, _⟩ := hg k hk
      rw [hadd] at x0 x1 x2
      exact ⟨x0, x1, x2⟩
end Go.Proofs.YteghbblbkljdhaaDoor
