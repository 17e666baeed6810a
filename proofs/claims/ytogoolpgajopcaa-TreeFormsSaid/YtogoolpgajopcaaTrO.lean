import Derived.Test.YtogoolpgajopcaaTrA
import Derived.Deep.Slices
import Derived.ProofKit
import Derived.OpenShut
import Derived.SizedLaws
namespace Go.Proofs.Ytogoolpgajopcaa
open Go.RowKit Go.ChangeShapes Go.WideShapes Go.Deep
theorem weights_all {H : Type} {P : Program} {e : TypeId} {x : Nat} : ∀ {l : List (DataW H)} {d : DataW H}, d ∈ l → x ∈ d.weights P e → x ∈ DataW.weightsAll P e l := by
  intro l
  induction l with
  | nil => intro d h; cases h
  | cons a l ih =>
    intro d h hx
    unfold DataW.weightsAll
    rcases List.mem_cons.1 h with rfl | h
    · exact List.mem_append_left _ hx
    · exact List.mem_append_right _ (ih h hx)
/-- A node, cell by cell. -/
def NodeIs (W : World) (cs : List Value) : Prop := ∃ (k : Int) (t : ByteArray) (n m a : Int) (P : Fo) (A : Option Addr) (c : Nat), cs = cells6 k t n m a P.len A c ∧ t.size ≤ 1000000000000000 ∧ P.len ≤ c ∧ c ≤ 1000000000000000 ∧ Holds W W.heap.size P A 0
/-- A list of nodes out of its places. -/
theorem build_fo {W : World} {ad : Addr} {len : Nat} (h : ∀ j, j < len → ad.block < W.heap.size ∧ ∃ cs, NodeIs W cs ∧ ∀ i, i < 6 → W.cell? ((ad.add (j * 6)).add i) = cs[i]?) : ∀ r i, i + r = len → ∃ R : Fo, R.len = r ∧ Holds W W.heap.size R (some ad) i := by
  intro r
  induction r with
  | zero => intro i _; exact ⟨.nil, rfl, trivial⟩
  | succ r ih =>
    intro i hi
    obtain ⟨R, hR, hH⟩ := ih (i + 1) (by omega)
    obtain ⟨hb, cs, ⟨k, t, n, m, a, P, A, c, rfl, h1, h2, h3, h4⟩, hc⟩ := h i (by omega)
    refine ⟨.cons k t n m a P R, by simp [Fo.len, hR], ⟨ad, A, c, rfl, hb, fun j u hu => ?_, h2, h3, h1, h4⟩, hH⟩
    have hj : j < 6 := by
      rcases Nat.lt_or_ge j 6 with h | h
      · exact h
      · rw [List.getElem?_eq_none (by simpa [cells6] using h)] at hu; cases hu
    rw [hc j hj, hu]
theorem cellsN : Try.prog.cellsOf 24 = 6 := by kernel_rfl
theorem bytesN : Try.prog.bytesOf 24 = 72 := by kernel_rfl
theorem c1int : Try.prog.cellsOf 3 = 1 := by kernel_rfl
theorem c1int64 : Try.prog.cellsOf 2 = 1 := by kernel_rfl
theorem c1str : Try.prog.cellsOf 9 = 1 := by kernel_rfl
theorem c1sl : Try.prog.cellsOf 22 = 1 := by kernel_rfl
theorem reach_le : reachBytes ≤ 1000000000000000 := by decide
theorem open_node {H : Type} {enc : TypeId × Value → H} {W : World} {base : Nat} {held : Bool} : ∀ (s fuel : Nat) (cs : List Value) (d : DataW H) (p : List MemPlace), SizeOf.sizeOf d = s →
    DataW.trod enc Try.prog W base (fun _ => true) held fuel 24 cs = some (d, p) → (∀ x ∈ d.weights Try.prog 24, x ≤ reachBytes) → NodeIs W cs := by
  intro s
  induction s using Nat.strongRecOn with
  | _ s ih =>
    intro fuel cs d p hs h hz
    obtain ⟨xs, n, rfl, hx, hlen, hxl, hf⟩ := DataW.trod_struct Try.underlying24 h
    simp only [Prod.mk.injEq] at hx
    obtain ⟨rfl, rfl⟩ := hx
    rw [cellsN] at hlen
    match cs, hlen with
    | [v0, v1, v2, v3, v4, v5], _ =>
      match xs, hxl with
      | [y0, y1, y2, y3, y4, y5], _ =>
        have h0 := hf 0 _ rfl
        have h1 := hf 1 _ rfl
        have h2 := hf 2 _ rfl
        have h3 := hf 3 _ rfl
        have h4 := hf 4 _ rfl
        have h5 := hf 5 _ rfl
        obtain ⟨k, e0, q0, _⟩ := DataW.trod_int Try.underlying3 h0
        obtain ⟨t, e1, q1, _⟩ := DataW.trod_string Try.underlying9 h1
        obtain ⟨nn, e2, q2, _⟩ := DataW.trod_int Try.underlying2 h2
        obtain ⟨mm, e3, q3, _⟩ := DataW.trod_int Try.underlying2 h3
        obtain ⟨aa, e4, q4, _⟩ := DataW.trod_int Try.underlying3 h4
        obtain rfl : v0 = .int .i64 k := by simpa [c1int] using e0
        obtain rfl : v1 = .string t := by simpa [c1str] using e1
        obtain rfl : v2 = .int .i64 nn := by simpa [c1int64] using e2
        obtain rfl : v3 = .int .i64 mm := by simpa [c1int64] using e3
        obtain rfl : v4 = .int .i64 aa := by simpa [c1int] using e4
        subst q0 q1 q2 q3 q4
        have ht : t.size ≤ 1000000000000000 := by
          have := hz t.data.toList.length (by simp [DataW.weights, DataW.weightsEach, Try.underlying24])
          have h2 : t.size = t.data.toList.length := by simp
          have := reach_le
          omega
        have hz5 : ∀ x ∈ y5.1.weights Try.prog 22, x ≤ reachBytes := fun x hx => hz x (by simp [DataW.weights, DataW.weightsEach, Try.underlying24]; exact .inr hx)
        rcases open_slice Try.underlying22 h5 with ⟨e5, q5⟩ | ⟨ad, len, cap, m, nf, D, Pl, e5, hb, hl, hm, hmm, q5, hi⟩
        · obtain rfl : v5 = .slice none 0 0 := by simpa [c1sl] using e5
          exact ⟨k, t, nn, mm, aa, .nil, none, 0, rfl, ht, Nat.le_refl _, by omega, trivial⟩
        · obtain rfl : v5 = .slice (some ad) len cap := by simpa [c1sl] using e5
          have hmc : m = cap := by rw [hmm]; simp
          subst hmc
          rw [q5] at hz5
          have hcap : m * 72 ≤ reachBytes := by
            have := hz5 ((len + (m - len)) * 72) (by simp [DataW.weights, Try.underlying22, bytesN])
            rwa [show len + (m - len) = m by omega] at this
          have hcap2 : m ≤ 1000000000000000 := by have := reach_le; omega
          have hmem : ∀ j, j < len → D j ∈ (List.range len).map D := fun j hj => List.mem_map.2 ⟨j, List.mem_range.2 hj, rfl⟩
          have hel : ∀ j, j < len → ad.block < W.heap.size ∧ ∃ cs, NodeIs W cs ∧ ∀ i, i < 6 → W.cell? ((ad.add (j * 6)).add i) = cs[i]? := fun j hj => by
            obtain ⟨cs', hcs, htr⟩ := hi j (by omega)
            rw [cellsN] at hcs
            obtain ⟨_, hlen', hat⟩ := World.cells?_some hcs
            have hN : NodeIs W cs' := ih (SizeOf.sizeOf (D j)) (by
              rw [← hs]
              have h1 := List.sizeOf_lt_of_mem (hmem j hj)
              rw [q5]
              simp
              omega) nf cs' (D j) (Pl j) rfl htr (fun x hx => hz5 x (by
              simp only [DataW.weights, Try.underlying22]
              exact List.mem_cons_of_mem _ (List.mem_append_left _ (weights_all (List.mem_map.2 ⟨j, List.mem_range.2 hj, rfl⟩) hx))))
            refine ⟨?_, cs', hN, hat⟩
            obtain ⟨k', t', n', m', a', P', A', c', rfl, _⟩ := hN
            have hc0 := hat 0 (by omega)
            have := World.block_lt_of_cell? _ _ (hc0.trans rfl)
            rwa [block_add, block_add] at this
          obtain ⟨R, hR, hH⟩ := build_fo hel len 0 (by omega)
          subst hR
          exact ⟨k, t, nn, mm, aa, R, some ad, m, rfl, ht, hl, hcap2, hH⟩
theorem open_nodeV {H : Type} {enc : TypeId × Value → H} {W : World} {base b0 : Nat} {held : Bool} {r : Reach} {v : Value} {d : DataW H} {p : List MemPlace} (hv : Value.okWide Try.prog W r b0 24 v) (h : DataW.Trod enc Try.prog W base (fun _ => true) held 24 v d p) (hz : ∀ x ∈ d.weights Try.prog 24, x ≤ reachBytes) :
    ∃ (k : Int) (t : ByteArray) (n m a : Int) (P : Fo) (A : Option Addr) (c : Nat), v = val6 k t n m a P.len A c ∧ t.size ≤ 1000000000000000 ∧ P.len ≤ c ∧ c ≤ 1000000000000000 ∧ Holds W W.heap.size P A 0 := by
  obtain ⟨cs, rfl, hsz⟩ := okWide_struct Try.underlying24 hv
  obtain ⟨l⟩ := cs
  obtain ⟨fuel, hf⟩ := h
  obtain ⟨k, t, n, m, a, P, A, c, e, h1, h2, h3, h4⟩ := open_node _ fuel _ d p rfl hf hz
  refine ⟨k, t, n, m, a, P, A, c, ?_, h1, h2, h3, h4⟩
  have : l = cells6 k t n m a P.len A c := by simpa [Value.cells] using e
  rw [this]; rfl
end Go.Proofs.Ytogoolpgajopcaa
