import Derived.Test.YtgjblmlibhppiaaGreatDoorMz0
import Derived.Deep.Slices
import Derived.ProofKit
import Derived.OpenShut
import Derived.SizedLaws
namespace Go.Proofs.YtgjblmlibhppiaaGreatDoor
open Go.RowKit
open Go.ChangeShapes Go.WideShapes Go.Deep
set_option maxRecDepth 100000
theorem c41 : Tryz.prog.cellsOf 41 = 5 := by kernel_rfl
theorem b41 : Tryz.prog.bytesOf 41 = 80 := by kernel_rfl
theorem bstr : Tryz.prog.bytesOf 9 = 16 := by kernel_rfl
theorem c1st : Tryz.prog.cellsOf 38 = 1 := by kernel_rfl
theorem c1vl : Tryz.prog.cellsOf 39 = 1 := by kernel_rfl
def OpenV {H : Type} (enc : TypeId × Value → H) (W : World) (base : Nat) (held : Bool) (d : DataW H) : Prop := ∀ (fuel : Nat) (cs : List Value) (p : List MemPlace),
 DataW.trod enc Tryz.prog W base (fun _ => true) held fuel 41 cs = some (d, p) → (∀ x ∈ d.weights Tryz.prog 41, x ≤ reachBytes) → ∃ v, RepV W v cs
theorem open_names {H : Type} {enc : TypeId × Value → H} {W : World} {base : Nat} {held : Bool} {fuel : Nat} {v : Value} {d : DataW H} {p : List MemPlace}
  (h : DataW.trod enc Tryz.prog W base (fun _ => true) held fuel 38 [v] = some (d, p)) (hz : ∀ x ∈ d.weights Tryz.prog 38, x ≤ reachBytes) :
  ∃ (l : List ByteArray) (A : Option Addr) (c : Nat), v = .slice A l.length c ∧ ListN2 W l A := by
 rcases open_slice Tryz.underlying38 h with ⟨e5, q5⟩ | ⟨ad, len, cap, m, nf, D, Pl, e5, hb, hl, hm, hmm, q5, hi⟩
 ·obtain rfl : v = .slice none 0 0 := by simpa using e5
  exact ⟨[], none, 0, rfl, by simp, 0, 0, fun h => absurd h (by simp), fun i h => absurd h (by simp)⟩
 ·obtain rfl : v = .slice (some ad) len cap := by simpa using e5
  have hmc : m = cap := by rw [hmm]; simp
  subst hmc
  obtain ⟨rfl, -⟩ : d = _ ∧ p = _ := by simpa only [Prod.mk.injEq] using q5
  have hcap : m * 16 ≤ reachBytes := by
   have := hz ((len + (m - len)) * 16) (by simp [DataW.weights, Tryz.underlying38, bstr])
   rwa [show len + (m - len) = m by omega] at this
  have hcap2 : m ≤ 1000000000000000 := by have := reach_leT; omega
  have hel : ∀ j, j < len → ∃ s : ByteArray, W.cell? (ad.add j) = some (.string s) := fun j hj => by
   obtain ⟨cs', hcs, htr⟩ := hi j (by omega)
   rw [c1str] at hcs
   obtain ⟨_, hlen', hat⟩ := World.cells?_some hcs
   match cs', hlen' with
   | [v0], _ =>
    obtain ⟨s, e0, q0, _⟩ := DataW.trod_string Tryz.underlying9 htr
    obtain rfl : v0 = .string s := by have h : [v0] = [.string s] := e0; simpa using h
    have a0 := hat 0 (by decide)
    rw [add_addT, Nat.mul_one, Nat.add_zero] at a0
    exact ⟨s, a0⟩
  obtain ⟨b, o, hrow, had⟩ := row_of (W := W) (ad := ad) (n0 := 0) hl hcap2 (fun h0 => by
   obtain ⟨s, hs⟩ := hel 0 h0
   exact ⟨by rw [hs]; rfl, rfl⟩)
  obtain ⟨l, hll, hlp⟩ := build_list hel
  subst hll
  refine ⟨l, some ad, m, rfl, hrow.big, b, o, fun h0 => by rw [had h0], fun i hi2 => ?_⟩
  have ha := had (by omega)
  subst ha
  have h1 := hlp i hi2
  rw [add_none] at h1
  exact h1
theorem open_vals {H : Type} {enc : TypeId × Value → H} {W : World} {base : Nat} {held : Bool} {fuel : Nat} {v : Value} {d : DataW H} {p : List MemPlace}
  (h : DataW.trod enc Tryz.prog W base (fun _ => true) held fuel 39 [v] = some (d, p)) (hz : ∀ x ∈ d.weights Tryz.prog 39, x ≤ reachBytes) (ih : ∀ d', SizeOf.sizeOf d' < SizeOf.sizeOf d → OpenV enc W base held d') :
  ∃ (l : List Val) (A : Option Addr) (c : Nat), v = .slice A l.length c ∧ ListW2 W l A := by
 rcases open_slice Tryz.underlying39 h with ⟨e5, q5⟩ | ⟨ad, len, cap, m, nf, D, Pl, e5, hb, hl, hm, hmm, q5, hi⟩
 ·obtain rfl : v = .slice none 0 0 := by simpa using e5
  exact ⟨[], none, 0, rfl, by simp, 0, 0, fun h => absurd h (by simp), fun i h => absurd h (by simp)⟩
 ·obtain rfl : v = .slice (some ad) len cap := by simpa using e5
  have hmc : m = cap := by rw [hmm]; simp
  subst hmc
  obtain ⟨rfl, -⟩ : d = _ ∧ p = _ := by simpa only [Prod.mk.injEq] using q5
  have hcap : m * 80 ≤ reachBytes := by
   have := hz ((len + (m - len)) * 80) (by simp [DataW.weights, Tryz.underlying39, b41])
   rwa [show len + (m - len) = m by omega] at this
  have hcap2 : m ≤ 1000000000000000 := by have := reach_leT; omega
  have hel : ∀ j, j < len → ∃ t, ∃ cs, RepV W t cs ∧ ∀ i, i < 5 → W.cell? ((ad.add (j * 5)).add i) = cs[i]? := fun j hj => by
   obtain ⟨cs', hcs, htr⟩ := hi j (by omega)
   rw [c41] at hcs
   obtain ⟨_, hlen', hat⟩ := World.cells?_some hcs
   have hmem : D j ∈ (List.range len).map D := List.mem_map.2 ⟨j, List.mem_range.2 hj, rfl⟩
   obtain ⟨t, ht⟩ := ih (D j) (by
    have h1 := List.sizeOf_lt_of_mem hmem
    simp
    omega) nf cs' (Pl j) htr (fun x hx => hz x (by
    simp only [DataW.weights, Tryz.underlying39]
    exact List.mem_cons_of_mem _ (List.mem_append_left _ (weights_all hmem hx))))
   exact ⟨t, cs', ht, hat⟩
  obtain ⟨b, o, hrow, had⟩ := row_of (W := W) (ad := ad) (n0 := 0) hl hcap2 (fun h0 => by
   obtain ⟨t, cs, hr, hat⟩ := hel 0 h0
   have h6 := hr.five
   have := hat 0 (by omega)
   rw [add_addT, Nat.zero_mul, List.getElem?_eq_getElem (by omega)] at this
   exact ⟨by rw [this]; rfl, rfl⟩)
  obtain ⟨l, hll, hlp⟩ := build_list (C := fun j t => ∃ cs, RepV W t cs ∧ ∀ i, i < 5 → W.cell? ((ad.add (j * 5)).add i) = cs[i]?) hel
  subst hll
  refine ⟨l, some ad, m, rfl, hrow.big, b, o, fun h0 => by rw [had h0], fun i hi2 => ?_⟩
  have ha := had (by omega)
  subst ha
  obtain ⟨cs, hr, hat⟩ := hlp i hi2
  refine ⟨cs, fun j u hj => ?_, hr⟩
  have hj6 := (List.getElem?_eq_some_iff.1 hj).1
  rw [hr.five] at hj6
  have := hat j hj6
  rw [add_addT, add_none, ← Nat.add_assoc] at this
  rw [this, hj]
theorem open_allV {H : Type} {enc : TypeId × Value → H} {W : World} {base : Nat} {held : Bool} : ∀ (s : Nat) (d : DataW H), SizeOf.sizeOf d = s → OpenV enc W base held d := by
 intro s
 induction s using Nat.strongRecOn with
 | _ s ih =>
  intro d hs fuel cs p h hz
  obtain ⟨xs, n, rfl, hx, hlen, hxl, hf⟩ := DataW.trod_struct Tryz.underlying41 h
  simp only [Prod.mk.injEq] at hx
  obtain ⟨rfl, rfl⟩ := hx
  rw [c41] at hlen
  match cs, hlen with
  | [v0, v1, v2, v3, v4], _ =>
   match xs, hxl with
   | [y0, y1, y2, y3, y4], _ =>
    have h0 : DataW.trod enc Tryz.prog W base (fun _ => true) held n 3 (([v0, v1, v2, v3, v4].drop 0).take (Tryz.prog.cellsOf 3)) = some y0 := hf 0 _ rfl
    have h1 : DataW.trod enc Tryz.prog W base (fun _ => true) held n 9 (([v0, v1, v2, v3, v4].drop 1).take (Tryz.prog.cellsOf 9)) = some y1 := hf 1 _ rfl
    have h2 : DataW.trod enc Tryz.prog W base (fun _ => true) held n 2 (([v0, v1, v2, v3, v4].drop 2).take (Tryz.prog.cellsOf 2)) = some y2 := hf 2 _ rfl
    have h3 : DataW.trod enc Tryz.prog W base (fun _ => true) held n 38 (([v0, v1, v2, v3, v4].drop 3).take (Tryz.prog.cellsOf 38)) = some y3 := hf 3 _ rfl
    have h4 : DataW.trod enc Tryz.prog W base (fun _ => true) held n 39 (([v0, v1, v2, v3, v4].drop 4).take (Tryz.prog.cellsOf 39)) = some y4 := hf 4 _ rfl
    rw [c1int] at h0
    rw [c1str] at h1
    rw [c1int64] at h2
    rw [c1st] at h3
    rw [c1vl] at h4
    obtain ⟨k, e0, q0, _⟩ := DataW.trod_int Tryz.underlying3 h0
    obtain ⟨t, e1, q1, _⟩ := DataW.trod_string Tryz.underlying9 h1
    obtain ⟨nn, e2, q2, _⟩ := DataW.trod_int Tryz.underlying2 h2
    obtain rfl : v0 = .int .i64 k := by have h : [v0] = [.int .i64 k] := e0; simpa using h
    obtain rfl : v1 = .string t := by have h : [v1] = [.string t] := e1; simpa using h
    obtain rfl : v2 = .int .i64 nn := by have h : [v2] = [.int .i64 nn] := e2; simpa using h
    subst q0 q1 q2
    obtain ⟨l3, A3, c3, rfl, hL3⟩ := open_names (show _ = some (y3.1, y3.2) from h3) (fun x hx => hz x (by simp [DataW.weights, DataW.weightsEach, Tryz.underlying41]; exact .inr (.inl hx)))
    obtain ⟨l4, A4, c4, rfl, hL4⟩ := open_vals (show _ = some (y4.1, y4.2) from h4) (fun x hx => hz x (by simp [DataW.weights, DataW.weightsEach, Tryz.underlying41]; exact .inr (.inr hx))) (fun d' hd' => ih (SizeOf.sizeOf d') (by rw [← hs]; simp; omega) d' rfl)
    exact ⟨.mk k t nn l3 l4, RepV.of hL3 hL4⟩
theorem open_valV {H : Type} {enc : TypeId × Value → H} {W : World} {base b0 : Nat} {held : Bool} {r : Reach} {v : Value} {d : DataW H} {p : List MemPlace} (hv : Value.okWide Tryz.prog W r b0 41 v) (h : DataW.Trod enc Tryz.prog W base (fun _ => true) held 41 v d p) (hz : ∀ x ∈ d.weights Tryz.prog 41, x ≤ reachBytes) :
  ∃ (t : Val) (x0 : Int) (x1 : ByteArray) (x2 : Int) (x3 : Option Addr) (x4 x5 : Nat) (x6 : Option Addr) (x7 x8 : Nat), v = .agg #[.int .i64 x0, .string x1, .int .i64 x2, .slice x3 x4 x5, .slice x6 x7 x8] ∧ RepV W t [.int .i64 x0, .string x1, .int .i64 x2, .slice x3 x4 x5, .slice x6 x7 x8] := by
 obtain ⟨cs, rfl, hsz⟩ := okWide_struct Tryz.underlying41 hv
 obtain ⟨l⟩ := cs
 obtain ⟨fuel, hf⟩ := h
 obtain ⟨t, ht⟩ := open_allV _ d rfl fuel _ p hf hz
 obtain ⟨k, s, n, ps, fs⟩ := t
 obtain ⟨A, c, A', c', e, _⟩ := ht.inv
 have e2 : l = [.int .i64 k, .string s, .int .i64 n, .slice A ps.length c, .slice A' fs.length c'] := by simpa [Value.cells] using e
 subst e2
 exact ⟨_, _, _, _, _, _, _, _, _, _, rfl, by simpa [Value.cells] using ht⟩
end Go.Proofs.YtgjblmlibhppiaaGreatDoor
