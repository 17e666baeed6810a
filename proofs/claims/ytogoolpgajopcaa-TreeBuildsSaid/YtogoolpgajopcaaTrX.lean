import Derived.Test.YtogoolpgajopcaaTrL
import Derived.Test.YtogoolpgajopcaaTrV
namespace Go.Proofs.Ytogoolpgajopcaa
open Go.RowKit
/-- A node, with the place and the room of its parts. -/
structure Nd where
  k : Int
  t : ByteArray
  n : Int
  m : Int
  a : Int
  P : Fo
  A : Option Addr
  c : Nat
def Nd.cs (x : Nd) : List Value := cells6 x.k x.t x.n x.m x.a x.P.len x.A x.c
def Nd.ok (x : Nd) (W : World) (B : Nat) : Prop := x.P.len ≤ x.c ∧ x.c ≤ 1000000000000000 ∧ x.t.size ≤ 1000000000000000 ∧ Holds W B x.P x.A 0
def foL : List Nd → Fo
  | [] => .nil
  | x :: l => .cons x.k x.t x.n x.m x.a x.P (foL l)
def flatL : List Nd → List Value
  | [] => []
  | x :: l => x.cs ++ flatL l
theorem add_zero' (g s : Nat) : (⟨g, 0, none⟩ : Addr).add s = ⟨g, s, none⟩ := by unfold Addr.add; by_cases h : s = 0 <;> simp [h]
theorem row_holds {W : World} {B g : Nat} (hg : g < B) : ∀ (L : List Nd) (i : Nat), (∀ j u, (flatL L)[j]? = some u → W.cell? ⟨g, i * 6 + j, none⟩ = some u) → (∀ x ∈ L, x.ok W B) → Holds W B (foL L) (some ⟨g, 0, none⟩) i := by
  intro L
  induction L with
  | nil => intro i _ _; trivial
  | cons x l ih =>
    intro i hc hok
    obtain ⟨h1, h2, h3, h4⟩ := hok x (List.mem_cons_self ..)
    refine ⟨⟨_, x.A, x.c, rfl, hg, fun j u hu => ?_, h1, h2, h3, h4⟩, ih (i + 1) (fun j u hu => ?_) fun y hy => hok y (List.mem_cons_of_mem _ hy)⟩
    · have hj : j < x.cs.length := by
        rcases Nat.lt_or_ge j x.cs.length with h | h
        · exact h
        · rw [List.getElem?_eq_none (by exact h)] at hu; cases hu
      have := hc j u (by rw [flatL, List.getElem?_append_left hj]; exact hu)
      rw [add_add, add_zero']
      exact this
    · have := hc (6 + j) u (by rw [flatL, List.getElem?_append_right (by simp [Nd.cs, cells6])]; simpa [Nd.cs, cells6] using hu)
      rw [show (i + 1) * 6 + j = i * 6 + (6 + j) by omega]
      exact this
theorem Nd.ok.below {x : Nd} {W W' : World} {B : Nat} (h : x.ok W B) (hb : Below B W W') : x.ok W' B := ⟨h.1, h.2.1, h.2.2.1, h.2.2.2.below hb⟩
theorem Nd.ok.more {x : Nd} {W : World} {B B' : Nat} (h : x.ok W B) (hb : B ≤ B') : x.ok W B' := ⟨h.1, h.2.1, h.2.2.1, h.2.2.2.more hb⟩
/-- A row of nodes that is made anew, in each later world. -/
theorem row_new {W : World} {L : List Nd} {cs : Array Value} (e : cs.toList = flatL L) (hok : ∀ x ∈ L, x.ok W W.heap.size) {W' : World} (h : Below (W.alloc (.cells cs 24)).heap.size (W.alloc (.cells cs 24)) W') : Holds W' W'.heap.size (foL L) (some ⟨W.heap.size, 0, none⟩) 0 := by
  have hs := h.size
  rw [alloc_size] at hs
  have hb : Below W.heap.size W W' := below_box h
  refine row_holds (by omega) L 0 (fun j u hu => ?_) fun x hx => ((hok x hx).below hb).more hb.size
  rw [show 0 * 6 + j = j by omega, box_cells h j, ← Array.getElem?_toList, e]
  exact hu
/-- Type tells y of this node, in each later world. -/
structure GoodT (W : World) (v : Value) (y : Bool) : Prop where
  prog : ∀ W', Below W.heap.size W W' → Calls Try.prog 11 #[v] W' fun e w'' => e = .returned (.bool y) ∧ Below W'.heap.size W' w''
theorem GoodT.mk' {W : World} {k : Int} {t : ByteArray} {n m a : Int} {F : Fo} {A : Option Addr} {c l : Nat} {y : Bool} (H : ∀ W', Below W.heap.size W W' → Holds W' W'.heap.size F A 0) (hl : F.len = l) (hlc : l ≤ c) (hcc : c ≤ 1000000000000000) (ht : t.size ≤ 1000000000000000) (hy : typeB k t n m F.inf = y) : GoodT W (.agg #[.int .i64 k, .string t, .int .i64 n, .int .i64 m, .int .i64 a, .slice A l c]) y := by
  subst hl hy
  exact ⟨fun W' h => (type_prog F).1 k t n m a A c W' (H W' h) hlc hcc ht⟩
def Nd.inf (x : Nd) : Inf := Go.Proofs.Ytogoolpgajopcaa.mk x.k x.t x.n x.m x.P.inf
theorem build_yes (x y : Nd) (hx : x.inf.ty = true) (hy : y.inf.ty = true) : ∀ k, k = 12 ∨ k = 9 ∨ k = 10 → typeB k ⟨#[]⟩ 0 0 (foL [x, y]).inf = true := by
  intro k hk
  unfold Nd.inf at hx hy
  rcases hk with rfl | rfl | rfl <;> simp [typeB_12, typeB_9, typeB_10, foL, Fo.inf, bareB, plainB, emptyB, typesB, lenB, hx, hy]
theorem build_one (x : Nd) : ∀ k, k = 12 ∨ k = 9 ∨ k = 10 → typeB k ⟨#[]⟩ 0 0 (foL [x]).inf = false := by
  intro k hk
  rcases hk with rfl | rfl | rfl <;> simp [typeB_12, typeB_9, typeB_10, foL, Fo.inf, typesB, lenB]
theorem build_three (x y : Nd) (hx : x.inf.ty = true) (hy : y.inf.ty = true) : typeB 12 ⟨#[]⟩ 0 0 (foL [x, y, x]).inf = false ∧ typeB 9 ⟨#[]⟩ 0 0 (foL [x, y, x]).inf = true ∧ typeB 10 ⟨#[]⟩ 0 0 (foL [x, y, x]).inf = true ∧ typeB 14 ⟨#[]⟩ 0 0 (foL [x, y, x]).inf = false := by
  unfold Nd.inf at hx hy
  simp [typeB_12, typeB_9, typeB_10, typeB_14, foL, Fo.inf, bareB, plainB, emptyB, typesB, lenB, hx, hy]
theorem build_cond (x y : Nd) (hx : x.inf.ty = true) (hy : y.inf.ty = true) : typeB 14 ⟨#[]⟩ 0 0 (foL [x, y, x, y]).inf = true ∧ typeB 4 ⟨#[]⟩ 0 0 (foL [x, y]).inf = false := by
  unfold Nd.inf at hx hy
  simp [typeB_14, typeB_4, foL, Fo.inf, bareB, plainB, emptyB, typesB, lenB, hx, hy]
theorem id_K : idB ⟨#[75]⟩ = true := by decide +kernel
theorem id_p : idB ⟨#[112]⟩ = true := by decide +kernel
theorem build_map (x y : Nd) (hx : x.inf.ty = true) (hy : y.inf.ty = true) : typeB 13 ⟨#[75]⟩ 0 0 (foL [x, y]).inf = true := by
  unfold Nd.inf at hx hy
  simp [typeB_13, foL, Fo.inf, typesB, lenB, flagsB, hx, hy, id_K]
theorem build_fun (x y z : Nd) (hx : x.inf.ty = true) (hy : y.inf.ty = true) (hz : z.k = 16 ∧ z.t = ⟨#[112]⟩ ∧ z.n = 0 ∧ z.m = 0 ∧ z.P = foL [x]) : typeB 6 ⟨#[]⟩ 0 0 (foL [z, y]).inf = true := by
  obtain ⟨h1, h2, h3, h4, h5⟩ := hz
  unfold Nd.inf at hx hy
  simp [typeB_6, foL, Fo.inf, bareB, plainB, emptyB, lastTy, h1, h2, h3, h4, h5, hy]
  simp [mk, parB, plainB, typesB, lenB, id_p]
  exact hx
end Go.Proofs.Ytogoolpgajopcaa
