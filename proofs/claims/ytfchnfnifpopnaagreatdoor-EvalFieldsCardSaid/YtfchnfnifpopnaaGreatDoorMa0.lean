import Derived.Handy
import Derived.Lib.Hide
import Derived.LoopTactic
import Derived.OrdersHeld
import Derived.Outline
import Derived.OwnWalk
import Derived.Sort.Walk0
import Derived.Test.YtfchnfnifpopnaaGreatDoorProg
import Derived.WalkKit
import Derived.WalkLawsBesides
set_option maxRecDepth 100000
set_option maxHeartbeats 64000000
namespace Go.Proofs.YtfchnfnifpopnaaGreatDoor
open Go
def Plan (_ : List Nat) (G : Prop) : Prop := G
theorem Plan.start {G : Prop} (plan : List Nat) (h : Plan plan G) : G := h
theorem Plan.done {G : Prop} (h : G) : Plan [] G := h
theorem Plan.take {P : Program} {md : Region.Mode} {ops : Array Oper} {Q : Exit → Act → World → Prop} {S : World → Prop} {plan : List Nat} {i : Nat} {oi : Oper} {v : Value} {fuel : Nat} {listed : Array Bool} {a : Act} {w : World} (hi : ops[i]? = some oi)
    (hs : Region.noSelect ops = true) (hf : Region.free md ops listed i = true) (hr : (Region.ready md ops listed).contains i = true)
    (hQ : ∀ c a w, Q (.panic c) (a.put oi.dst v) w → Q (.panic c) a w) (hy : YieldsIf P ops S oi v a) (hS : S w)
    (h : Plan plan (wpAnyH P md ops Q S fuel (listed.setIfInBounds i true) (a.put oi.dst v) w)) : Plan (i :: plan) (wpAnyH P md ops Q S (fuel + 1) listed a w) :=
  wpAnyH_take hi hs hf hr hQ hy hS h
theorem so {x : Option Oper} {d o t p f g} (h : x = some { dst := d, op := o, type := t, pos := p, after := f, guard := g }) : x = some { dst := d, op := o, type := t, pos := p, after := f, guard := g } := h
theorem sd {x : Option Oper} (d) {o t p f g} (h : x = some { dst := d, op := o, type := t, pos := p, after := f, guard := g }) : x = some { dst := d, op := o, type := t, pos := p, after := f, guard := g } := h
theorem cz6 {W : World} {b : Nat} {T : TypeId} {x0 x1 x2 x3 x4 x5 : Value} (h : W.heap[b]? = some (.cells #[x0, x1, x2, x3, x4, x5] T (0, 0))) : W.cell? ⟨b, 0, none⟩ = some x0 ∧ W.cell? ⟨b, 1, none⟩ = some x1 ∧ W.cell? ⟨b, 2, none⟩ = some x2 ∧ W.cell? ⟨b, 3, none⟩ = some x3 ∧ W.cell? ⟨b, 4, none⟩ = some x4 ∧ W.cell? ⟨b, 5, none⟩ = some x5 := ⟨Lib.cell_of_heap h 0, Lib.cell_of_heap h 1, Lib.cell_of_heap h 2, Lib.cell_of_heap h 3, Lib.cell_of_heap h 4, Lib.cell_of_heap h 5⟩
theorem cz8 {W : World} {b : Nat} {T : TypeId} {x0 x1 x2 x3 x4 x5 x6 x7 : Value} (h : W.heap[b]? = some (.cells #[x0, x1, x2, x3, x4, x5, x6, x7] T (0, 0))) : W.cell? ⟨b, 0, none⟩ = some x0 ∧ W.cell? ⟨b, 1, none⟩ = some x1 ∧ W.cell? ⟨b, 2, none⟩ = some x2 ∧ W.cell? ⟨b, 3, none⟩ = some x3 ∧ W.cell? ⟨b, 4, none⟩ = some x4 ∧ W.cell? ⟨b, 5, none⟩ = some x5 ∧ W.cell? ⟨b, 6, none⟩ = some x6 ∧ W.cell? ⟨b, 7, none⟩ = some x7 := ⟨Lib.cell_of_heap h 0, Lib.cell_of_heap h 1, Lib.cell_of_heap h 2, Lib.cell_of_heap h 3, Lib.cell_of_heap h 4, Lib.cell_of_heap h 5, Lib.cell_of_heap h 6, Lib.cell_of_heap h 7⟩
theorem qz6 {W : World} {b : Nat} {T : TypeId} {x0 x1 x2 x3 x4 x5 : Value} (h : W.heap[b]? = some (.cells #[x0, x1, x2, x3, x4, x5] T (0, 0))) : W.cell? ⟨b, 0, none⟩ = some x0 ∧ W.cell? ⟨b, 1, none⟩ = some x1 ∧ W.cell? ⟨b, 2, none⟩ = some x2 ∧ W.cell? ⟨b, 3, none⟩ = some x3 ∧ W.cell? ⟨b, 4, none⟩ = some x4 ∧ W.cell? ⟨b, 5, none⟩ = some x5 ∧ W.frozen? ⟨b, 0, none⟩ = false ∧ W.frozen? ⟨b, 1, none⟩ = false ∧ W.frozen? ⟨b, 2, none⟩ = false ∧ W.frozen? ⟨b, 3, none⟩ = false ∧ W.frozen? ⟨b, 4, none⟩ = false ∧ W.frozen? ⟨b, 5, none⟩ = false := ⟨Lib.cell_of_heap h 0, Lib.cell_of_heap h 1, Lib.cell_of_heap h 2, Lib.cell_of_heap h 3, Lib.cell_of_heap h 4, Lib.cell_of_heap h 5, Lib.frozen_of_heap h 0, Lib.frozen_of_heap h 1, Lib.frozen_of_heap h 2, Lib.frozen_of_heap h 3, Lib.frozen_of_heap h 4, Lib.frozen_of_heap h 5⟩
theorem no4 {m n : Nat} (h : ¬ 0 < m) (h' : ¬ 0 < n) : decide ((0 : Int) < (m : Int)) = false ∧ decide (0 < m) = false ∧ decide ((0 : Int) < (n : Int)) = false ∧ decide (0 < n) = false :=
  ⟨decide_eq_false (by omega), decide_eq_false h, decide_eq_false (by omega), decide_eq_false h'⟩
inductive Ty where
 | mk (k : Int) (t : ByteArray) (n : Int) (ps : List Ty) (fs : List (ByteArray × Int × Ty)) (vs : List (ByteArray × List Ty))
def Ty.k : Ty → Int | .mk k _ _ _ _ _ => k
def Ty.t : Ty → ByteArray | .mk _ t _ _ _ _ => t
def Ty.n : Ty → Int | .mk _ _ n _ _ _ => n
def Ty.ps : Ty → List Ty | .mk _ _ _ ps _ _ => ps
def Ty.fs : Ty → List (ByteArray × Int × Ty) | .mk _ _ _ _ fs _ => fs
def Ty.vs : Ty → List (ByteArray × List Ty) | .mk _ _ _ _ _ vs => vs
theorem ty_lt_p {k t n ps fs vs} {p : Ty} (h : p ∈ ps) : SizeOf.sizeOf p < SizeOf.sizeOf (Ty.mk k t n ps fs vs) := by
 have := List.sizeOf_lt_of_mem h
 simp
 omega
theorem ty_lt_f {k t n ps fs vs} {f : ByteArray × Int × Ty} (h : f ∈ fs) : SizeOf.sizeOf f.2.2 < SizeOf.sizeOf (Ty.mk k t n ps fs vs) := by
 have := List.sizeOf_lt_of_mem h
 obtain ⟨a, b, c⟩ := f
 simp at this ⊢
 omega
theorem ty_lt_v {k t n ps fs vs} {v : ByteArray × List Ty} {b : Ty} (h : v ∈ vs) (h2 : b ∈ v.2) : SizeOf.sizeOf b < SizeOf.sizeOf (Ty.mk k t n ps fs vs) := by
 have h1 := List.sizeOf_lt_of_mem h
 have h3 := List.sizeOf_lt_of_mem h2
 obtain ⟨a, c⟩ := v
 simp at h1 h3 ⊢
 omega
theorem Ty.ind {C : Ty → Prop} (step : ∀ k t n ps fs vs, (∀ p ∈ ps, C p) → (∀ f ∈ fs, C f.2.2) → (∀ v ∈ vs, ∀ b ∈ v.2, C b) → C (.mk k t n ps fs vs)) (t : Ty) : C t := by
 have key : ∀ s (t : Ty), SizeOf.sizeOf t = s → C t := by
  intro s
  induction s using Nat.strongRecOn with
  | _ s ih =>
   intro t hs
   obtain ⟨k, t, n, ps, fs, vs⟩ := t
   exact step k t n ps fs vs (fun p hp => ih _ (hs ▸ ty_lt_p hp) p rfl) (fun f hf => ih _ (hs ▸ ty_lt_f hf) _ rfl) (fun v hv b hb => ih _ (hs ▸ ty_lt_v hv hb) b rfl)
 exact key _ t rfl
inductive Tok where
 | i (n : Int)
 | s (b : ByteArray)
def cmpB (a b : ByteArray) : Int := if a.data.toList < b.data.toList then -1 else if b.data.toList < a.data.toList then 1 else 0
def cmpZ (a b : Int) : Int := if a < b then -1 else if b < a then 1 else 0
def cmpTok : Tok → Tok → Int
 | .i a, .i b => cmpZ a b
 | .s a, .s b => cmpB a b
 | .i _, .s _ => -1
 | .s _, .i _ => 1
theorem tot_list {a b : List UInt8} (h1 : ¬ a < b) (h2 : ¬ b < a) : a = b := List.le_antisymm (List.not_lt.1 h2) (List.not_lt.1 h1)
theorem bytes_ext {a b : ByteArray} (h : a.data.toList = b.data.toList) : a = b := by
 cases a; cases b
 simp only [ByteArray.mk.injEq]
 exact Array.ext' h
theorem cmpB_zero {a b : ByteArray} (h : cmpB a b = 0) : a = b := by
 unfold cmpB at h
 split at h
 ·cases h
 ·split at h
  ·cases h
  ·rename_i h1 h2; exact bytes_ext (tot_list h1 h2)
theorem cmpB_self (a : ByteArray) : cmpB a a = 0 := by
 unfold cmpB
 rw [if_neg (List.lt_irrefl _), if_neg (List.lt_irrefl _)]
theorem cmpZ_zero {a b : Int} (h : cmpZ a b = 0) : a = b := by
 unfold cmpZ at h
 split at h
 ·cases h
 ·split at h
  ·cases h
  ·omega
theorem cmpZ_self (a : Int) : cmpZ a a = 0 := by unfold cmpZ; simp
theorem cmpZ_flip (a b : Int) : cmpZ b a = - cmpZ a b := by
 unfold cmpZ
 split <;> split <;> first | omega | rfl | (split <;> omega) | skip
theorem cmpB_flip (a b : ByteArray) : cmpB b a = - cmpB a b := by
 unfold cmpB
 by_cases h1 : a.data.toList < b.data.toList
 ·rw [if_pos h1, if_neg (fun h => List.lt_irrefl _ (List.lt_trans h h1))]; simp [h1]
 ·rw [if_neg h1]
  by_cases h2 : b.data.toList < a.data.toList
  ·rw [if_pos h2, if_neg h1, if_pos h2]
  ·rw [if_neg h2, if_neg h1, if_neg h2]; rfl
theorem cmpTok_flip : ∀ a b, cmpTok b a = - cmpTok a b
 | .i a, .i b => cmpZ_flip a b
 | .s a, .s b => cmpB_flip a b
 | .i _, .s _ => rfl
 | .s _, .i _ => rfl
theorem cmpTok_zero : ∀ {a b}, cmpTok a b = 0 → a = b
 | .i _, .i _, h => by rw [cmpZ_zero h]
 | .s _, .s _, h => by rw [cmpB_zero h]
 | .i _, .s _, h => by cases h
 | .s _, .i _, h => by cases h
theorem cmpTok_self : ∀ a, cmpTok a a = 0
 | .i a => cmpZ_self a
 | .s a => cmpB_self a
theorem cmpZ_bd (a b : Int) : cmpZ a b = -1 ∨ cmpZ a b = 0 ∨ cmpZ a b = 1 := by
 unfold cmpZ
 split
 ·exact .inl rfl
 ·split
  ·exact .inr (.inr rfl)
  ·exact .inr (.inl rfl)
theorem cmpB_bd (a b : ByteArray) : cmpB a b = -1 ∨ cmpB a b = 0 ∨ cmpB a b = 1 := by
 unfold cmpB
 split
 ·exact .inl rfl
 ·split
  ·exact .inr (.inr rfl)
  ·exact .inr (.inl rfl)
theorem cmpTok_bd : ∀ a b, cmpTok a b = -1 ∨ cmpTok a b = 0 ∨ cmpTok a b = 1
 | .i a, .i b => cmpZ_bd a b
 | .s a, .s b => cmpB_bd a b
 | .i _, .s _ => .inl rfl
 | .s _, .i _ => .inr (.inr rfl)
theorem cmpZ_lt {a b : Int} : cmpZ a b = -1 ↔ a < b := by
 unfold cmpZ
 split
 ·simp_all
 ·split <;> simp_all
theorem cmpB_lt {a b : ByteArray} : cmpB a b = -1 ↔ a.data.toList < b.data.toList := by
 unfold cmpB
 split
 ·simp_all
 ·split <;> simp_all
theorem cmpTok_trans : ∀ {a b c}, cmpTok a b = -1 → cmpTok b c = -1 → cmpTok a c = -1
 | .i _, .i _, .i _, h1, h2 => cmpZ_lt.2 (by have := cmpZ_lt.1 h1; have := cmpZ_lt.1 h2; omega)
 | .s _, .s _, .s _, h1, h2 => cmpB_lt.2 (List.lt_trans (cmpB_lt.1 h1) (cmpB_lt.1 h2))
 | .i _, _, .s _, _, _ => rfl
 | .i _, .s _, .i _, _, h2 => by cases h2
 | .s _, .i _, _, h1, _ => by cases h1
 | .s _, .s _, .i _, _, h2 => by cases h2
def lexC : List Tok → List Tok → Int
 | [], [] => 0
 | [], _ :: _ => -1
 | _ :: _, [] => 1
 | a :: x, b :: y => if cmpTok a b ≠ 0 then cmpTok a b else lexC x y
theorem lexC_self : ∀ x, lexC x x = 0
 | [] => rfl
 | a :: x => by rw [lexC, cmpTok_self, if_neg (by simp), lexC_self x]
theorem lexC_zero : ∀ {x y}, lexC x y = 0 → x = y
 | [], [], _ => rfl
 | [], _ :: _, h => by cases h
 | _ :: _, [], h => by cases h
 | a :: x, b :: y, h => by
  rw [lexC] at h
  split at h
  ·rename_i h1; exact absurd h h1
  ·rename_i h1
   rw [cmpTok_zero (Classical.byContradiction h1), lexC_zero h]
theorem lexC_flip : ∀ x y, lexC y x = - lexC x y
 | [], [] => rfl
 | [], _ :: _ => rfl
 | _ :: _, [] => rfl
 | a :: x, b :: y => by
  rw [lexC, lexC, cmpTok_flip a b, lexC_flip x y]
  by_cases h : cmpTok a b = 0
  ·rw [h]; simp
  ·rw [if_pos (by omega), if_pos h]
theorem lexC_bd : ∀ x y, lexC x y = -1 ∨ lexC x y = 0 ∨ lexC x y = 1
 | [], [] => .inr (.inl rfl)
 | [], _ :: _ => .inl rfl
 | _ :: _, [] => .inr (.inr rfl)
 | a :: x, b :: y => by
  rw [lexC]
  split
  ·exact cmpTok_bd a b
  ·exact lexC_bd x y
theorem lexC_trans : ∀ {x y z}, lexC x y = -1 → lexC y z = -1 → lexC x z = -1
 | [], _, _ :: _, _, _ => rfl
 | [], [], [], h, _ => by cases h
 | [], _ :: _, [], _, h => by cases h
 | _ :: _, [], _, h, _ => by cases h
 | _ :: _, _ :: _, [], _, h => by cases h
 | a :: x, b :: y, c :: z, h1, h2 => by
  rw [lexC] at h1 h2 ⊢
  by_cases e1 : cmpTok a b = 0
  ·rw [if_neg (by simpa using e1)] at h1
   have := cmpTok_zero e1
   subst this
   by_cases e2 : cmpTok a c = 0
   ·rw [if_neg (by simpa using e2)] at h2 ⊢
    exact lexC_trans h1 h2
   ·rw [if_pos e2] at h2 ⊢
    exact h2
  ·rw [if_pos e1] at h1
   by_cases e2 : cmpTok b c = 0
   ·have := cmpTok_zero e2
    subst this
    rw [if_pos e1]
    exact h1
   ·rw [if_pos e2] at h2
    have := cmpTok_trans h1 h2
    rw [if_pos (by rw [this]; decide)]
    exact this
def Clean (x y : List Tok) (c : Int) : Prop := ∀ r s, lexC (x ++ r) (y ++ s) = if c ≠ 0 then c else lexC r s
theorem Clean.nil : Clean [] [] 0 := fun r s => by simp
theorem Clean.tok (a b : Tok) : Clean [a] [b] (cmpTok a b) := fun r s => by simp [lexC]
theorem Clean.app {x y x' y' : List Tok} {c c' : Int} (h : Clean x y c) (h' : Clean x' y' c') : Clean (x ++ x') (y ++ y') (if c ≠ 0 then c else c') := fun r s => by
 rw [List.append_assoc, List.append_assoc, h, h']
 by_cases e : c = 0
 ·simp [e]
 ·simp [e]
theorem Clean.first {x y x' y' : List Tok} {c : Int} (h : Clean x y c) (hc : c ≠ 0) : Clean (x ++ x') (y ++ y') c := fun r s => by
 rw [List.append_assoc, List.append_assoc, h, if_pos hc, if_pos hc]
theorem Clean.val {x y : List Tok} {c : Int} (h : Clean x y c) : lexC x y = c := by
 have := h [] []
 rw [List.append_nil, List.append_nil] at this
 rw [this]
 by_cases e : c = 0
 ·simp [e, lexC]
 ·simp [e]
theorem Clean.to {x y : List Tok} {c c' : Int} (h : Clean x y c) (e : c = c') : Clean x y c' := e ▸ h
def flat : Ty → List Tok
 | .mk k t n ps fs vs => [.i k, .s t, .i n] ++ ((.i ps.length :: (ps.attach.map fun ⟨p, _⟩ => flat p).flatten) ++ ((.i fs.length :: (fs.attach.map fun ⟨f, _⟩ => [.s f.1, .i f.2.1] ++ flat f.2.2).flatten) ++ (.i vs.length :: (vs.attach.map fun ⟨v, _⟩ => .s v.1 :: .i v.2.length :: (v.2.attach.map fun ⟨b, _⟩ => flat b).flatten).flatten)))
termination_by t => SizeOf.sizeOf t
decreasing_by
 ·exact ty_lt_p ‹_›
 ·exact ty_lt_f ‹_›
 ·exact ty_lt_v ‹_› ‹_›
def flatL (l : List Ty) : List Tok := .i l.length :: (l.map flat).flatten
def flatF (l : List (ByteArray × Int × Ty)) : List Tok := .i l.length :: (l.map fun f => [.s f.1, .i f.2.1] ++ flat f.2.2).flatten
def flatV (l : List (ByteArray × List Ty)) : List Tok := .i l.length :: (l.map fun v => .s v.1 :: flatL v.2).flatten
theorem flat_mk (k t n ps fs vs) : flat (.mk k t n ps fs vs) = [.i k, .s t, .i n] ++ (flatL ps ++ (flatF fs ++ flatV vs)) := by
 rw [flat]
 unfold flatL flatF flatV flatL
 simp only [List.map_attach_eq_pmap, List.pmap_eq_map]
def ordT (a b : Ty) : Int := lexC (flat a) (flat b)
def or2 (a b : Int) : Int := if a ≠ 0 then a else b
theorem or2_zero (b : Int) : or2 0 b = b := by simp [or2]
theorem or2_ne {a : Int} (h : a ≠ 0) (b : Int) : or2 a b = a := by simp [or2, h]
theorem Clean.self {x y : List Tok} {c : Int} (h : Clean x y c) : Clean x y (lexC x y) := h.to h.val.symm
theorem Clean.lex_app {x y x' y' : List Tok} {c c' : Int} (h : Clean x y c) (h' : Clean x' y' c') : lexC (x ++ x') (y ++ y') = or2 (lexC x y) (lexC x' y') := by
 rw [(h.app h').val, h.val, h'.val]
 rfl
theorem Clean.items {α : Type} (e : α → List Tok) : ∀ (l l' : List α), l.length = l'.length → (∀ x ∈ l, ∀ y, Clean (e x) (e y) (lexC (e x) (e y))) → Clean (l.map e).flatten (l'.map e).flatten (lexC (l.map e).flatten (l'.map e).flatten)
 | [], [], _, _ => Clean.nil.self
 | [], _ :: _, h, _ => by simp at h
 | _ :: _, [], h, _ => by simp at h
 | a :: l, b :: l', h, hc => by
  simp only [List.map_cons, List.flatten_cons]
  exact ((hc a (List.mem_cons_self ..) b).app (Clean.items e l l' (by simpa using h) (fun x hx => hc x (List.mem_cons_of_mem _ hx)))).self
def rowE {α : Type} (e : α → List Tok) (l : List α) : List Tok := .i l.length :: (l.map e).flatten
theorem Clean.rows {α : Type} (e : α → List Tok) (l l' : List α) (hc : ∀ x ∈ l, ∀ y, Clean (e x) (e y) (lexC (e x) (e y))) : Clean (rowE e l) (rowE e l') (lexC (rowE e l) (rowE e l')) := by
 unfold rowE
 by_cases h : l.length = l'.length
 ·exact ((Clean.tok (.i l.length) (.i l'.length)).app (Clean.items e l l' h hc)).self
 ·exact ((Clean.tok (.i l.length) (.i l'.length)).first (by
   intro h0
   have := cmpTok_zero h0
   simp at this
   omega)).self
theorem flatL_row : flatL = rowE flat := rfl
theorem flatF_row : flatF = rowE fun f => [.s f.1, .i f.2.1] ++ flat f.2.2 := rfl
theorem flatV_row : flatV = rowE fun v => .s v.1 :: flatL v.2 := rfl
theorem flat_clean (a : Ty) : ∀ b, Clean (flat a) (flat b) (ordT a b) := by
 refine Ty.ind (C := fun a => ∀ b, Clean (flat a) (flat b) (ordT a b)) ?_ a
 intro k t n ps fs vs ihp ihf ihv b
 obtain ⟨k', t', n', ps', fs', vs'⟩ := b
 unfold ordT
 rw [flat_mk, flat_mk]
 have h3 : Clean [.i k, .s t, .i n] [.i k', .s t', .i n'] (lexC [.i k, .s t, .i n] [.i k', .s t', .i n']) := ((Clean.tok (.i k) (.i k')).app ((Clean.tok (.s t) (.s t')).app (Clean.tok (.i n) (.i n')))).self
 have hp : Clean (flatL ps) (flatL ps') (lexC (flatL ps) (flatL ps')) := by
  rw [flatL_row]
  exact Clean.rows flat ps ps' fun x hx y => ihp x hx y
 have hf : Clean (flatF fs) (flatF fs') (lexC (flatF fs) (flatF fs')) := by
  rw [flatF_row]
  refine Clean.rows _ fs fs' fun x hx y => ?_
  exact (((Clean.tok (.s x.1) (.s y.1)).app (Clean.tok (.i x.2.1) (.i y.2.1))).app (ihf x hx y.2.2)).self
 have hv : Clean (flatV vs) (flatV vs') (lexC (flatV vs) (flatV vs')) := by
  rw [flatV_row]
  refine Clean.rows _ vs vs' fun x hx y => ?_
  exact ((Clean.tok (.s x.1) (.s y.1)).app (Clean.rows flat x.2 y.2 fun b hb y => ihv x hx b hb y)).self
 exact (h3.app (hp.app (hf.app hv))).self
theorem cleanT (a b : Ty) : Clean (flat a) (flat b) (lexC (flat a) (flat b)) := flat_clean a b
theorem cleanL (l l' : List Ty) : Clean (flatL l) (flatL l') (lexC (flatL l) (flatL l')) := Clean.rows flat l l' fun x _ y => cleanT x y
theorem cleanFd (x y : ByteArray × Int × Ty) : Clean ([Tok.s x.1, .i x.2.1] ++ flat x.2.2) ([.s y.1, .i y.2.1] ++ flat y.2.2) (lexC ([.s x.1, .i x.2.1] ++ flat x.2.2) ([.s y.1, .i y.2.1] ++ flat y.2.2)) :=
 (((Clean.tok (.s x.1) (.s y.1)).app (Clean.tok (.i x.2.1) (.i y.2.1))).app (cleanT x.2.2 y.2.2)).self
theorem cleanF (l l' : List (ByteArray × Int × Ty)) : Clean (flatF l) (flatF l') (lexC (flatF l) (flatF l')) := Clean.rows _ l l' fun x _ y => cleanFd x y
theorem cleanVr (x y : ByteArray × List Ty) : Clean (Tok.s x.1 :: flatL x.2) (.s y.1 :: flatL y.2) (lexC (.s x.1 :: flatL x.2) (.s y.1 :: flatL y.2)) := ((Clean.tok (.s x.1) (.s y.1)).app (cleanL x.2 y.2)).self
theorem cleanV (l l' : List (ByteArray × List Ty)) : Clean (flatV l) (flatV l') (lexC (flatV l) (flatV l')) := Clean.rows _ l l' fun x _ y => cleanVr x y
theorem lexC_tok (a b : Tok) : lexC [a] [b] = cmpTok a b := (Clean.tok a b).val
theorem ord_steps (k t n ps fs vs k' t' n' ps' fs' vs') : ordT (.mk k t n ps fs vs) (.mk k' t' n' ps' fs' vs') = or2 (cmpZ k k') (or2 (cmpB t t') (or2 (cmpZ n n') (or2 (lexC (flatL ps) (flatL ps')) (or2 (lexC (flatF fs) (flatF fs')) (lexC (flatV vs) (flatV vs')))))) := by
 unfold ordT
 rw [flat_mk, flat_mk]
 have e1 : ([Tok.i k, .s t, .i n] ++ (flatL ps ++ (flatF fs ++ flatV vs))) = [.i k] ++ ([.s t] ++ ([.i n] ++ (flatL ps ++ (flatF fs ++ flatV vs)))) := rfl
 have e2 : ([Tok.i k', .s t', .i n'] ++ (flatL ps' ++ (flatF fs' ++ flatV vs'))) = [.i k'] ++ ([.s t'] ++ ([.i n'] ++ (flatL ps' ++ (flatF fs' ++ flatV vs')))) := rfl
 have c0 := (cleanF fs fs').app (cleanV vs vs')
 have c1 := (cleanL ps ps').app c0
 have c2 := (Clean.tok (.i n) (.i n')).app c1
 have c3 := (Clean.tok (.s t) (.s t')).app c2
 rw [e1, e2, (Clean.tok (.i k) (.i k')).lex_app c3, (Clean.tok (.s t) (.s t')).lex_app c2, (Clean.tok (.i n) (.i n')).lex_app c1, (cleanL ps ps').lex_app c0, (cleanF fs fs').lex_app (cleanV vs vs'), lexC_tok, lexC_tok, lexC_tok]
 rfl
theorem field_steps (x y : ByteArray × Int × Ty) : lexC ([Tok.s x.1, .i x.2.1] ++ flat x.2.2) ([.s y.1, .i y.2.1] ++ flat y.2.2) = or2 (cmpB x.1 y.1) (or2 (cmpZ x.2.1 y.2.1) (ordT x.2.2 y.2.2)) := by
 have e1 : ([Tok.s x.1, .i x.2.1] ++ flat x.2.2) = [.s x.1] ++ ([.i x.2.1] ++ flat x.2.2) := rfl
 have e2 : ([Tok.s y.1, .i y.2.1] ++ flat y.2.2) = [.s y.1] ++ ([.i y.2.1] ++ flat y.2.2) := rfl
 have c1 := (Clean.tok (.i x.2.1) (.i y.2.1)).app (cleanT x.2.2 y.2.2)
 rw [e1, e2, (Clean.tok (.s x.1) (.s y.1)).lex_app c1, (Clean.tok (.i x.2.1) (.i y.2.1)).lex_app (cleanT x.2.2 y.2.2), lexC_tok, lexC_tok]
 rfl
theorem var_steps (x y : ByteArray × List Ty) : lexC (Tok.s x.1 :: flatL x.2) (.s y.1 :: flatL y.2) = or2 (cmpB x.1 y.1) (lexC (flatL x.2) (flatL y.2)) := by
 have e1 : (Tok.s x.1 :: flatL x.2) = [.s x.1] ++ flatL x.2 := rfl
 have e2 : (Tok.s y.1 :: flatL y.2) = [.s y.1] ++ flatL y.2 := rfl
 rw [e1, e2, (Clean.tok (.s x.1) (.s y.1)).lex_app (cleanL x.2 y.2), lexC_tok]
 rfl
def restC {α : Type} (e : α → List Tok) (l l' : List α) (i : Nat) : Int := lexC ((l.drop i).map e).flatten ((l'.drop i).map e).flatten
theorem row_len {α : Type} (e : α → List Tok) {l l' : List α} (h : l.length ≠ l'.length) : lexC (rowE e l) (rowE e l') = cmpZ l.length l'.length := by
 have hne : cmpTok (.i l.length) (.i l'.length) ≠ 0 := by
  intro h0
  have := cmpTok_zero h0
  simp at this
  omega
 unfold rowE
 rw [lexC, if_pos hne]
 rfl
theorem row_same {α : Type} (e : α → List Tok) {l l' : List α} (h : l.length = l'.length) : lexC (rowE e l) (rowE e l') = restC e l l' 0 := by
 unfold rowE restC
 rw [lexC, h, if_neg (by simp [cmpTok_self])]
 rfl
theorem rest_end {α : Type} (e : α → List Tok) {l l' : List α} (h : l.length = l'.length) : restC e l l' l.length = 0 := by
 unfold restC
 rw [List.drop_of_length_le (Nat.le_refl _), List.drop_of_length_le (by omega)]
 rfl
theorem rest_step {α : Type} (e : α → List Tok) (hc : ∀ x y, Clean (e x) (e y) (lexC (e x) (e y))) {l l' : List α} (h : l.length = l'.length) {i : Nat} (hi : i < l.length) (hi' : i < l'.length) : restC e l l' i = or2 (lexC (e l[i]) (e l'[i])) (restC e l l' (i + 1)) := by
 unfold restC
 rw [List.drop_eq_getElem_cons hi, List.drop_eq_getElem_cons hi', List.map_cons, List.map_cons, List.flatten_cons, List.flatten_cons]
 exact (hc _ _).lex_app (Clean.items e _ _ (by simp; omega) (fun x _ y => hc x y))
theorem items_inj {α : Type} (e : α → List Tok) : ∀ (l l' : List α) (r s : List Tok), l.length = l'.length → (∀ x ∈ l, ∀ y r s, e x ++ r = e y ++ s → x = y ∧ r = s) → (l.map e).flatten ++ r = (l'.map e).flatten ++ s → l = l' ∧ r = s
 | [], [], _, _, _, _, h => ⟨rfl, by simpa using h⟩
 | [], _ :: _, _, _, h, _, _ => by simp at h
 | _ :: _, [], _, _, h, _, _ => by simp at h
 | a :: l, b :: l', r, s, h, hi, he => by
  simp only [List.map_cons, List.flatten_cons, List.append_assoc] at he
  obtain ⟨rfl, h2⟩ := hi a (List.mem_cons_self ..) b _ _ he
  obtain ⟨rfl, h3⟩ := items_inj e l l' r s (by simpa using h) (fun x hx => hi x (List.mem_cons_of_mem _ hx)) h2
  exact ⟨rfl, h3⟩
theorem row_inj {α : Type} (e : α → List Tok) (l l' : List α) (r s : List Tok) (hi : ∀ x ∈ l, ∀ y r s, e x ++ r = e y ++ s → x = y ∧ r = s) (h : rowE e l ++ r = rowE e l' ++ s) : l = l' ∧ r = s := by
 unfold rowE at h
 simp only [List.cons_append, List.cons.injEq, Tok.i.injEq] at h
 exact items_inj e l l' r s (by omega) hi h.2
theorem flat_inj (a : Ty) : ∀ b r s, flat a ++ r = flat b ++ s → a = b ∧ r = s := by
 refine Ty.ind (C := fun a => ∀ b r s, flat a ++ r = flat b ++ s → a = b ∧ r = s) ?_ a
 intro k t n ps fs vs ihp ihf ihv b r s h
 obtain ⟨k', t', n', ps', fs', vs'⟩ := b
 rw [flat_mk, flat_mk] at h
 simp only [List.cons_append, List.nil_append, List.cons.injEq, Tok.i.injEq, Tok.s.injEq, List.append_assoc] at h
 obtain ⟨rfl, rfl, rfl, h⟩ := h
 rw [flatL_row, flatF_row, flatV_row] at h
 obtain ⟨e1, h1⟩ := row_inj flat ps ps' _ _ (fun x hx y r s h => ihp x hx y r s h) h
 obtain ⟨e2, h2⟩ := row_inj (fun f : ByteArray × Int × Ty => [Tok.s f.1, .i f.2.1] ++ flat f.2.2) fs fs' _ _ (fun x hx y r s h => by
  obtain ⟨a, b, c⟩ := x
  obtain ⟨a', b', c'⟩ := y
  simp only [List.cons_append, List.nil_append, List.cons.injEq, Tok.i.injEq, Tok.s.injEq] at h
  obtain ⟨rfl, rfl, h⟩ := h
  obtain ⟨h1, h2⟩ := ihf _ hx c' r s h
  subst h1
  exact ⟨rfl, h2⟩) h1
 obtain ⟨e3, h3⟩ := row_inj (fun v : ByteArray × List Ty => Tok.s v.1 :: flatL v.2) vs vs' _ _ (fun x hx y r s h => by
  obtain ⟨a, l⟩ := x
  obtain ⟨a', l'⟩ := y
  simp only [List.cons_append, List.cons.injEq, Tok.s.injEq] at h
  obtain ⟨rfl, h⟩ := h
  rw [flatL_row] at h
  obtain ⟨rfl, h2⟩ := row_inj flat l l' r s (fun b hb y r s h => ihv _ hx b hb y r s h) h
  exact ⟨rfl, h2⟩) h2
 subst e1 e2 e3
 exact ⟨rfl, h3⟩
theorem ordT_zero {a b : Ty} : ordT a b = 0 ↔ a = b :=
 ⟨fun h => (flat_inj a b [] [] (by rw [lexC_zero h])).1, fun h => by rw [h]; exact lexC_self _⟩
theorem ordT_flip (a b : Ty) : ordT b a = - ordT a b := lexC_flip _ _
theorem ordT_bd (a b : Ty) : ordT a b = -1 ∨ ordT a b = 0 ∨ ordT a b = 1 := lexC_bd _ _
theorem ordT_trans {a b c : Ty} (h : ordT a b = -1) (h' : ordT b c = -1) : ordT a c = -1 := lexC_trans h h'
def Asc (l : List Ty) : Prop := l.Pairwise fun a b => ordT a b = -1
theorem ordT_gt {a b : Ty} (h : ordT a b = 1) : ordT b a = -1 := by rw [ordT_flip, h]
theorem asc_unique : ∀ {l l' : List Ty}, Asc l → Asc l' → (∀ x, x ∈ l ↔ x ∈ l') → l = l'
 | [], [], _, _, _ => rfl
 | [], b :: l', _, _, h => absurd ((h b).2 (List.mem_cons_self ..)) (by simp)
 | a :: l, [], _, _, h => absurd ((h a).1 (List.mem_cons_self ..)) (by simp)
 | a :: l, b :: l', h, h', hm => by
  obtain ⟨h1, h2⟩ := List.pairwise_cons.1 h
  obtain ⟨h1', h2'⟩ := List.pairwise_cons.1 h'
  have hab : a = b := by
   rcases List.mem_cons.1 ((hm a).1 (List.mem_cons_self ..)) with e | e
   ·exact e
   ·rcases List.mem_cons.1 ((hm b).2 (List.mem_cons_self ..)) with e' | e'
    ·exact e'.symm
    ·have x1 := h1' a e
     have x2 := h1 b e'
     rw [ordT_flip, x2] at x1
     cases x1
  subst hab
  have ht : ∀ x, x ∈ l ↔ x ∈ l' := by
   intro x
   constructor
   ·intro hx
    rcases List.mem_cons.1 ((hm x).1 (List.mem_cons_of_mem _ hx)) with e | e
    ·subst e
     have := h1 x hx
     rw [ordT_zero.2 rfl] at this
     cases this
    ·exact e
   ·intro hx
    rcases List.mem_cons.1 ((hm x).2 (List.mem_cons_of_mem _ hx)) with e | e
    ·subst e
     have := h1' x hx
     rw [ordT_zero.2 rfl] at this
     cases this
    ·exact e
  rw [asc_unique h2 h2' ht]
def insT (t : Ty) : List Ty → List Ty
 | [] => [t]
 | a :: l => if ordT t a = -1 then t :: a :: l else if ordT t a = 0 then a :: l else a :: insT t l
theorem mem_insT (t x : Ty) : ∀ l, x ∈ insT t l ↔ x = t ∨ x ∈ l
 | [] => by simp [insT]
 | a :: l => by
  rw [insT]
  split
  ·simp
  ·split
   ·rename_i h
    have := ordT_zero.1 h
    subst this
    simp
   ·simp only [List.mem_cons, mem_insT t x l]
    constructor
    ·rintro (h | h | h)
     ·exact .inr (.inl h)
     ·exact .inl h
     ·exact .inr (.inr h)
    ·rintro (h | h | h)
     ·exact .inr (.inl h)
     ·exact .inl h
     ·exact .inr (.inr h)
theorem asc_insT (t : Ty) : ∀ {l}, Asc l → Asc (insT t l)
 | [], _ => by simp [insT, Asc]
 | a :: l, h => by
  obtain ⟨h1, h2⟩ := List.pairwise_cons.1 h
  rw [insT]
  split
  ·rename_i hlt
   refine List.pairwise_cons.2 ⟨fun x hx => ?_, h⟩
   rcases List.mem_cons.1 hx with rfl | hx
   ·exact hlt
   ·exact ordT_trans hlt (h1 x hx)
  ·split
   ·exact h
   ·rename_i h3 h4
    refine List.pairwise_cons.2 ⟨fun x hx => ?_, asc_insT t h2⟩
    rcases (mem_insT t x l).1 hx with rfl | hx
    ·rcases ordT_bd x a with e | e | e
     ·exact absurd e h3
     ·exact absurd e h4
     ·exact ordT_gt e
    ·exact h1 x hx
def sortT (l : List Ty) : List Ty := l.foldr insT []
theorem mem_sortT (x : Ty) : ∀ l, x ∈ sortT l ↔ x ∈ l
 | [] => by simp [sortT]
 | a :: l => by
  show x ∈ insT a (sortT l) ↔ _
  rw [mem_insT, mem_sortT x l, List.mem_cons]
theorem asc_sortT : ∀ l, Asc (sortT l)
 | [] => by simp [sortT, Asc]
 | a :: l => asc_insT a (asc_sortT l)
theorem sortT_of {l s : List Ty} (h : Asc s) (hm : ∀ x, x ∈ s ↔ x ∈ l) : sortT l = s :=
 asc_unique (asc_sortT l) h fun x => (mem_sortT x l).trans (hm x).symm
theorem sortT_self {l : List Ty} (h : Asc l) : sortT l = l := sortT_of h fun _ => Iff.rfl
def parts1 : Ty → List Ty
 | .mk k t n ps fs vs => if k = 15 then (ps.attach.map fun ⟨p, _⟩ => parts1 p).flatten else [.mk k t n ps fs vs]
termination_by t => SizeOf.sizeOf t
decreasing_by exact ty_lt_p ‹_›
def flatU (l : List Ty) : List Ty := (l.map parts1).flatten
theorem parts1_mk (k t n ps fs vs) : parts1 (.mk k t n ps fs vs) = if k = 15 then flatU ps else [.mk k t n ps fs vs] := by
 rw [parts1]
 unfold flatU
 simp only [List.map_attach_eq_pmap, List.pmap_eq_map]
theorem flatU_cons (a : Ty) (l : List Ty) : flatU (a :: l) = parts1 a ++ flatU l := by simp [flatU]
theorem flatU_app (a l : List Ty) : flatU (a ++ l) = flatU a ++ flatU l := by simp [flatU]
def hasK (k : Int) (l : List Ty) : Bool := l.any fun t => t.k == k
def infT : Ty → Bool
 | .mk k _ _ ps fs _ => k == 22 || (ps.attach.mapIdx fun i ⟨p, _⟩ => !(k == 21 && i == 1) && infT p).any id || (fs.attach.map fun ⟨f, _⟩ => infT f.2.2).any id
termination_by t => SizeOf.sizeOf t
decreasing_by
 ·exact ty_lt_p ‹_›
 ·exact ty_lt_f ‹_›
def infPs (k : Int) : Nat → List Ty → Bool
 | _, [] => false
 | i, p :: l => (!(k == 21 && i == 1) && infT p) || infPs k (i + 1) l
def infFs (l : List (ByteArray × Int × Ty)) : Bool := l.any fun f => infT f.2.2
theorem any_mapIdx {α : Type} (k : Int) (g : α → Ty) : ∀ (l : List α) (j : Nat), (l.mapIdx fun i p => !(k == 21 && (i + j) == 1) && infT (g p)).any id = infPs k j (l.map g)
 | [], _ => rfl
 | a :: l, j => by
  rw [List.mapIdx_cons, List.any_cons, List.map_cons, infPs, ← any_mapIdx k g l (j + 1)]
  simp only [Nat.zero_add, id_eq, Nat.add_assoc, Nat.add_comm 1 j]
theorem infT_mk (k t n ps fs vs) : infT (.mk k t n ps fs vs) = (k == 22 || infPs k 0 ps || infFs fs) := by
 rw [infT]
 have h := any_mapIdx k (fun p : {x // x ∈ ps} => p.1) ps.attach 0
 simp only [Nat.add_zero] at h
 rw [h]
 unfold infFs
 simp only [List.map_attach_eq_pmap, List.pmap_eq_map, List.any_map, List.map_id']
 rfl
structure Kinds where
 a : Bool
 u : Bool
 n : Bool
 s : Bool
def kindsOf (l : List Ty) : Kinds := ⟨hasK 3 l, hasK 2 l, hasK 7 l, hasK 8 l⟩
def keepT (h : Kinds) (t : Ty) : Bool :=
 if t.k = 1 then false else if t.k = 3 then true else if t.k = 2 ∧ h.a = false then true else if h.a = true ∨ h.u = true then infT t else if t.k = 9 then !h.n else if t.k = 10 then !h.s else true
def keptU (l : List Ty) : List Ty := (flatU l).filter (keepT (kindsOf (flatU l)))
def emptyB : ByteArray := ⟨#[]⟩
def tyK (k : Int) : Ty := .mk k emptyB 0 [] [] []
def shutU : List Ty → Ty
 | [] => tyK 1
 | [x] => x
 | x :: y :: l => .mk 15 emptyB 0 (x :: y :: l) [] []
def unionT (l : List Ty) : Ty := shutU (sortT (keptU l))
theorem nan_s (s : ByteArray) (w : World) : Calls Tryz.prog 99 #[.string s] w fun e w' => e = .returned (.bool false) ∧ w = w' := by
 go_enter Tryz.func99, Tryz.ntmps99
 go_wp2_with fail
 go_ret
 exact ⟨rfl, rfl⟩
theorem nan_i (x : Int) (w : World) : Calls Tryz.prog 98 #[.int .i64 x] w fun e w' => e = .returned (.bool false) ∧ w = w' := by
 go_enter Tryz.func98, Tryz.ntmps98
 go_wp2_with fail
 go_ret
 exact ⟨rfl, rfl⟩
theorem nan_l (x : Int) (w : World) : Calls Tryz.prog 100 #[.int .i64 x] w fun e w' => e = .returned (.bool false) ∧ w = w' := by
 go_enter Tryz.func100, Tryz.ntmps100
 go_wp2_with fail
 go_ret
 exact ⟨rfl, rfl⟩
theorem less_iff (a b : ByteArray) : Op.bytesLess a.toList b.toList = decide (a.data.toList < b.data.toList) := by
 rw [bytesLess_eq, ByteArray.toList_eq, ByteArray.toList_eq]
theorem gtr_iff (a b : ByteArray) : (!(Op.bytesLess a.toList b.toList || a.toList == b.toList)) = decide (b.data.toList < a.data.toList) := by
 rw [less_iff, ByteArray.toList_eq, ByteArray.toList_eq, Bool.eq_iff_iff]
 simp only [Bool.not_eq_true', Bool.or_eq_false_iff, decide_eq_false_iff_not, beq_eq_false_iff_ne, ne_eq, decide_eq_true_eq]
 constructor
 ·rintro ⟨h1, h2⟩
  rcases Classical.em (b.data.toList < a.data.toList) with h | h
  ·exact h
  ·exact absurd (tot_list h1 h) h2
 ·intro h
  exact ⟨fun h' => List.lt_irrefl _ (List.lt_trans h h'), fun e => by rw [e] at h; exact List.lt_irrefl _ h⟩
theorem compare_s (a b : ByteArray) (w : World) : Calls Tryz.prog 75 #[.string a, .string b] w fun e w' => e = .returned (.int .i64 (cmpB a b)) ∧ w = w' := by
 have l := less_iff a b
 have g := gtr_iff a b
 unfold cmpB
 by_cases h1 : a.data.toList < b.data.toList
 ·rw [decide_eq_true h1] at l
  rw [if_pos h1]
  clear h1 g
  go_enter Tryz.func75, Tryz.ntmps75
  go_wp2_with (go_at_call 99; refine (nan_s _ _).mono ?_; rintro e w2 ⟨rfl, rfl⟩)
  go_ret
  exact ⟨rfl, rfl⟩
 ·rw [decide_eq_false h1] at l
  rw [if_neg h1]
  by_cases h2 : b.data.toList < a.data.toList
  ·have e : (a.toList == b.toList) = false := by
    rw [ByteArray.toList_eq, ByteArray.toList_eq]
    exact beq_eq_false_iff_ne.2 (fun e => by rw [e] at h2; exact List.lt_irrefl _ h2)
   rw [if_pos h2]
   clear h1 h2 g
   go_enter Tryz.func75, Tryz.ntmps75
   go_wp2_with (go_at_call 99; refine (nan_s _ _).mono ?_; rintro e w2 ⟨rfl, rfl⟩)
   go_ret
   exact ⟨rfl, rfl⟩
  ·obtain rfl : a = b := bytes_ext (tot_list h1 h2)
   rw [if_neg h2]
   clear h1 h2 g
   go_enter Tryz.func75, Tryz.ntmps75
   go_wp2_with (go_at_call 99; refine (nan_s _ _).mono ?_; rintro e w2 ⟨rfl, rfl⟩)
   go_ret
   exact ⟨rfl, rfl⟩
theorem compare_i (a b : Int) (w : World) : Calls Tryz.prog 74 #[.int .i64 a, .int .i64 b] w fun e w' => e = .returned (.int .i64 (cmpZ a b)) ∧ w = w' := by
 unfold cmpZ
 by_cases h1 : a < b
 ·rw [if_pos h1]
  go_enter Tryz.func74, Tryz.ntmps74
  go_wp2_with (go_at_call 98; refine (nan_i _ _).mono ?_; rintro e w2 ⟨rfl, rfl⟩)
  go_ret
  exact ⟨rfl, rfl⟩
 ·rw [if_neg h1]
  by_cases h2 : b < a
  ·rw [if_pos h2]
   have t1 : decide (a < b) = false := decide_eq_false h1
   go_enter Tryz.func74, Tryz.ntmps74
   go_wp2_with (go_at_call 98; refine (nan_i _ _).mono ?_; rintro e w2 ⟨rfl, rfl⟩)
   go_ret
   exact ⟨rfl, rfl⟩
  ·rw [if_neg h2]
   obtain rfl : a = b := by omega
   clear h1 h2
   go_enter Tryz.func74, Tryz.ntmps74
   go_wp2_with (go_at_call 98; refine (nan_i _ _).mono ?_; rintro e w2 ⟨rfl, rfl⟩)
   go_ret
   exact ⟨rfl, rfl⟩
theorem compare_l (a b : Int) (w : World) : Calls Tryz.prog 76 #[.int .i64 a, .int .i64 b] w fun e w' => e = .returned (.int .i64 (cmpZ a b)) ∧ w = w' := by
 unfold cmpZ
 by_cases h1 : a < b
 ·rw [if_pos h1]
  go_enter Tryz.func76, Tryz.ntmps76
  go_wp2_with (go_at_call 100; refine (nan_l _ _).mono ?_; rintro e w2 ⟨rfl, rfl⟩)
  go_ret
  exact ⟨rfl, rfl⟩
 ·rw [if_neg h1]
  by_cases h2 : b < a
  ·rw [if_pos h2]
   have t1 : decide (a < b) = false := decide_eq_false h1
   go_enter Tryz.func76, Tryz.ntmps76
   go_wp2_with (go_at_call 100; refine (nan_l _ _).mono ?_; rintro e w2 ⟨rfl, rfl⟩)
   go_ret
   exact ⟨rfl, rfl⟩
  ·rw [if_neg h2]
   obtain rfl : a = b := by omega
   clear h1 h2
   go_enter Tryz.func76, Tryz.ntmps76
   go_wp2_with (go_at_call 100; refine (nan_l _ _).mono ?_; rintro e w2 ⟨rfl, rfl⟩)
   go_ret
   exact ⟨rfl, rfl⟩
theorem or_2 (g : Nat) (a b : Int) (w : World) (h0 : w.cell? ⟨g, 0, none⟩ = some (.int .i64 a)) (h1 : w.cell? ⟨g, 1, none⟩ = some (.int .i64 b)) :
  Calls Tryz.prog 73 #[.slice (some ⟨g, 0, none⟩) 2 2] w fun e w' => e = .returned (.int .i64 (or2 a b)) ∧ w = w' := by
 unfold or2
 by_cases ha : a = 0
 case neg =>
  have ta : (a != 0) = true := by simpa using ha
  rw [if_pos ha]
  go_enter Tryz.func73, Tryz.ntmps73
  go_wp2
  go_rounds 1
  go_ret
  exact ⟨rfl, rfl⟩
 subst ha
 rw [if_neg (by simp)]
 by_cases hb : b = 0
 case neg =>
  have tb : (b != 0) = true := by simpa using hb
  go_enter Tryz.func73, Tryz.ntmps73
  go_wp2
  go_rounds 2
  go_ret
  exact ⟨rfl, rfl⟩
 subst hb
 go_enter Tryz.func73, Tryz.ntmps73
 go_wp2
 go_rounds 3
 go_ret
 exact ⟨rfl, rfl⟩
theorem or_3 (g : Nat) (a b c : Int) (w : World) (h0 : w.cell? ⟨g, 0, none⟩ = some (.int .i64 a)) (h1 : w.cell? ⟨g, 1, none⟩ = some (.int .i64 b)) (h2 : w.cell? ⟨g, 2, none⟩ = some (.int .i64 c)) :
  Calls Tryz.prog 73 #[.slice (some ⟨g, 0, none⟩) 3 3] w fun e w' => e = .returned (.int .i64 (or2 a (or2 b c))) ∧ w = w' := by
 unfold or2
 by_cases ha : a = 0
 case neg =>
  have ta : (a != 0) = true := by simpa using ha
  rw [if_pos ha]
  go_enter Tryz.func73, Tryz.ntmps73
  go_wp2
  go_rounds 1
  go_ret
  exact ⟨rfl, rfl⟩
 subst ha
 rw [if_neg (by simp)]
 by_cases hb : b = 0
 case neg =>
  have tb : (b != 0) = true := by simpa using hb
  rw [if_pos hb]
  go_enter Tryz.func73, Tryz.ntmps73
  go_wp2
  go_rounds 2
  go_ret
  exact ⟨rfl, rfl⟩
 subst hb
 rw [if_neg (by simp)]
 by_cases hc : c = 0
 case neg =>
  have tc : (c != 0) = true := by simpa using hc
  go_enter Tryz.func73, Tryz.ntmps73
  go_wp2
  go_rounds 3
  go_ret
  exact ⟨rfl, rfl⟩
 subst hc
 go_enter Tryz.func73, Tryz.ntmps73
 go_wp2
 go_rounds 4
 go_ret
 exact ⟨rfl, rfl⟩
end Go.Proofs.YtfchnfnifpopnaaGreatDoor
