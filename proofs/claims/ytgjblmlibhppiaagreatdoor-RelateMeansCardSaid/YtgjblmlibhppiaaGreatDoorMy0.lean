import Derived.ArgAppend
import Derived.Below
import Derived.BigQuiet
import Derived.Deep.CutBlock
import Derived.Deep.Draws
import Derived.Deep.Light
import Derived.Deep.QuietTactic
import Derived.Deep.RegionHeld3
import Derived.Deep.Slices
import Derived.Defers
import Derived.Handy
import Derived.IntWalk
import Derived.Laws.Pointers
import Derived.Lib.Hide
import Derived.Lib.SliceRun
import Derived.LoopTactic
import Derived.MapKept
import Derived.Maps.AppendAt
import Derived.Maps.OwnSet
import Derived.OpenShut
import Derived.OrdersHeld
import Derived.Outline
import Derived.OwnWalk
import Derived.ProofKit
import Derived.Recover
import Derived.Shelf.SlSortCmp.NoneTotal
import Derived.Shelf.SlSortCmp.WholeK
import Derived.SizedLaws
import Derived.Sort.Grow
import Derived.Sort.Walk0
import Derived.StringKeys
import Derived.Test.YtgjblmlibhppiaaGreatDoorProg
import Derived.WalkKit
import Derived.WalkLawsBesides
import Derived.WalkSmall
import Derived.WalkSpells
namespace Go.Proofs.YtgjblmlibhppiaaGreatDoor
set_option maxRecDepth 100000
set_option maxHeartbeats 64000000
open Go.RowKit
open Go
theorem Hd {p : Prop} (h : p) : RowKit.Hid p := Lib.hid h
theorem Ch {w : World} {b : Nat} {cs : Array Value} {T : TypeId} {f : Nat × Nat} (h : w.heap[b]? = some (.cells cs T f)) (i : Nat) : w.cell? ⟨b, i, none⟩ = cs[i]? := Lib.cell_of_heap h i
def Plan (_ : List Nat) (G : Prop) : Prop := G
theorem Plan.start {G : Prop} (plan : List Nat) (h : Plan plan G) : G := h
theorem Plan.done {G : Prop} (h : G) : Plan [] G := h
theorem Plan.take {P : Program} {md : Region.Mode} {ops : Array Oper} {Q : Exit → Act → World → Prop} {S : World → Prop} {plan : List Nat} {i : Nat} {oi : Oper} {v : Value} {fuel : Nat} {listed : Array Bool} {a : Act} {w : World} (hi : ops[i]? = some oi)
    (hs : Region.noSelect ops = true) (hf : Region.free md ops listed i = true) (hr : (Region.ready md ops listed).contains i = true)
    (hQ : ∀ c a w, Q (.panic c) (a.put oi.dst v) w → Q (.panic c) a w) (hy : YieldsIf P ops S oi v a) (hS : S w)
    (h : Plan plan (wpAnyH P md ops Q S fuel (listed.setIfInBounds i true) (a.put oi.dst v) w)) : Plan (i :: plan) (wpAnyH P md ops Q S (fuel + 1) listed a w) :=
  wpAnyH_take hi hs hf hr hQ hy hS h
theorem pz1 {α : Type} {l : List α} {i : Nat} {a : α} : l.toArray.setIfInBounds i a = (l.set i a).toArray := List.setIfInBounds_toArray _ _ _
theorem pz2 {α : Type} {x a : α} {l : List α} : (x :: l).set 0 a = a :: l := List.set_cons_zero
theorem pz3 {α : Type} {x a : α} {l : List α} {i : Nat} : (x :: l).set (i + 1) a = x :: l.set i a := List.set_cons_succ
theorem Plan.tk {P : Program} {md : Region.Mode} {ops : Array Oper} {Q : Exit → Act → World → Prop} {S : World → Prop} {plan : List Nat} {i : Nat} {oi : Oper} {v : Value} {fuel : Nat} {listed : Array Bool} {a : Act} {w : World} (hi : ops[i]? = some oi)
    (hS : S w) (h : Plan plan (wpAnyH P md ops Q S fuel (listed.setIfInBounds i true) (a.put oi.dst v) w))
    (hs : Region.noSelect ops = true := by kernel_rfl) (hf : Region.free md ops listed i = true := by kernel_rfl) (hr : (Region.ready md ops listed).contains i = true := by kernel_rfl)
    (hQ : ∀ c a w, Q (.panic c) (a.put oi.dst v) w → Q (.panic c) a w := by intro _ _ _ h; exact h) (hy : YieldsIf P ops S oi v a := by refine Or.inl ⟨by rfl, ?_⟩; (intro w' hSw; (try dsimp only at hSw); go_simp; try with_reducible rfl)) :
    Plan (i :: plan) (wpAnyH P md ops Q S (fuel + 1) listed a w) := wpAnyH_take hi hs hf hr hQ hy hS h
theorem so {x : Option Oper} {d o t p f g} (h : x = some { dst := d, op := o, type := t, pos := p, after := f, guard := g }) : x = some { dst := d, op := o, type := t, pos := p, after := f, guard := g } := h
theorem sd {x : Option Oper} (d) {o t p f g} (h : x = some { dst := d, op := o, type := t, pos := p, after := f, guard := g }) : x = some { dst := d, op := o, type := t, pos := p, after := f, guard := g } := h
theorem cz6 {W : World} {b : Nat} {T : TypeId} {x0 x1 x2 x3 x4 x5 : Value} (h : W.heap[b]? = some (.cells #[x0, x1, x2, x3, x4, x5] T (0, 0))) : W.cell? ⟨b, 0, none⟩ = some x0 ∧ W.cell? ⟨b, 1, none⟩ = some x1 ∧ W.cell? ⟨b, 2, none⟩ = some x2 ∧ W.cell? ⟨b, 3, none⟩ = some x3 ∧ W.cell? ⟨b, 4, none⟩ = some x4 ∧ W.cell? ⟨b, 5, none⟩ = some x5 := ⟨Lib.cell_of_heap h 0, Lib.cell_of_heap h 1, Lib.cell_of_heap h 2, Lib.cell_of_heap h 3, Lib.cell_of_heap h 4, Lib.cell_of_heap h 5⟩
theorem cz8 {W : World} {b : Nat} {T : TypeId} {x0 x1 x2 x3 x4 x5 x6 x7 : Value} (h : W.heap[b]? = some (.cells #[x0, x1, x2, x3, x4, x5, x6, x7] T (0, 0))) : W.cell? ⟨b, 0, none⟩ = some x0 ∧ W.cell? ⟨b, 1, none⟩ = some x1 ∧ W.cell? ⟨b, 2, none⟩ = some x2 ∧ W.cell? ⟨b, 3, none⟩ = some x3 ∧ W.cell? ⟨b, 4, none⟩ = some x4 ∧ W.cell? ⟨b, 5, none⟩ = some x5 ∧ W.cell? ⟨b, 6, none⟩ = some x6 ∧ W.cell? ⟨b, 7, none⟩ = some x7 := ⟨Lib.cell_of_heap h 0, Lib.cell_of_heap h 1, Lib.cell_of_heap h 2, Lib.cell_of_heap h 3, Lib.cell_of_heap h 4, Lib.cell_of_heap h 5, Lib.cell_of_heap h 6, Lib.cell_of_heap h 7⟩
theorem qz6 {W : World} {b : Nat} {T : TypeId} {x0 x1 x2 x3 x4 x5 : Value} (h : W.heap[b]? = some (.cells #[x0, x1, x2, x3, x4, x5] T (0, 0))) : W.cell? ⟨b, 0, none⟩ = some x0 ∧ W.cell? ⟨b, 1, none⟩ = some x1 ∧ W.cell? ⟨b, 2, none⟩ = some x2 ∧ W.cell? ⟨b, 3, none⟩ = some x3 ∧ W.cell? ⟨b, 4, none⟩ = some x4 ∧ W.cell? ⟨b, 5, none⟩ = some x5 ∧ W.frozen? ⟨b, 0, none⟩ = false ∧ W.frozen? ⟨b, 1, none⟩ = false ∧ W.frozen? ⟨b, 2, none⟩ = false ∧ W.frozen? ⟨b, 3, none⟩ = false ∧ W.frozen? ⟨b, 4, none⟩ = false ∧ W.frozen? ⟨b, 5, none⟩ = false := ⟨Lib.cell_of_heap h 0, Lib.cell_of_heap h 1, Lib.cell_of_heap h 2, Lib.cell_of_heap h 3, Lib.cell_of_heap h 4, Lib.cell_of_heap h 5, Lib.frozen_of_heap h 0, Lib.frozen_of_heap h 1, Lib.frozen_of_heap h 2, Lib.frozen_of_heap h 3, Lib.frozen_of_heap h 4, Lib.frozen_of_heap h 5⟩
theorem no4 {m n : Nat} (h : ¬ 0 < m) (h' : ¬ 0 < n) : decide ((0 : Int) < (m : Int)) = false ∧ decide (0 < m) = false ∧ decide ((0 : Int) < (n : Int)) = false ∧ decide (0 < n) = false :=
  ⟨decide_eq_false (by omega), decide_eq_false h, decide_eq_false (by omega), decide_eq_false h'⟩
inductive Ty where
 | mk (k : Int) (t : ByteArray) (n : Int) (ps : List Ty) (fs : List (ByteArray × Int × Ty)) (vs : List (ByteArray × List Ty))
abbrev FsT := List (ByteArray × Int × Ty)
abbrev VsT := List (ByteArray × List Ty)
def Ty.k : Ty → Int | .mk k _ _ _ _ _ => k
def Ty.t : Ty → ByteArray | .mk _ t _ _ _ _ => t
def Ty.n : Ty → Int | .mk _ _ n _ _ _ => n
def Ty.ps : Ty → List Ty | .mk _ _ _ ps _ _ => ps
def Ty.fs : Ty → List (ByteArray × Int × Ty) | .mk _ _ _ _ fs _ => fs
def Ty.vs : Ty → List (ByteArray × List Ty) | .mk _ _ _ _ _ vs => vs
theorem ty_lt_p {k t n ps fs vs} {p : Ty} (h : p ∈ ps) : SizeOf.sizeOf p < SizeOf.sizeOf (Ty.mk k t n ps fs vs) := by
 have := List.sizeOf_lt_of_mem h
 simp
 omega
theorem ty_lt_f {k t n ps fs vs} {f : ByteArray × Int × Ty} (h : f ∈ fs) : SizeOf.sizeOf f.2.2 < SizeOf.sizeOf (Ty.mk k t n ps fs vs) := by
 have := List.sizeOf_lt_of_mem h
 obtain ⟨a, b, c⟩ := f
 simp at this ⊢
 omega
theorem ty_lt_v {k t n ps fs vs} {v : ByteArray × List Ty} {b : Ty} (h : v ∈ vs) (h2 : b ∈ v.2) : SizeOf.sizeOf b < SizeOf.sizeOf (Ty.mk k t n ps fs vs) := by
 have h1 := List.sizeOf_lt_of_mem h
 have h3 := List.sizeOf_lt_of_mem h2
 obtain ⟨a, c⟩ := v
 simp at h1 h3 ⊢
 omega
theorem Ty.ind {C : Ty → Prop} (step : ∀ k t n ps fs vs, (∀ p ∈ ps, C p) → (∀ f ∈ fs, C f.2.2) → (∀ v ∈ vs, ∀ b ∈ v.2, C b) → C (.mk k t n ps fs vs)) (t : Ty) : C t := by
 have key : ∀ s (t : Ty), SizeOf.sizeOf t = s → C t := by
  intro s
  induction s using Nat.strongRecOn with
  | _ s ih =>
   intro t hs
   obtain ⟨k, t, n, ps, fs, vs⟩ := t
   exact step k t n ps fs vs (fun p hp => ih _ (hs ▸ ty_lt_p hp) p rfl) (fun f hf => ih _ (hs ▸ ty_lt_f hf) _ rfl) (fun v hv b hb => ih _ (hs ▸ ty_lt_v hv hb) b rfl)
 exact key _ t rfl
inductive Tok where
 | i (n : Int)
 | s (b : ByteArray)
def cmpB (a b : ByteArray) : Int := if a.data.toList < b.data.toList then -1 else if b.data.toList < a.data.toList then 1 else 0
def cmpZ (a b : Int) : Int := if a < b then -1 else if b < a then 1 else 0
def cmpTok : Tok → Tok → Int
 | .i a, .i b => cmpZ a b
 | .s a, .s b => cmpB a b
 | .i _, .s _ => -1
 | .s _, .i _ => 1
theorem tot_list {a b : List UInt8} (h1 : ¬ a < b) (h2 : ¬ b < a) : a = b := List.le_antisymm (List.not_lt.1 h2) (List.not_lt.1 h1)
theorem bytes_ext {a b : ByteArray} (h : a.data.toList = b.data.toList) : a = b := by
 cases a; cases b
 simp only [ByteArray.mk.injEq]
 exact Array.ext' h
theorem cmpB_zero {a b : ByteArray} (h : cmpB a b = 0) : a = b := by
 unfold cmpB at h
 split at h
 ·cases h
 ·split at h
  ·cases h
  ·rename_i h1 h2; exact bytes_ext (tot_list h1 h2)
theorem cmpB_self (a : ByteArray) : cmpB a a = 0 := by
 unfold cmpB
 rw [if_neg (List.lt_irrefl _), if_neg (List.lt_irrefl _)]
theorem cmpZ_zero {a b : Int} (h : cmpZ a b = 0) : a = b := by
 unfold cmpZ at h
 split at h
 ·cases h
 ·split at h
  ·cases h
  ·omega
theorem cmpZ_self (a : Int) : cmpZ a a = 0 := by unfold cmpZ; simp
theorem cmpZ_flip (a b : Int) : cmpZ b a = - cmpZ a b := by
 unfold cmpZ
 split <;> split <;> first | omega | rfl | (split <;> omega) | skip
theorem cmpB_flip (a b : ByteArray) : cmpB b a = - cmpB a b := by
 unfold cmpB
 by_cases h1 : a.data.toList < b.data.toList
 ·rw [if_pos h1, if_neg (fun h => List.lt_irrefl _ (List.lt_trans h h1))]; simp [h1]
 ·rw [if_neg h1]
  by_cases h2 : b.data.toList < a.data.toList
  ·rw [if_pos h2, if_neg h1, if_pos h2]
  ·rw [if_neg h2, if_neg h1, if_neg h2]; rfl
theorem cmpTok_flip : ∀ a b, cmpTok b a = - cmpTok a b
 | .i a, .i b => cmpZ_flip a b
 | .s a, .s b => cmpB_flip a b
 | .i _, .s _ => rfl
 | .s _, .i _ => rfl
theorem cmpTok_zero : ∀ {a b}, cmpTok a b = 0 → a = b
 | .i _, .i _, h => by rw [cmpZ_zero h]
 | .s _, .s _, h => by rw [cmpB_zero h]
 | .i _, .s _, h => by cases h
 | .s _, .i _, h => by cases h
theorem cmpTok_self : ∀ a, cmpTok a a = 0
 | .i a => cmpZ_self a
 | .s a => cmpB_self a
theorem cmpZ_bd (a b : Int) : cmpZ a b = -1 ∨ cmpZ a b = 0 ∨ cmpZ a b = 1 := by
 unfold cmpZ
 split
 ·exact .inl rfl
 ·split
  ·exact .inr (.inr rfl)
  ·exact .inr (.inl rfl)
theorem cmpB_bd (a b : ByteArray) : cmpB a b = -1 ∨ cmpB a b = 0 ∨ cmpB a b = 1 := by
 unfold cmpB
 split
 ·exact .inl rfl
 ·split
  ·exact .inr (.inr rfl)
  ·exact .inr (.inl rfl)
theorem cmpTok_bd : ∀ a b, cmpTok a b = -1 ∨ cmpTok a b = 0 ∨ cmpTok a b = 1
 | .i a, .i b => cmpZ_bd a b
 | .s a, .s b => cmpB_bd a b
 | .i _, .s _ => .inl rfl
 | .s _, .i _ => .inr (.inr rfl)
theorem cmpZ_lt {a b : Int} : cmpZ a b = -1 ↔ a < b := by
 unfold cmpZ
 split
 ·simp_all
 ·split <;> simp_all
theorem cmpB_lt {a b : ByteArray} : cmpB a b = -1 ↔ a.data.toList < b.data.toList := by
 unfold cmpB
 split
 ·simp_all
 ·split <;> simp_all
theorem cmpTok_trans : ∀ {a b c}, cmpTok a b = -1 → cmpTok b c = -1 → cmpTok a c = -1
 | .i _, .i _, .i _, h1, h2 => cmpZ_lt.2 (by have := cmpZ_lt.1 h1; have := cmpZ_lt.1 h2; omega)
 | .s _, .s _, .s _, h1, h2 => cmpB_lt.2 (List.lt_trans (cmpB_lt.1 h1) (cmpB_lt.1 h2))
 | .i _, _, .s _, _, _ => rfl
 | .i _, .s _, .i _, _, h2 => by cases h2
 | .s _, .i _, _, h1, _ => by cases h1
 | .s _, .s _, .i _, _, h2 => by cases h2
def lexC : List Tok → List Tok → Int
 | [], [] => 0
 | [], _ :: _ => -1
 | _ :: _, [] => 1
 | a :: x, b :: y => if cmpTok a b ≠ 0 then cmpTok a b else lexC x y
theorem lexC_self : ∀ x, lexC x x = 0
 | [] => rfl
 | a :: x => by rw [lexC, cmpTok_self, if_neg (by simp), lexC_self x]
theorem lexC_zero : ∀ {x y}, lexC x y = 0 → x = y
 | [], [], _ => rfl
 | [], _ :: _, h => by cases h
 | _ :: _, [], h => by cases h
 | a :: x, b :: y, h => by
  rw [lexC] at h
  split at h
  ·rename_i h1; exact absurd h h1
  ·rename_i h1
   rw [cmpTok_zero (Classical.byContradiction h1), lexC_zero h]
theorem lexC_flip : ∀ x y, lexC y x = - lexC x y
 | [], [] => rfl
 | [], _ :: _ => rfl
 | _ :: _, [] => rfl
 | a :: x, b :: y => by
  rw [lexC, lexC, cmpTok_flip a b, lexC_flip x y]
  by_cases h : cmpTok a b = 0
  ·rw [h]; simp
  ·rw [if_pos (by omega), if_pos h]
theorem lexC_bd : ∀ x y, lexC x y = -1 ∨ lexC x y = 0 ∨ lexC x y = 1
 | [], [] => .inr (.inl rfl)
 | [], _ :: _ => .inl rfl
 | _ :: _, [] => .inr (.inr rfl)
 | a :: x, b :: y => by
  rw [lexC]
  split
  ·exact cmpTok_bd a b
  ·exact lexC_bd x y
theorem lexC_trans : ∀ {x y z}, lexC x y = -1 → lexC y z = -1 → lexC x z = -1
 | [], _, _ :: _, _, _ => rfl
 | [], [], [], h, _ => by cases h
 | [], _ :: _, [], _, h => by cases h
 | _ :: _, [], _, h, _ => by cases h
 | _ :: _, _ :: _, [], _, h => by cases h
 | a :: x, b :: y, c :: z, h1, h2 => by
  rw [lexC] at h1 h2 ⊢
  by_cases e1 : cmpTok a b = 0
  ·rw [if_neg (by simpa using e1)] at h1
   have := cmpTok_zero e1
   subst this
   by_cases e2 : cmpTok a c = 0
   ·rw [if_neg (by simpa using e2)] at h2 ⊢
    exact lexC_trans h1 h2
   ·rw [if_pos e2] at h2 ⊢
    exact h2
  ·rw [if_pos e1] at h1
   by_cases e2 : cmpTok b c = 0
   ·have := cmpTok_zero e2
    subst this
    rw [if_pos e1]
    exact h1
   ·rw [if_pos e2] at h2
    have := cmpTok_trans h1 h2
    rw [if_pos (by rw [this]; decide)]
    exact this
def Clean (x y : List Tok) (c : Int) : Prop := ∀ r s, lexC (x ++ r) (y ++ s) = if c ≠ 0 then c else lexC r s
theorem Clean.nil : Clean [] [] 0 := fun r s => by simp
theorem Clean.tok (a b : Tok) : Clean [a] [b] (cmpTok a b) := fun r s => by simp [lexC]
theorem Clean.app {x y x' y' : List Tok} {c c' : Int} (h : Clean x y c) (h' : Clean x' y' c') : Clean (x ++ x') (y ++ y') (if c ≠ 0 then c else c') := fun r s => by
 rw [List.append_assoc, List.append_assoc, h, h']
 by_cases e : c = 0
 ·simp [e]
 ·simp [e]
theorem Clean.first {x y x' y' : List Tok} {c : Int} (h : Clean x y c) (hc : c ≠ 0) : Clean (x ++ x') (y ++ y') c := fun r s => by
 rw [List.append_assoc, List.append_assoc, h, if_pos hc, if_pos hc]
theorem Clean.val {x y : List Tok} {c : Int} (h : Clean x y c) : lexC x y = c := by
 have := h [] []
 rw [List.append_nil, List.append_nil] at this
 rw [this]
 by_cases e : c = 0
 ·simp [e, lexC]
 ·simp [e]
theorem Clean.to {x y : List Tok} {c c' : Int} (h : Clean x y c) (e : c = c') : Clean x y c' := e ▸ h
def flat : Ty → List Tok
 | .mk k t n ps fs vs => [.i k, .s t, .i n] ++ ((.i ps.length :: (ps.attach.map fun ⟨p, _⟩ => flat p).flatten) ++ ((.i fs.length :: (fs.attach.map fun ⟨f, _⟩ => [.s f.1, .i f.2.1] ++ flat f.2.2).flatten) ++ (.i vs.length :: (vs.attach.map fun ⟨v, _⟩ => .s v.1 :: .i v.2.length :: (v.2.attach.map fun ⟨b, _⟩ => flat b).flatten).flatten)))
termination_by t => SizeOf.sizeOf t
decreasing_by
 ·exact ty_lt_p ‹_›
 ·exact ty_lt_f ‹_›
 ·exact ty_lt_v ‹_› ‹_›
def flatL (l : List Ty) : List Tok := .i l.length :: (l.map flat).flatten
def flatF (l : List (ByteArray × Int × Ty)) : List Tok := .i l.length :: (l.map fun f => [.s f.1, .i f.2.1] ++ flat f.2.2).flatten
def flatV (l : List (ByteArray × List Ty)) : List Tok := .i l.length :: (l.map fun v => .s v.1 :: flatL v.2).flatten
theorem flat_mk (k t n ps fs vs) : flat (.mk k t n ps fs vs) = [.i k, .s t, .i n] ++ (flatL ps ++ (flatF fs ++ flatV vs)) := by
 rw [flat]
 unfold flatL flatF flatV flatL
 simp only [List.map_attach_eq_pmap, List.pmap_eq_map]
def ordT (a b : Ty) : Int := lexC (flat a) (flat b)
theorem wp_append_own_at {P : Program} {w : World} {o : Oper} {a : Act} {K : Act → World → Prop} {Q : Exit → Act → World → Prop} (s x : Operand) (t : TypeId)
  (ho : o.op = .call { callee := .builtin .append, args := #[s, x], argTypes := #[t, t] })
  (base : Nat) (e : TypeId) (i : TypeInfo) (z : Value) (size bytes : Nat) (ht : P.underlying t = some (.slice e)) (hi : P.info? e = some i) (hz : i.zero = some z)
  (hsize : i.size = size) (hby : i.bytes = bytes) (hzs : z.cells.size = size) (hsz : 0 < size)
  (v : Value) (n : Nat) (xs : List Value) (hs : a.eval s = v) (hown : w.ownsRow base e size v n xs)
  (ad : Addr) (m c : Nat) (news : List Value) (hx : a.eval x = .slice (some ad) m c) (hl : news.length = m * size) (hnews : ∀ j u, news[j]? = some u → w.cell? (ad.add j) = some u) (h1 : ∀ u ∈ news, u.oneCell' = true)
  (h63 : n + m ≤ maxLen) (hbytes : (n + m) * bytes ≤ 140737488355328) (hbase : base ≤ w.heap.size)
  (h : ∀ v' w', w'.ownsRow base e size v' (n + m) (xs ++ news) → w.grownBy w' v.ownBlock → (v' = .slice none 0 0 ↔ v = .slice none 0 0 ∧ m = 0) → (v'.ownBlock = v.ownBlock ∨ v'.ownBlock = some w.heap.size) → K (a.put o.dst v') w') :
  Oper.wp P o a w K Q := by
 obtain ⟨v', w', hr, h2, h3, h4, h5⟩ := run_append_own_at (P := P) w base t o.type e i z size bytes ht hi hz hsize hby hzs hsz v n xs hown ad m c news hl hnews h1 h63 hbytes hbase
 unfold Oper.wp execOp
 simp only [ho, resolve, invoke, builtin, Sem.run_bind, Sem.run_pure, Result.andThen_ok, List.map_toArray, List.map_cons, List.map_nil, hs, hx, hr]
 exact h v' w' h2 h3 h4 h5
open Go.RowKit Go.Maps Go.ChangeMaps
theorem list_inj {a b : ByteArray} (h : a.data.toList = b.data.toList) : a = b := by
 cases a; cases b
 simp only [ByteArray.mk.injEq]
 exact Array.ext' h
structure MK (P : Program) (α : Type) where
 T : TypeId
 S : TypeId
 E : TypeId
 val : α → Value
 dat : α → DataW Unit
 zero : α
 R : Value → Option (DataW Unit × List MemPlace)
 hR : ∀ a, R (val a) = some (dat a, [])
 inv : ∀ {v a ps}, R v = some (dat a, ps) → v = val a
 hS : P.underlying S = some .string
 hT : P.underlying T = some (.map S E)
 hz : ∀ W, (zeroValue E).run P W = .ok (val zero) W
def keyL (s : ByteArray) : Lit := .string s.data.toList
section
variable {P : Program} {α : Type}
theorem MK.key (M : MK P α) (s : ByteArray) (hs : s.size ≤ maxLen) : keyOf P M.S (.string s) = some (keyL s) := Go.WideMaps.keyOf_string_mk M.hS hs
def findL (L : List (ByteArray × α)) (s : ByteArray) : Option α := (L.find? fun f => (keyL f.1).sameKey (keyL s)).map (·.2)
def MK.datL (M : MK P α) (L : List (ByteArray × α)) : DataW Unit := .map (L.map fun f => (keyL f.1, M.dat f.2))
def MapIs (M : MK P α) (W : World) (b n : Nat) (F : ByteArray → Option α) : Prop := ∃ L : List (ByteArray × α), W.ownsMap P M.S M.R b L.length (M.datL L) ∧ L.length ≤ n ∧ ∀ s, findL L s = F s
theorem same_key (a b : ByteArray) : (keyL a).sameKey (keyL b) = decide (a = b) := by
 unfold keyL Lit.sameKey
 rw [Bool.eq_iff_iff]
 simp only [beq_iff_eq, decide_eq_true_eq]
 exact ⟨list_inj, fun e => by rw [e]⟩
theorem findL_cons (f : ByteArray × α) (L : List (ByteArray × α)) (s : ByteArray) : findL (f :: L) s = if f.1 = s then some f.2 else findL L s := by
 unfold findL
 rw [List.find?_cons, same_key]
 by_cases h : f.1 = s <;> simp [h]
theorem has_datL (M : MK P α) (L : List (ByteArray × α)) (s : ByteArray) : has (M.datL L) (keyL s) = (findL L s).isSome := by
 unfold MK.datL findL
 rw [has_eq]
 induction L with
 | nil => rfl
 | cons f L ih =>
  rw [List.map_cons, List.any_cons, List.find?_cons]
  cases h : (keyL f.1).sameKey (keyL s) with
  | true => simp
  | false => simpa using ih
theorem at_datL (M : MK P α) (L : List (ByteArray × α)) (s : ByteArray) : (M.datL L).atKey (keyL s) (M.dat M.zero) = M.dat ((findL L s).getD M.zero) := by
 unfold MK.datL findL DataW.atKey
 simp only
 induction L with
 | nil => rfl
 | cons f L ih =>
  rw [List.map_cons, List.find?_cons, List.find?_cons]
  cases h : (keyL f.1).sameKey (keyL s) with
  | true => simp
  | false => simpa using ih
def lessL (L : List (ByteArray × α)) (s : ByteArray) : List (ByteArray × α) := L.filter fun f => !(keyL f.1).sameKey (keyL s)
theorem del_datL (M : MK P α) (L : List (ByteArray × α)) (s : ByteArray) : (M.datL L).del (keyL s) = M.datL (lessL L s) := by
 unfold MK.datL lessL DataW.del
 simp only [DataW.map.injEq]
 induction L with
 | nil => rfl
 | cons f L ih =>
  rw [List.map_cons, List.filter_cons, List.filter_cons]
  cases h : (!(keyL f.1).sameKey (keyL s)) with
  | true => simpa using ih
  | false => simpa using ih
def insL (f : ByteArray × α) : List (ByteArray × α) → List (ByteArray × α)
 | [] => [f]
 | g :: r => if (keyL f.1).before (keyL g.1) then f :: g :: r else g :: insL f r
theorem ins_datL (M : MK P α) (f : ByteArray × α) : ∀ L : List (ByteArray × α), DataW.insert (keyL f.1, M.dat f.2) (L.map fun f => (keyL f.1, M.dat f.2)) = (insL f L).map fun f => (keyL f.1, M.dat f.2)
 | [] => rfl
 | g :: r => by
  rw [List.map_cons, DataW.insert, insL]
  by_cases h : (keyL f.1).before (keyL g.1) = true
  ·rw [if_pos h, if_pos h]; rfl
  ·rw [if_neg h, if_neg h, ins_datL M f r]; rfl
theorem put_datL (M : MK P α) (L : List (ByteArray × α)) (f : ByteArray × α) : (M.datL L).put (keyL f.1) (M.dat f.2) = M.datL (insL f (lessL L f.1)) := by
 have h := del_datL M L f.1
 unfold MK.datL DataW.del at h
 simp only [DataW.map.injEq] at h
 unfold MK.datL DataW.put
 simp only [DataW.map.injEq]
 rw [h]
 exact ins_datL M f _
theorem find_less (L : List (ByteArray × α)) (k s : ByteArray) : findL (lessL L k) s = if k = s then none else findL L s := by
 induction L with
 | nil => simp [lessL, findL]
 | cons f L ih =>
  unfold lessL at ih ⊢
  rw [List.filter_cons, same_key]
  by_cases h : f.1 = k
  ·simp only [h, decide_true, Bool.not_true, Bool.false_eq_true, if_false]
   rw [ih, findL_cons, h]
   split <;> rfl
  ·simp only [h, decide_false, Bool.not_false, if_true]
   rw [findL_cons, ih, findL_cons]
   by_cases h1 : f.1 = s
   ·rw [if_pos h1, if_pos h1, if_neg (fun e => h (h1.trans e.symm))]
   ·rw [if_neg h1, if_neg h1]
theorem find_insL (f : ByteArray × α) (s : ByteArray) : ∀ L : List (ByteArray × α), findL L f.1 = none → findL (insL f L) s = if f.1 = s then some f.2 else findL L s
 | [], _ => by rw [insL, findL_cons]
 | g :: r, h => by
  rw [findL_cons] at h
  by_cases hg : g.1 = f.1
  ·rw [if_pos hg] at h; cases h
  rw [if_neg hg] at h
  rw [insL]
  split
  ·rw [findL_cons]
  ·rw [findL_cons, find_insL f s r h, findL_cons]
   by_cases h1 : g.1 = s
   ·rw [if_pos h1, if_pos h1, if_neg (fun e => hg (h1.trans e.symm))]
   ·rw [if_neg h1, if_neg h1]
theorem insL_len (f : ByteArray × α) : ∀ L : List (ByteArray × α), (insL f L).length = L.length + 1
 | [] => rfl
 | g :: r => by rw [insL]; split <;> simp [insL_len f r]
theorem lessL_len (L : List (ByteArray × α)) (k : ByteArray) : (lessL L k).length ≤ L.length := List.length_filter_le _ _
theorem own_fit {W : World} {S : TypeId} {R : Value → Option (DataW Unit × List MemPlace)} {b n : Nat} {D : DataW Unit} (h : W.ownsMap P S R b n D) : W.ownsMap P S R b (size D) D := by
 obtain ⟨es, clock, hb, F, _, rfl⟩ := h
 exact ⟨es, clock, hb, F, by simp [size, length_sorted], rfl⟩
theorem size_datL (M : MK P α) (L : List (ByteArray × α)) : size (M.datL L) = L.length := by simp [MK.datL, size]
theorem MapIs.look2 {M : MK P α} {W : World} {b n : Nat} {F : ByteArray → Option α} (h : MapIs M W b n F) (s : ByteArray) (hs : s.size ≤ maxLen) : (Instr.lookup M.T (.map (some b)) (.string s) true).run P W = .ok (.tuple #[M.val ((F s).getD M.zero), .bool (F s).isSome]) W := by
 obtain ⟨L, h, _, hF⟩ := h
 obtain ⟨v, ps, hrun, hv⟩ := World.ownsMap.look_ok h (string_keyed M.hS) M.hT (M.hz W) (zd := M.dat M.zero) (zp := []) (M.hR _) (M.key s hs)
 rw [at_datL] at hv
 rw [M.inv hv, has_datL, hF] at hrun
 exact hrun
def updF (F : ByteArray → Option α) (s : ByteArray) (a : α) : ByteArray → Option α := fun x => if s = x then some a else F x
theorem MapIs.new (M : MK P α) (W : World) : MapIs M (W.alloc (.map #[] 0)) W.heap.size 0 (fun _ => none) := ⟨[], World.ownsMap_made W P M.S M.R, Nat.le_refl _, fun _ => rfl⟩
theorem MapIs.lt {M : MK P α} {W : World} {b n : Nat} {F : ByteArray → Option α} (h : MapIs M W b n F) : b < W.heap.size := by
 obtain ⟨L, h, _, _⟩ := h
 exact World.ownsMap.lt h
theorem MapIs.keep {M : MK P α} {W W' : World} {b n : Nat} {F : ByteArray → Option α} (h : MapIs M W b n F) (hb : W'.heap[b]? = W.heap[b]?) : MapIs M W' b n F := by
 obtain ⟨L, ⟨es, clock, h1, F', hs, e⟩, hL, hF⟩ := h
 exact ⟨L, ⟨es, clock, hb.trans h1, F', hs, e⟩, hL, hF⟩
theorem MapIs.later {M : MK P α} {W W' : World} {b n : Nat} {F : ByteArray → Option α} (h : MapIs M W b n F) (hb : Below W.heap.size W W') : MapIs M W' b n F := h.keep (hb.block b h.lt)
end
open Go
structure OpsD (P : Program) (ops : Array Oper) (Q : Exit → Act → List Frame → World → Prop) (l : List Nat) (a : Act) (cs : List Frame) (w : World) : Prop where
 out : wpOpsS P ops Q l a cs w
structure RunD (P : Program) (o : Oper) (a : Act) (w : World) (v : Next) (w' : World) : Prop where
 out : (execOp a.eval o).run P w = .ok v w'
theorem OpsD.val {P : Program} {ops : Array Oper} {Q : Exit → Act → List Frame → World → Prop} {i : Nat} {rest : List Nat} {a : Act} {cs : List Frame} {w w' : World} {o : Oper} {v : Value} (ho : ops[i]? = some o) (hw : Region.wanted o (yielded ops a.tmps) = true)
  (hr : RunD P o a w (.value v) w') (h : OpsD P ops Q rest (a.put o.dst v) cs w') : OpsD P ops Q (i :: rest) a cs w := by
 refine ⟨?_⟩
 simp only [wpOpsS, ho, hw, if_true, hr.out, Oper.upon]
 exact h.out
theorem OpsD.skip {P : Program} {ops : Array Oper} {Q : Exit → Act → List Frame → World → Prop} {i : Nat} {rest : List Nat} {a : Act} {cs : List Frame} {w w' : World} {o : Oper} (ho : ops[i]? = some o) (hw : Region.wanted o (yielded ops a.tmps) = true)
  (hr : RunD P o a w .skip w') (h : OpsD P ops Q rest (a.put o.dst undef) cs w') : OpsD P ops Q (i :: rest) a cs w := by
 refine ⟨?_⟩
 simp only [wpOpsS, ho, hw, if_true, hr.out, Oper.upon]
 exact h.out
theorem OpsD.recd {P : Program} {ops : Array Oper} {Q : Exit → Act → List Frame → World → Prop} {i : Nat} {rest : List Nat} {a : Act} {cs cs' : List Frame} {w w' : World} {o : Oper} {v : Value} (ho : ops[i]? = some o) (hw : Region.wanted o (yielded ops a.tmps) = true) (hc : recoverD cs = some (v, cs'))
  (hr : RunD P o a w .recover w') (h : OpsD P ops Q rest (a.put o.dst v) cs' w') : OpsD P ops Q (i :: rest) a cs w := by
 refine ⟨?_⟩
 simp only [wpOpsS, ho, hw, if_true, hr.out, hc]
 exact h.out
theorem OpsD.idle {P : Program} {ops : Array Oper} {Q : Exit → Act → List Frame → World → Prop} {i : Nat} {rest : List Nat} {a : Act} {cs : List Frame} {w w' : World} {o : Oper} (ho : ops[i]? = some o) (hw : Region.wanted o (yielded ops a.tmps) = true) (hc : recoverD cs = none)
  (hr : RunD P o a w .recover w') (h : OpsD P ops Q rest (a.put o.dst .nilIface) cs w') : OpsD P ops Q (i :: rest) a cs w := by
 refine ⟨?_⟩
 simp only [wpOpsS, ho, hw, if_true, hr.out, hc]
 exact h.out
theorem OpsD.nil {P : Program} {ops : Array Oper} {Q : Exit → Act → List Frame → World → Prop} {a : Act} {cs : List Frame} {w : World} (h : Q .normal a cs w) : OpsD P ops Q [] a cs w := ⟨h⟩
def plnT (s t : Ty) : Bool := t.k == 3 || t.k == 2 || s.k == 1 || decide (ordT s t = 0)
theorem cell_stays {w w' : World} {p : Addr} {v : Value} (hb : Below w.heap.size w w') (h : w.cell? p = some v) : w'.cell? p = some v :=
 (hb.cell (World.block_lt_of_cell? _ _ h)).trans h
theorem below_then {w a b : World} (h : Below w.heap.size w a) (h' : Below a.heap.size a b) : Below w.heap.size w b := h.trans (h'.mono h.size)
def cells6T (k : Int) (t : ByteArray) (n : Int) (A : Option Addr) (l c : Nat) (A' : Option Addr) (l' c' : Nat) (A'' : Option Addr) (l'' c'' : Nat) : List Value :=
 [.int .i64 k, .string t, .int .i64 n, .slice A l c, .slice A' l' c', .slice A'' l'' c'']
structure RowAt (K : Nat → Prop) (A : Option Addr) (l c b o : Nat) : Prop where
 le : l ≤ c
 big : l ≤ 1000000000000000
 none : A = none → c = 0
 some : 0 < l → A = some ⟨b, o, Option.none⟩ ∧ K b
inductive RepT (K : Nat → Prop) (w : World) : Ty → List Value → Prop
 | mk (k : Int) (t : ByteArray) (n : Int) (ps : List Ty) (fs : List (ByteArray × Int × Ty)) (vs : List (ByteArray × List Ty)) (A : Option Addr) (c : Nat) (A' : Option Addr) (c' : Nat) (A'' : Option Addr) (c'' : Nat)
   (pb po fb fo vb vo : Nat) (pc fc : Nat → List Value) (bA : Nat → Option Addr) (bc bb bo : Nat → Nat) (bcs : Nat → Nat → List Value)
   (ht : t.size ≤ 1000000000000000) (hA : RowAt K A ps.length c pb po) (hA' : RowAt K A' fs.length c' fb fo) (hA'' : RowAt K A'' vs.length c'' vb vo)
   (pcell : ∀ i, i < ps.length → ∀ j u, (pc i)[j]? = some u → w.cell? ⟨pb, po + i * 6 + j, none⟩ = some u)
   (prep : ∀ i (h : i < ps.length), RepT K w ps[i] (pc i))
   (fcell : ∀ i (h : i < fs.length), w.cell? ⟨fb, fo + i * 8, none⟩ = some (.string fs[i].1) ∧ w.cell? ⟨fb, fo + i * 8 + 1, none⟩ = some (.int .i64 fs[i].2.1) ∧ fs[i].1.size ≤ 1000000000000000 ∧ ∀ j u, (fc i)[j]? = some u → w.cell? ⟨fb, fo + i * 8 + 2 + j, none⟩ = some u)
   (frep : ∀ i (h : i < fs.length), RepT K w fs[i].2.2 (fc i))
   (vcell : ∀ i (h : i < vs.length), w.cell? ⟨vb, vo + i * 2, none⟩ = some (.string vs[i].1) ∧ w.cell? ⟨vb, vo + i * 2 + 1, none⟩ = some (.slice (bA i) vs[i].2.length (bc i)) ∧ vs[i].1.size ≤ 1000000000000000 ∧ RowAt K (bA i) vs[i].2.length (bc i) (bb i) (bo i))
   (bcell : ∀ i (h : i < vs.length) j, j < vs[i].2.length → ∀ x u, (bcs i j)[x]? = some u → w.cell? ⟨bb i, bo i + j * 6 + x, none⟩ = some u)
   (brep : ∀ i (h : i < vs.length) j (h' : j < vs[i].2.length), RepT K w vs[i].2[j] (bcs i j)) :
   RepT K w (.mk k t n ps fs vs) (cells6T k t n A ps.length c A' fs.length c' A'' vs.length c'')
def AtT (K : Nat → Prop) (w : World) (t : Ty) (b o : Nat) : Prop := ∃ cs, (∀ j u, cs[j]? = some u → w.cell? ⟨b, o + j, none⟩ = some u) ∧ RepT K w t cs
structure ListT (K : Nat → Prop) (w : World) (l : List Ty) (A : Option Addr) (c : Nat) : Prop where
 ex : ∃ b o, RowAt K A l.length c b o ∧ ∀ i (h : i < l.length), AtT K w l[i] b (o + i * 6)
structure ListF (K : Nat → Prop) (w : World) (l : List (ByteArray × Int × Ty)) (A : Option Addr) (c : Nat) : Prop where
 ex : ∃ b o, RowAt K A l.length c b o ∧ ∀ i (h : i < l.length), w.cell? ⟨b, o + i * 8, none⟩ = some (.string l[i].1) ∧ w.cell? ⟨b, o + i * 8 + 1, none⟩ = some (.int .i64 l[i].2.1) ∧ l[i].1.size ≤ 1000000000000000 ∧ AtT K w l[i].2.2 b (o + i * 8 + 2)
structure ListV (K : Nat → Prop) (w : World) (l : List (ByteArray × List Ty)) (A : Option Addr) (c : Nat) : Prop where
 ex : ∃ b o, RowAt K A l.length c b o ∧ ∀ i (h : i < l.length), ∃ B d, w.cell? ⟨b, o + i * 2, none⟩ = some (.string l[i].1) ∧ w.cell? ⟨b, o + i * 2 + 1, none⟩ = some (.slice B l[i].2.length d) ∧ l[i].1.size ≤ 1000000000000000 ∧ ListT K w l[i].2 B d
theorem RepT.inv {K : Nat → Prop} {w : World} {k : Int} {t : ByteArray} {n : Int} {ps : List Ty} {fs : List (ByteArray × Int × Ty)} {vs : List (ByteArray × List Ty)} {cs : List Value} (h : RepT K w (.mk k t n ps fs vs) cs) :
  ∃ A c A' c' A'' c'', cs = cells6T k t n A ps.length c A' fs.length c' A'' vs.length c'' ∧ t.size ≤ 1000000000000000 ∧ ListT K w ps A c ∧ ListF K w fs A' c' ∧ ListV K w vs A'' c'' := by
 cases h with
 | mk _ _ _ _ _ _ A c A' c' A'' c'' pb po fb fo vb vo pc fc bA bc bb bo bcs ht hA hA' hA'' pcell prep fcell frep vcell bcell brep =>
  exact ⟨A, c, A', c', A'', c'', rfl, ht, ⟨pb, po, hA, fun i h => ⟨pc i, pcell i h, prep i h⟩⟩, ⟨fb, fo, hA', fun i h => ⟨(fcell i h).1, (fcell i h).2.1, (fcell i h).2.2.1, fc i, (fcell i h).2.2.2, frep i h⟩⟩, ⟨vb, vo, hA'', fun i h => ⟨bA i, bc i, (vcell i h).1, (vcell i h).2.1, (vcell i h).2.2.1, ⟨bb i, bo i, (vcell i h).2.2.2, fun j h' => ⟨bcs i j, bcell i h j h', brep i h j h'⟩⟩⟩⟩⟩
theorem RepT.of {K : Nat → Prop} {w : World} {k : Int} {t : ByteArray} {n : Int} {ps : List Ty} {fs : List (ByteArray × Int × Ty)} {vs : List (ByteArray × List Ty)} {A : Option Addr} {c : Nat} {A' : Option Addr} {c' : Nat} {A'' : Option Addr} {c'' : Nat} (ht : t.size ≤ 1000000000000000) (hp : ListT K w ps A c) (hf : ListF K w fs A' c') (hv : ListV K w vs A'' c'') :
  RepT K w (.mk k t n ps fs vs) (cells6T k t n A ps.length c A' fs.length c' A'' vs.length c'') := by
 classical
 obtain ⟨pb, po, hA, hp⟩ := hp
 obtain ⟨fb, fo, hA', hf⟩ := hf
 obtain ⟨vb, vo, hA'', hv⟩ := hv
 have hp' : ∃ pc : Nat → List Value, ∀ i (h : i < ps.length), (∀ j u, (pc i)[j]? = some u → w.cell? ⟨pb, po + i * 6 + j, none⟩ = some u) ∧ RepT K w ps[i] (pc i) :=
  ⟨fun i => if h : i < ps.length then (hp i h).choose else [], fun i h => by simp only [dif_pos h]; exact (hp i h).choose_spec⟩
 obtain ⟨pc, hpc⟩ := hp'
 have hf' : ∃ fc : Nat → List Value, ∀ i (h : i < fs.length), (∀ j u, (fc i)[j]? = some u → w.cell? ⟨fb, fo + i * 8 + 2 + j, none⟩ = some u) ∧ RepT K w fs[i].2.2 (fc i) :=
  ⟨fun i => if h : i < fs.length then (hf i h).2.2.2.choose else [], fun i h => by simp only [dif_pos h]; exact (hf i h).2.2.2.choose_spec⟩
 obtain ⟨fc, hfc⟩ := hf'
 have hv' : ∃ (bA : Nat → Option Addr) (bc bb bo : Nat → Nat) (bcs : Nat → Nat → List Value), ∀ i (h : i < vs.length), w.cell? ⟨vb, vo + i * 2, none⟩ = some (.string vs[i].1) ∧ w.cell? ⟨vb, vo + i * 2 + 1, none⟩ = some (.slice (bA i) vs[i].2.length (bc i)) ∧ vs[i].1.size ≤ 1000000000000000 ∧ RowAt K (bA i) vs[i].2.length (bc i) (bb i) (bo i) ∧ ∀ j (h' : j < vs[i].2.length), (∀ x u, (bcs i j)[x]? = some u → w.cell? ⟨bb i, bo i + j * 6 + x, none⟩ = some u) ∧ RepT K w vs[i].2[j] (bcs i j) := by
  have one : ∀ i (h : i < vs.length), ∃ (q : Option Addr × Nat × Nat × Nat × (Nat → List Value)), w.cell? ⟨vb, vo + i * 2, none⟩ = some (.string vs[i].1) ∧ w.cell? ⟨vb, vo + i * 2 + 1, none⟩ = some (.slice q.1 vs[i].2.length q.2.1) ∧ vs[i].1.size ≤ 1000000000000000 ∧ RowAt K q.1 vs[i].2.length q.2.1 q.2.2.1 q.2.2.2.1 ∧ ∀ j (h' : j < vs[i].2.length), (∀ x u, (q.2.2.2.2 j)[x]? = some u → w.cell? ⟨q.2.2.1, q.2.2.2.1 + j * 6 + x, none⟩ = some u) ∧ RepT K w vs[i].2[j] (q.2.2.2.2 j) := by
   intro i h
   obtain ⟨B, d, h1, h2, h3, ⟨b, o, h4, h5⟩⟩ := hv i h
   exact ⟨⟨B, d, b, o, fun j => if h' : j < vs[i].2.length then (h5 j h').choose else []⟩, h1, h2, h3, h4, fun j h' => by simp only [dif_pos h']; exact (h5 j h').choose_spec⟩
  exact ⟨fun i => if h : i < vs.length then (one i h).choose.1 else none, fun i => if h : i < vs.length then (one i h).choose.2.1 else 0, fun i => if h : i < vs.length then (one i h).choose.2.2.1 else 0, fun i => if h : i < vs.length then (one i h).choose.2.2.2.1 else 0, fun i => if h : i < vs.length then (one i h).choose.2.2.2.2 else fun _ => [], fun i h => by simp only [dif_pos h]; exact (one i h).choose_spec⟩
 obtain ⟨bA, bc, bb, bo, bcs, hvc⟩ := hv'
 exact RepT.mk k t n ps fs vs A c A' c' A'' c'' pb po fb fo vb vo pc fc bA bc bb bo bcs ht hA hA' hA'' (fun i h => (hpc i h).1) (fun i h => (hpc i h).2) (fun i h => ⟨(hf i h).1, (hf i h).2.1, (hf i h).2.2.1, (hfc i h).1⟩) (fun i h => (hfc i h).2)
  (fun i h => ⟨(hvc i h).1, (hvc i h).2.1, (hvc i h).2.2.1, (hvc i h).2.2.2.1⟩) (fun i h j h' => ((hvc i h).2.2.2.2 j h').1) (fun i h j h' => ((hvc i h).2.2.2.2 j h').2)
theorem RowAt.weak {K K' : Nat → Prop} (hk : ∀ b, K b → K' b) {A : Option Addr} {l c b o : Nat} (h : RowAt K A l c b o) : RowAt K' A l c b o := ⟨h.le, h.big, h.none, fun hl => ⟨(h.some hl).1, hk _ (h.some hl).2⟩⟩
theorem RepT.keep {K K' : Nat → Prop} {w w' : World} (hK : ∀ b, K b → K' b) (hk : ∀ b o v, K b → w.cell? ⟨b, o, none⟩ = some v → w'.cell? ⟨b, o, none⟩ = some v) (t : Ty) : ∀ cs, RepT K w t cs → RepT K' w' t cs := by
 refine Ty.ind (C := fun t => ∀ cs, RepT K w t cs → RepT K' w' t cs) ?_ t
 intro k t n ps fs vs ihp ihf ihv cs h
 obtain ⟨A, c, A', c', A'', c'', rfl, ht, ⟨pb, po, hA, hp⟩, ⟨fb, fo, hA', hf⟩, ⟨vb, vo, hA'', hv⟩⟩ := h.inv
 refine RepT.of ht ⟨pb, po, hA.weak hK, fun i h => ?_⟩ ⟨fb, fo, hA'.weak hK, fun i h => ?_⟩ ⟨vb, vo, hA''.weak hK, fun i h => ?_⟩
 ·obtain ⟨cs, h1, h2⟩ := hp i h
  have hb := (hA.some (by omega)).2
  exact ⟨cs, fun j u hj => hk _ _ _ hb (h1 j u hj), ihp _ (List.getElem_mem h) cs h2⟩
 ·obtain ⟨h1, h2, h3, cs, h4, h5⟩ := hf i h
  have hb := (hA'.some (by omega)).2
  exact ⟨hk _ _ _ hb h1, hk _ _ _ hb h2, h3, cs, fun j u hj => hk _ _ _ hb (h4 j u hj), ihf _ (List.getElem_mem h) cs h5⟩
 ·obtain ⟨B, d, h1, h2, h3, ⟨b, o, h4, h5⟩⟩ := hv i h
  have hb := (hA''.some (by omega)).2
  refine ⟨B, d, hk _ _ _ hb h1, hk _ _ _ hb h2, h3, ⟨b, o, h4.weak hK, fun j h' => ?_⟩⟩
  obtain ⟨cs, h6, h7⟩ := h5 j h'
  have hb := (h4.some (by omega)).2
  exact ⟨cs, fun x u hx => hk _ _ _ hb (h6 x u hx), ihv _ (List.getElem_mem h) _ (List.getElem_mem h') cs h7⟩
theorem AtT.keep {K K' : Nat → Prop} {w w' : World} {t : Ty} {b o : Nat} (h : AtT K w t b o) (hK : ∀ b, K b → K' b) (hk : ∀ b o v, K b → w.cell? ⟨b, o, none⟩ = some v → w'.cell? ⟨b, o, none⟩ = some v) (hb : ∀ o v, w.cell? ⟨b, o, none⟩ = some v → w'.cell? ⟨b, o, none⟩ = some v) : AtT K' w' t b o := by
 obtain ⟨cs, h1, h2⟩ := h
 exact ⟨cs, fun j u hj => hb _ _ (h1 j u hj), RepT.keep hK hk t cs h2⟩
theorem RepT.later {K : Nat → Prop} {w w' : World} {t : Ty} {cs : List Value} (h : RepT K w t cs) (hb : Below w.heap.size w w') : RepT K w' t cs := RepT.keep (fun _ h => h) (fun _ _ _ _ h => cell_stays hb h) t cs h
theorem AtT.later {K : Nat → Prop} {w w' : World} {t : Ty} {b o : Nat} (h : AtT K w t b o) (hb : Below w.heap.size w w') : AtT K w' t b o := h.keep (fun _ h => h) (fun _ _ _ _ h => cell_stays hb h) (fun _ _ h => cell_stays hb h)
theorem ListT.later {K : Nat → Prop} {w w' : World} {l : List Ty} {A : Option Addr} {c : Nat} (h : ListT K w l A c) (hb : Below w.heap.size w w') : ListT K w' l A c := by
 obtain ⟨b, o, h1, h2⟩ := h
 exact ⟨b, o, h1, fun i hi => (h2 i hi).later hb⟩
theorem ListF.later {K : Nat → Prop} {w w' : World} {l : List (ByteArray × Int × Ty)} {A : Option Addr} {c : Nat} (h : ListF K w l A c) (hb : Below w.heap.size w w') : ListF K w' l A c := by
 obtain ⟨b, o, h1, h2⟩ := h
 exact ⟨b, o, h1, fun i hi => ⟨cell_stays hb (h2 i hi).1, cell_stays hb (h2 i hi).2.1, (h2 i hi).2.2.1, (h2 i hi).2.2.2.later hb⟩⟩
theorem ListV.later {K : Nat → Prop} {w w' : World} {l : List (ByteArray × List Ty)} {A : Option Addr} {c : Nat} (h : ListV K w l A c) (hb : Below w.heap.size w w') : ListV K w' l A c := by
 obtain ⟨b, o, h1, h2⟩ := h
 refine ⟨b, o, h1, fun i hi => ?_⟩
 obtain ⟨B, d, h3, h4, h5, h6⟩ := h2 i hi
 exact ⟨B, d, cell_stays hb h3, cell_stays hb h4, h5, h6.later hb⟩
theorem AtT.six {K : Nat → Prop} {w : World} {k : Int} {t : ByteArray} {n : Int} {ps : List Ty} {fs : List (ByteArray × Int × Ty)} {vs : List (ByteArray × List Ty)} {b o : Nat} (h : AtT K w (.mk k t n ps fs vs) b o) :
  ∃ A c A' c' A'' c'', (w.cell? ⟨b, o, none⟩ = some (.int .i64 k) ∧ w.cell? ⟨b, o + 1, none⟩ = some (.string t) ∧ w.cell? ⟨b, o + 2, none⟩ = some (.int .i64 n) ∧ w.cell? ⟨b, o + 3, none⟩ = some (.slice A ps.length c) ∧ w.cell? ⟨b, o + 4, none⟩ = some (.slice A' fs.length c') ∧ w.cell? ⟨b, o + 5, none⟩ = some (.slice A'' vs.length c'')) ∧ t.size ≤ 1000000000000000 ∧ ListT K w ps A c ∧ ListF K w fs A' c' ∧ ListV K w vs A'' c'' := by
 obtain ⟨cs, h1, h2⟩ := h
 obtain ⟨A, c, A', c', A'', c'', rfl, h3⟩ := h2.inv
 exact ⟨A, c, A', c', A'', c'', ⟨h1 0 _ rfl, h1 1 _ rfl, h1 2 _ rfl, h1 3 _ rfl, h1 4 _ rfl, h1 5 _ rfl⟩, h3⟩
theorem AtT.box {K : Nat → Prop} {w : World} {t : Ty} {cs : List Value} (T : TypeId) (h : RepT K w t cs) : AtT K (w.alloc (.cells cs.toArray T)) t w.heap.size 0 := by
 refine ⟨cs, fun j u hj => ?_, h.later ((Below.refl _ _).alloc (Nat.le_refl _) _)⟩
 rw [cell_of_row _ _ _ _ _ _ (heap_alloc_new w _), Nat.zero_add]
 simpa using hj
theorem ListT.at {K : Nat → Prop} {w : World} {l : List Ty} {A : Option Addr} {c : Nat} (h : ListT K w l A c) (h0 : 0 < l.length) : ∃ b o, A = some ⟨b, o, none⟩ ∧ K b ∧ ∀ i (h : i < l.length), AtT K w l[i] b (o + i * 6) := by
 obtain ⟨b, o, h1, h2⟩ := h
 exact ⟨b, o, (h1.some h0).1, (h1.some h0).2, h2⟩
theorem ListF.at {K : Nat → Prop} {w : World} {l : List (ByteArray × Int × Ty)} {A : Option Addr} {c : Nat} (h : ListF K w l A c) (h0 : 0 < l.length) : ∃ b o, A = some ⟨b, o, none⟩ ∧ K b ∧ ∀ i (h : i < l.length), w.cell? ⟨b, o + i * 8, none⟩ = some (.string l[i].1) ∧ w.cell? ⟨b, o + i * 8 + 1, none⟩ = some (.int .i64 l[i].2.1) ∧ l[i].1.size ≤ 1000000000000000 ∧ AtT K w l[i].2.2 b (o + i * 8 + 2) := by
 obtain ⟨b, o, h1, h2⟩ := h
 exact ⟨b, o, (h1.some h0).1, (h1.some h0).2, h2⟩
theorem ListV.at {K : Nat → Prop} {w : World} {l : List (ByteArray × List Ty)} {A : Option Addr} {c : Nat} (h : ListV K w l A c) (h0 : 0 < l.length) : ∃ b o, A = some ⟨b, o, none⟩ ∧ K b ∧ ∀ i (h : i < l.length), ∃ B d, w.cell? ⟨b, o + i * 2, none⟩ = some (.string l[i].1) ∧ w.cell? ⟨b, o + i * 2 + 1, none⟩ = some (.slice B l[i].2.length d) ∧ l[i].1.size ≤ 1000000000000000 ∧ ListT K w l[i].2 B d := by
 obtain ⟨b, o, h1, h2⟩ := h
 exact ⟨b, o, (h1.some h0).1, (h1.some h0).2, h2⟩
end Go.Proofs.YtgjblmlibhppiaaGreatDoor
