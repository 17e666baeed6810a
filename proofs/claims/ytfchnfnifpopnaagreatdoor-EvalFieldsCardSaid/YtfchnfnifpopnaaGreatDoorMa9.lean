import Derived.Test.YtfchnfnifpopnaaGreatDoorMa0
import Derived.Test.YtfchnfnifpopnaaGreatDoorMa8
import Derived.Below
import Derived.Handy
import Derived.MapKept
import Derived.Maps.OwnSet
import Derived.StringKeys
import Derived.WalkKit
set_option maxRecDepth 100000
set_option maxHeartbeats 64000000
namespace Go.Proofs.YtfchnfnifpopnaaGreatDoor
open Go.RowKit
theorem eight_set {W : World} {b : Nat} {T : TypeId} {x0 x1 x2 x3 x4 x5 x6 x7 : Value} (h : W.heap[b]? = some (.cells #[x0, x1, x2, x3, x4, x5, x6, x7] T (0, 0))) (y0 y1 y2 y3 y4 y5 y6 y7 : Value) :
  ((((((((W.setCell ⟨b, 0, none⟩ (y0)).setCell ⟨b, 1, none⟩ (y1)).setCell ⟨b, 2, none⟩ (y2)).setCell ⟨b, 3, none⟩ (y3)).setCell ⟨b, 4, none⟩ (y4)).setCell ⟨b, 5, none⟩ (y5)).setCell ⟨b, 6, none⟩ (y6)).setCell ⟨b, 7, none⟩ (y7)).heap[b]? = some (.cells #[y0, y1, y2, y3, y4, y5, y6, y7] T (0, 0)) := by
 have h0 := Go.heap_setCell_same W b 0 _ _ y0 h
 have h1 := Go.heap_setCell_same _ b 1 _ _ y1 h0
 have h2 := Go.heap_setCell_same _ b 2 _ _ y2 h1
 have h3 := Go.heap_setCell_same _ b 3 _ _ y3 h2
 have h4 := Go.heap_setCell_same _ b 4 _ _ y4 h3
 have h5 := Go.heap_setCell_same _ b 5 _ _ y5 h4
 have h6 := Go.heap_setCell_same _ b 6 _ _ y6 h5
 exact Go.heap_setCell_same _ b 7 _ _ y7 h6
theorem set_eight_below {B b : Nat} {a W : World} (h : Below B a W) (hb : B ≤ b) (y0 y1 y2 y3 y4 y5 y6 y7 : Value) : Below B a ((((((((W.setCell ⟨b, 0, none⟩ (y0)).setCell ⟨b, 1, none⟩ (y1)).setCell ⟨b, 2, none⟩ (y2)).setCell ⟨b, 3, none⟩ (y3)).setCell ⟨b, 4, none⟩ (y4)).setCell ⟨b, 5, none⟩ (y5)).setCell ⟨b, 6, none⟩ (y6)).setCell ⟨b, 7, none⟩ (y7)) :=
 (((((((h.setCell hb y0).setCell hb y1).setCell hb y2).setCell hb y3).setCell hb y4).setCell hb y5).setCell hb y6).setCell hb y7
def FindPost (K : Nat → Prop) (w : World) (fd : Option (ByteArray × Int × Ty)) : Ending → World → Prop := fun e w' =>
 (match fd with
  | none => e = .returned (.tuple #[.agg #[.string ⟨#[]⟩, .int .i64 0, .int .i64 0, .string ⟨#[]⟩, .int .i64 0, .slice none 0 0, .slice none 0 0, .slice none 0 0], .bool false])
  | some f => ∃ ds, e = .returned (.tuple #[.agg (.string f.1 :: .int .i64 f.2.1 :: ds).toArray, .bool true]) ∧ RepT K w f.2.2 ds) ∧ Below w.heap.size w w'
theorem find_none {l : List (ByteArray × Int × Ty)} {s : ByteArray} (h : ∀ j (hj : j < l.length), l[j].1 ≠ s) : l.find? (fun f => decide (f.1 = s)) = none := by
 rw [List.find?_eq_none]
 intro x hx
 obtain ⟨j, hj, rfl⟩ := List.getElem_of_mem hx
 simpa using h j hj
theorem find_at {l : List (ByteArray × Int × Ty)} {s : ByteArray} {i : Nat} (hi : i < l.length) (he : l[i].1 = s) (h : ∀ j (hj : j < l.length), j < i → l[j].1 ≠ s) : l.find? (fun f => decide (f.1 = s)) = some l[i] := by
 rw [List.find?_eq_some_iff_getElem]
 exact ⟨by simpa using he, i, hi, rfl, fun j hj => by simpa using h j (by omega) hj⟩
theorem bytesEq (a b : ByteArray) : (a.toList == b.toList) = decide (a = b) := by
 rw [Bool.eq_iff_iff, beq_iff_eq, decide_eq_true_eq, ByteArray.toList_eq, ByteArray.toList_eq]
 exact ⟨bytes_ext, fun h => by rw [h]⟩
theorem fieldof_any {K : Nat → Prop} {w : World} {t : Ty} {cs : List Value} (hr : RepT K w t cs) (name : ByteArray) :
  Calls Tryz.prog 59 #[.agg cs.toArray, .string name] w (FindPost K w (t.fs.find? fun f => decide (f.1 = name))) := by
 obtain ⟨k, s, n, ps, fs, vs⟩ := t
 obtain ⟨A, c, A', c', A'', c'', rfl, -, -, hF, -⟩ := hr.inv
 simp only [cells6T] at hr ⊢
 obtain ⟨w1, hw1⟩ : ∃ x, x = (w.alloc (.cells #[.int .i64 k, .string s, .int .i64 n, .slice A ps.length c, .slice A' fs.length c', .slice A'' vs.length c''] 26)).alloc (.cells #[.string ⟨#[]⟩, .int .i64 0, .int .i64 0, .string ⟨#[]⟩, .int .i64 0, .slice none 0 0, .slice none 0 0, .slice none 0 0] 34) := ⟨_, rfl⟩
 obtain ⟨g, hg⟩ : ∃ g, g = w.heap.size + 1 := ⟨_, rfl⟩
 have hb1 : Below w.heap.size w w1 := by rw [hw1]; exact ((Below.refl _ _).alloc (Nat.le_refl _) _).alloc (by simp) _
 have hs1 : w1.heap.size = w.heap.size + 2 := by rw [hw1]; simp
 have hx0 : w1.heap[w.heap.size]? = some (.cells #[.int .i64 k, .string s, .int .i64 n, .slice A ps.length c, .slice A' fs.length c', .slice A'' vs.length c''] 26 (0, 0)) := by rw [hw1, Below.heap_alloc _ _ _ (by simp)]; exact heap_alloc_new w _
 have hx1 : w1.heap[g]? = some (.cells #[.string ⟨#[]⟩, .int .i64 0, .int .i64 0, .string ⟨#[]⟩, .int .i64 0, .slice none 0 0, .slice none 0 0, .slice none 0 0] 34 (0, 0)) := by
  rw [hw1, hg]
  have h := heap_alloc_new (w.alloc (.cells #[.int .i64 k, .string s, .int .i64 n, .slice A ps.length c, .slice A' fs.length c', .slice A'' vs.length c''] 26)) (.cells #[.string ⟨#[]⟩, .int .i64 0, .int .i64 0, .string ⟨#[]⟩, .int .i64 0, .slice none 0 0, .slice none 0 0, .slice none 0 0] 34)
  rw [World.size_alloc] at h
  exact h
 have HB1 := Lib.hid hb1
 have HS1 := Lib.hid hs1
 have HX0 := Lib.hid hx0
 have HX1 := Lib.hid hx1
 have HW1 := Lib.hid hw1
 have HG := Lib.hid hg
 have HF := Lib.hid hF
 have hlf := hF.shortF
 have e0 : Ty.fs (.mk k s n ps fs vs) = fs := rfl
 rw [e0]
 generalize hfd : fs.find? (fun f => decide (f.1 = name)) = fd
 have HFD := Lib.hid hfd
 clear hr hb1 hs1 hx0 hx1 hw1 hg hF e0 hfd
 go_enter Tryz.func59, Tryz.ntmps59
 go_upto_region 1 with fail
 rw [← HW1.out, ← HG.out]
 obtain ⟨x0, x1, x2, x3, x4, x5⟩ := cz6 HX0.out
 clear x0 x1 x2 x3 x5
 go_wp2_with fail
 go_loopw [10] (fun v wr => ∃ (i : Nat), i ≤ fs.length ∧ v = .int .i64 i ∧ (∀ j (hj : j < fs.length), j < i → fs[j].1 ≠ name) ∧ Below w1.heap.size w1 wr) (fun v _ => fs.length - (intOf v).toNat)
 case atStart => exact ⟨0, by omega, rfl, fun j _ hj => absurd hj (by omega), Below.refl _ _⟩
 case round =>
  obtain ⟨i, hi, rfl, hne, hb⟩ := hrel
  have HB := Lib.hid hb
  have HBE := Lib.hid (HB1.out.trans (hb.mono HB1.out.size))
  have HNE := Lib.hid hne
  clear hne
  have x4' := cell_stays hb x4
  clear x4
  by_cases hin : i < fs.length
  ·have t1 : decide ((i : Int) < (fs.length : Int)) = true := by simp; omega
   have wr2 : wrap64 ((i : Int) + 1) = ((i + 1 : Nat) : Int) := wrap_one (by omega)
   have HM := Lib.hid (measI hin)
   obtain ⟨b, o, hA, _, hat⟩ := HF.out.at (by omega)
   subst hA
   obtain ⟨hc0, hc1, hsz, hAt⟩ := hat i hin
   have HFI : Hid (fs[i].1 = name → fd = some fs[i]) := Lib.hid fun e => by rw [← HFD.out]; exact find_at hin e HNE.out
   have HIn : Hid (i + 1 ≤ fs.length) := Lib.hid hin
   have HNX : Hid (fs[i].1 ≠ name → ∀ j (hj : j < fs.length), j < i + 1 → fs[j].1 ≠ name) := Lib.hid fun e j hj hji => by
    rcases Nat.lt_or_ge j i with h1 | h1
    ·exact HNE.out j hj h1
    ·have : j = i := by omega
     subst this; exact e
   obtain ⟨ds, hds, hrep⟩ := hAt
   generalize hfi : fs[i] = f at hc0 hc1 hds hrep HFI HNX
   obtain ⟨nm, fl, t2⟩ := f
   obtain ⟨k2, s2, n2, ps2, fs2, vs2⟩ := t2
   obtain ⟨Aq, cq, Ag, cg, Ah, ch, rfl, -⟩ := hrep.inv
   have HRP := Lib.hid hrep
   have z0 : wr.cell? ⟨b, o + i * 8, none⟩ = some (.string nm) := cell_stays HBE.out hc0
   have z1 : wr.cell? ⟨b, o + i * 8 + 1, none⟩ = some (.int .i64 fl) := cell_stays HBE.out hc1
   have z2 : wr.cell? ⟨b, o + i * 8 + 2, none⟩ = some (.int .i64 k2) := cell_stays HBE.out (hds 0 _ rfl)
   have z3 : wr.cell? ⟨b, o + i * 8 + 3, none⟩ = some (.string s2) := cell_stays HBE.out (hds 1 _ rfl)
   have z4 : wr.cell? ⟨b, o + i * 8 + 4, none⟩ = some (.int .i64 n2) := cell_stays HBE.out (hds 2 _ rfl)
   have z5 : wr.cell? ⟨b, o + i * 8 + 5, none⟩ = some (.slice Aq ps2.length cq) := cell_stays HBE.out (hds 3 _ rfl)
   have z6 : wr.cell? ⟨b, o + i * 8 + 6, none⟩ = some (.slice Ag fs2.length cg) := cell_stays HBE.out (hds 4 _ rfl)
   have z7 : wr.cell? ⟨b, o + i * 8 + 7, none⟩ = some (.slice Ah vs2.length ch) := cell_stays HBE.out (hds 5 _ rfl)
   clear hfi hi hat hc0 hc1 hds hrep hsz
   by_cases heq : nm = name
   ·have t2 : (nm.toList == name.toList) = true := by rw [bytesEq]; exact decide_eq_true heq
    have HF2 := Lib.hid (HFI.out heq)
    have rb := box_up HB.out (by have := HG.out; have := HS1.out; omega) HX1.out
    have RBX := Lib.hid rb
    have q0 := Lib.cell_of_heap rb 0
    have u0 := Lib.frozen_of_heap rb 0
    have q1 := Lib.cell_of_heap rb 1
    have u1 := Lib.frozen_of_heap rb 1
    have q2 := Lib.cell_of_heap rb 2
    have u2 := Lib.frozen_of_heap rb 2
    have q3 := Lib.cell_of_heap rb 3
    have u3 := Lib.frozen_of_heap rb 3
    have q4 := Lib.cell_of_heap rb 4
    have u4 := Lib.frozen_of_heap rb 4
    have q5 := Lib.cell_of_heap rb 5
    have u5 := Lib.frozen_of_heap rb 5
    have q6 := Lib.cell_of_heap rb 6
    have u6 := Lib.frozen_of_heap rb 6
    have q7 := Lib.cell_of_heap rb 7
    have u7 := Lib.frozen_of_heap rb 7
    simp only [List.getElem?_toArray, List.getElem?_cons_zero, List.getElem?_cons_succ] at q0 q1 q2 q3 q4 q5 q6 q7
    clear heq rb hb
    go_wp2_with fail
    have rs := eight_set RBX.out (.string nm) (.int .i64 fl) (.int .i64 k2) (.string s2) (.int .i64 n2) (.slice Aq ps2.length cq) (.slice Ag fs2.length cg) (.slice Ah vs2.length ch)
    obtain ⟨r0, r1, r2, r3, r4, r5, r6, r7⟩ := cz8 rs
    clear rs RBX q0 u0 z0 q1 u1 z1 q2 u2 z2 q3 u3 z3 q4 u4 z4 q5 u5 z5 q6 u6 z6 q7 u7 z7
    refine bodyPost_ret (v := .tuple #[.agg #[.string nm, .int .i64 fl, .int .i64 k2, .string s2, .int .i64 n2, .slice Aq ps2.length cq, .slice Ag fs2.length cg, .slice Ah vs2.length ch], .bool true]) (by simp [results, Tryz.results59, go_sem, r0, r1, r2, r3, r4, r5, r6, r7]) rfl ?_
    clear r0 r1 r2 r3 r4 r5 r6 r7
    rw [HF2.out]
    exact ⟨⟨[.int .i64 k2, .string s2, .int .i64 n2, .slice Aq ps2.length cq, .slice Ag fs2.length cg, .slice Ah vs2.length ch], rfl, HRP.out⟩, set_eight_below HBE.out (by have := HG.out; omega) _ _ _ _ _ _ _ _⟩
   ·have t2 : (nm.toList == name.toList) = false := by rw [bytesEq]; exact decide_eq_false heq
    have HN2 := Lib.hid (HNX.out heq)
    clear heq hb
    go_wp2_with fail
    refine ⟨⟨i + 1, HIn.out, by first | rfl | rw [wr2], HN2.out, HB.out⟩, ?_⟩
    first | exact HM.out | (rw [wr2]; exact HM.out)
  ·have t1 : decide ((i : Int) < (fs.length : Int)) = false := by simp; omega
   have HF2 : Hid (fd = none) := Lib.hid (by rw [← HFD.out]; exact find_none fun j hj => HNE.out j hj (by omega))
   have rb := box_up HB.out (by have := HG.out; have := HS1.out; omega) HX1.out
   have RBX := Lib.hid rb
   have q0 := Lib.cell_of_heap rb 0
   have u0 := Lib.frozen_of_heap rb 0
   have q1 := Lib.cell_of_heap rb 1
   have u1 := Lib.frozen_of_heap rb 1
   have q2 := Lib.cell_of_heap rb 2
   have u2 := Lib.frozen_of_heap rb 2
   have q3 := Lib.cell_of_heap rb 3
   have u3 := Lib.frozen_of_heap rb 3
   have q4 := Lib.cell_of_heap rb 4
   have u4 := Lib.frozen_of_heap rb 4
   have q5 := Lib.cell_of_heap rb 5
   have u5 := Lib.frozen_of_heap rb 5
   have q6 := Lib.cell_of_heap rb 6
   have u6 := Lib.frozen_of_heap rb 6
   have q7 := Lib.cell_of_heap rb 7
   have u7 := Lib.frozen_of_heap rb 7
   simp only [List.getElem?_toArray, List.getElem?_cons_zero, List.getElem?_cons_succ] at q0 q1 q2 q3 q4 q5 q6 q7
   clear rb hi hb
   go_wp2_with fail
   have rs := eight_set RBX.out (.string ⟨#[]⟩) (.int .i64 0) (.int .i64 0) (.string ⟨#[]⟩) (.int .i64 0) (.slice none 0 0) (.slice none 0 0) (.slice none 0 0)
   obtain ⟨r0, r1, r2, r3, r4, r5, r6, r7⟩ := cz8 rs
   clear rs RBX q0 u0 q1 u1 q2 u2 q3 u3 q4 u4 q5 u5 q6 u6 q7 u7
   refine bodyPost_ret (v := .tuple #[.agg #[.string ⟨#[]⟩, .int .i64 0, .int .i64 0, .string ⟨#[]⟩, .int .i64 0, .slice none 0 0, .slice none 0 0, .slice none 0 0], .bool false]) (by simp [results, Tryz.results59, go_sem, r0, r1, r2, r3, r4, r5, r6, r7]) rfl ?_
   clear r0 r1 r2 r3 r4 r5 r6 r7
   rw [HF2.out]
   exact ⟨rfl, set_eight_below HBE.out (by have := HG.out; omega) _ _ _ _ _ _ _ _⟩
open Go.RowKit Go.Maps Go.ChangeMaps
theorem list_inj {a b : ByteArray} (h : a.data.toList = b.data.toList) : a = b := by
 cases a; cases b
 simp only [ByteArray.mk.injEq]
 exact Array.ext' h
structure MK (P : Program) (α : Type) where
 T : TypeId
 S : TypeId
 E : TypeId
 val : α → Value
 dat : α → DataW Unit
 zero : α
 R : Value → Option (DataW Unit × List MemPlace)
 hR : ∀ a, R (val a) = some (dat a, [])
 inv : ∀ {v a ps}, R v = some (dat a, ps) → v = val a
 hS : P.underlying S = some .string
 hT : P.underlying T = some (.map S E)
 hz : ∀ W, (zeroValue E).run P W = .ok (val zero) W
def keyL (s : ByteArray) : Lit := .string s.data.toList
section
variable {P : Program} {α : Type}
theorem MK.key (M : MK P α) (s : ByteArray) (hs : s.size ≤ maxLen) : keyOf P M.S (.string s) = some (keyL s) := Go.WideMaps.keyOf_string_mk M.hS hs
def findL (L : List (ByteArray × α)) (s : ByteArray) : Option α := (L.find? fun f => (keyL f.1).sameKey (keyL s)).map (·.2)
def MK.datL (M : MK P α) (L : List (ByteArray × α)) : DataW Unit := .map (L.map fun f => (keyL f.1, M.dat f.2))
def MapIs (M : MK P α) (W : World) (b n : Nat) (F : ByteArray → Option α) : Prop := ∃ L : List (ByteArray × α), W.ownsMap P M.S M.R b L.length (M.datL L) ∧ L.length ≤ n ∧ ∀ s, findL L s = F s
theorem same_key (a b : ByteArray) : (keyL a).sameKey (keyL b) = decide (a = b) := by
 unfold keyL Lit.sameKey
 rw [Bool.eq_iff_iff]
 simp only [beq_iff_eq, decide_eq_true_eq]
 exact ⟨list_inj, fun e => by rw [e]⟩
theorem findL_cons (f : ByteArray × α) (L : List (ByteArray × α)) (s : ByteArray) : findL (f :: L) s = if f.1 = s then some f.2 else findL L s := by
 unfold findL
 rw [List.find?_cons, same_key]
 by_cases h : f.1 = s <;> simp [h]
theorem has_datL (M : MK P α) (L : List (ByteArray × α)) (s : ByteArray) : has (M.datL L) (keyL s) = (findL L s).isSome := by
 unfold MK.datL findL
 rw [has_eq]
 induction L with
 | nil => rfl
 | cons f L ih =>
  rw [List.map_cons, List.any_cons, List.find?_cons]
  cases h : (keyL f.1).sameKey (keyL s) with
  | true => simp
  | false => simpa using ih
theorem at_datL (M : MK P α) (L : List (ByteArray × α)) (s : ByteArray) : (M.datL L).atKey (keyL s) (M.dat M.zero) = M.dat ((findL L s).getD M.zero) := by
 unfold MK.datL findL DataW.atKey
 simp only
 induction L with
 | nil => rfl
 | cons f L ih =>
  rw [List.map_cons, List.find?_cons, List.find?_cons]
  cases h : (keyL f.1).sameKey (keyL s) with
  | true => simp
  | false => simpa using ih
def lessL (L : List (ByteArray × α)) (s : ByteArray) : List (ByteArray × α) := L.filter fun f => !(keyL f.1).sameKey (keyL s)
theorem del_datL (M : MK P α) (L : List (ByteArray × α)) (s : ByteArray) : (M.datL L).del (keyL s) = M.datL (lessL L s) := by
 unfold MK.datL lessL DataW.del
 simp only [DataW.map.injEq]
 induction L with
 | nil => rfl
 | cons f L ih =>
  rw [List.map_cons, List.filter_cons, List.filter_cons]
  cases h : (!(keyL f.1).sameKey (keyL s)) with
  | true => simpa using ih
  | false => simpa using ih
def insL (f : ByteArray × α) : List (ByteArray × α) → List (ByteArray × α)
 | [] => [f]
 | g :: r => if (keyL f.1).before (keyL g.1) then f :: g :: r else g :: insL f r
theorem ins_datL (M : MK P α) (f : ByteArray × α) : ∀ L : List (ByteArray × α), DataW.insert (keyL f.1, M.dat f.2) (L.map fun f => (keyL f.1, M.dat f.2)) = (insL f L).map fun f => (keyL f.1, M.dat f.2)
 | [] => rfl
 | g :: r => by
  rw [List.map_cons, DataW.insert, insL]
  by_cases h : (keyL f.1).before (keyL g.1) = true
  ·rw [if_pos h, if_pos h]; rfl
  ·rw [if_neg h, if_neg h, ins_datL M f r]; rfl
theorem put_datL (M : MK P α) (L : List (ByteArray × α)) (f : ByteArray × α) : (M.datL L).put (keyL f.1) (M.dat f.2) = M.datL (insL f (lessL L f.1)) := by
 have h := del_datL M L f.1
 unfold MK.datL DataW.del at h
 simp only [DataW.map.injEq] at h
 unfold MK.datL DataW.put
 simp only [DataW.map.injEq]
 rw [h]
 exact ins_datL M f _
theorem find_less (L : List (ByteArray × α)) (k s : ByteArray) : findL (lessL L k) s = if k = s then none else findL L s := by
 induction L with
 | nil => simp [lessL, findL]
 | cons f L ih =>
  unfold lessL at ih ⊢
  rw [List.filter_cons, same_key]
  by_cases h : f.1 = k
  ·simp only [h, decide_true, Bool.not_true, Bool.false_eq_true, if_false]
   rw [ih, findL_cons, h]
   split <;> rfl
  ·simp only [h, decide_false, Bool.not_false, if_true]
   rw [findL_cons, ih, findL_cons]
   by_cases h1 : f.1 = s
   ·rw [if_pos h1, if_pos h1, if_neg (fun e => h (h1.trans e.symm))]
   ·rw [if_neg h1, if_neg h1]
theorem find_insL (f : ByteArray × α) (s : ByteArray) : ∀ L : List (ByteArray × α), findL L f.1 = none → findL (insL f L) s = if f.1 = s then some f.2 else findL L s
 | [], _ => by rw [insL, findL_cons]
 | g :: r, h => by
  rw [findL_cons] at h
  by_cases hg : g.1 = f.1
  ·rw [if_pos hg] at h; cases h
  rw [if_neg hg] at h
  rw [insL]
  split
  ·rw [findL_cons]
  ·rw [findL_cons, find_insL f s r h, findL_cons]
   by_cases h1 : g.1 = s
   ·rw [if_pos h1, if_pos h1, if_neg (fun e => hg (h1.trans e.symm))]
   ·rw [if_neg h1, if_neg h1]
theorem insL_len (f : ByteArray × α) : ∀ L : List (ByteArray × α), (insL f L).length = L.length + 1
 | [] => rfl
 | g :: r => by rw [insL]; split <;> simp [insL_len f r]
theorem lessL_len (L : List (ByteArray × α)) (k : ByteArray) : (lessL L k).length ≤ L.length := List.length_filter_le _ _
theorem own_fit {W : World} {S : TypeId} {R : Value → Option (DataW Unit × List MemPlace)} {b n : Nat} {D : DataW Unit} (h : W.ownsMap P S R b n D) : W.ownsMap P S R b (size D) D := by
 obtain ⟨es, clock, hb, F, _, rfl⟩ := h
 exact ⟨es, clock, hb, F, by simp [size, length_sorted], rfl⟩
theorem size_datL (M : MK P α) (L : List (ByteArray × α)) : size (M.datL L) = L.length := by simp [MK.datL, size]
theorem MapIs.look2 {M : MK P α} {W : World} {b n : Nat} {F : ByteArray → Option α} (h : MapIs M W b n F) (s : ByteArray) (hs : s.size ≤ maxLen) : (Instr.lookup M.T (.map (some b)) (.string s) true).run P W = .ok (.tuple #[M.val ((F s).getD M.zero), .bool (F s).isSome]) W := by
 obtain ⟨L, h, _, hF⟩ := h
 obtain ⟨v, ps, hrun, hv⟩ := World.ownsMap.look_ok h (string_keyed M.hS) M.hT (M.hz W) (zd := M.dat M.zero) (zp := []) (M.hR _) (M.key s hs)
 rw [at_datL] at hv
 rw [M.inv hv, has_datL, hF] at hrun
 exact hrun
def updF (F : ByteArray → Option α) (s : ByteArray) (a : α) : ByteArray → Option α := fun x => if s = x then some a else F x
theorem big_max : 1000000000 < maxLen := by decide
theorem MapIs.put {M : MK P α} {W : World} {b n : Nat} {F : ByteArray → Option α} (h : MapIs M W b n F) (hn : n ≤ 1000000000) (s : ByteArray) (hs : s.size ≤ maxLen) (a : α) :
  ∃ w', (Instr.mapUpdate M.T (.map (some b)) (.string s) (M.val a)).run P W = .ok () w' ∧ MapIs M w' b (n + 1) (updF F s a) ∧ W.grownBy w' (some b) := by
 obtain ⟨L, h, hL, hF⟩ := h
 obtain ⟨w', hrun, ho, hg⟩ := World.ownsMap.update h (string_keyed M.hS) M.hT (Nat.lt_of_le_of_lt (Nat.le_trans hL hn) big_max) (M.key s hs) (M.hR a)
 rw [put_datL M L (s, a)] at ho
 have ho2 := own_fit ho
 rw [size_datL] at ho2
 refine ⟨w', hrun, ⟨_, ho2, ?_, fun x => ?_⟩, hg⟩
 ·rw [insL_len]
  have := lessL_len L s
  simp only
  omega
 ·rw [find_insL (s, a) x _ (by rw [find_less]; simp)]
  unfold updF
  simp only
  by_cases e : s = x
  ·rw [if_pos e, if_pos e]
  ·rw [if_neg e, if_neg e, find_less, if_neg e, hF]
theorem MapIs.new (M : MK P α) (W : World) : MapIs M (W.alloc (.map #[] 0)) W.heap.size 0 (fun _ => none) := ⟨[], World.ownsMap_made W P M.S M.R, Nat.le_refl _, fun _ => rfl⟩
theorem MapIs.lt {M : MK P α} {W : World} {b n : Nat} {F : ByteArray → Option α} (h : MapIs M W b n F) : b < W.heap.size := by
 obtain ⟨L, h, _, _⟩ := h
 exact World.ownsMap.lt h
theorem MapIs.keep {M : MK P α} {W W' : World} {b n : Nat} {F : ByteArray → Option α} (h : MapIs M W b n F) (hb : W'.heap[b]? = W.heap[b]?) : MapIs M W' b n F := by
 obtain ⟨L, ⟨es, clock, h1, F', hs, e⟩, hL, hF⟩ := h
 exact ⟨L, ⟨es, clock, hb.trans h1, F', hs, e⟩, hL, hF⟩
theorem MapIs.later {M : MK P α} {W W' : World} {b n : Nat} {F : ByteArray → Option α} (h : MapIs M W b n F) (hb : Below W.heap.size W W') : MapIs M W' b n F := h.keep (hb.block b h.lt)
theorem MapIs.more {M : MK P α} {W : World} {b n n' : Nat} {F : ByteArray → Option α} (h : MapIs M W b n F) (hn : n ≤ n') : MapIs M W b n' F := by
 obtain ⟨L, h1, h2, h3⟩ := h
 exact ⟨L, h1, Nat.le_trans h2 hn, h3⟩
end
end Go.Proofs.YtfchnfnifpopnaaGreatDoor
