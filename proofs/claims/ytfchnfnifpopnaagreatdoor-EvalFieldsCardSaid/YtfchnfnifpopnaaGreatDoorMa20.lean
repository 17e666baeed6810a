import Derived.Test.YtfchnfnifpopnaaGreatDoorMa0
import Derived.Test.YtfchnfnifpopnaaGreatDoorMa19
namespace Go.Proofs.YtfchnfnifpopnaaGreatDoor
open Go.RowKit
set_option maxRecDepth 100000 in
set_option maxHeartbeats 16000000 in
theorem put_nil {K' : Nat → Prop} {w0 w : World} {t : Ty} (x0 : Int) (x1 : ByteArray) (x2 : Int) (x3 : Option Addr) (x4 x5 : Nat) (x6 : Option Addr) (x7 x8 : Nat) (x9 : Option Addr) (xa xb : Nat) (ht : RepT K' w0 t [.int .i64 x0, .string x1, .int .i64 x2, .slice x3 x4 x5, .slice x6 x7 x8, .slice x9 xa xb]) (hb : Below w0.heap.size w0 w) :
  Calls Tryz.prog 23 #[.slice none 0 0, .agg #[.int .i64 x0, .string x1, .int .i64 x2, .slice x3 x4 x5, .slice x6 x7 x8, .slice x9 xa xb]] w (PutPost K' w0 [] t) := by
 have HBA : Hid (Below w0.heap.size w0 (w.alloc (.cells #[.int .i64 x0, .string x1, .int .i64 x2, .slice x3 x4 x5, .slice x6 x7 x8, .slice x9 xa xb] 26))) := Lib.hid (hb.alloc hb.size _)
 have HBX : Hid ((w.alloc (.cells #[.int .i64 x0, .string x1, .int .i64 x2, .slice x3 x4 x5, .slice x6 x7 x8, .slice x9 xa xb] 26)).heap[w.heap.size]? = some (.cells #[.int .i64 x0, .string x1, .int .i64 x2, .slice x3 x4 x5, .slice x6 x7 x8, .slice x9 xa xb] 26 (0, 0))) := Lib.hid (heap_alloc_new w _)
 have HT := Lib.hid ht
 obtain ⟨i0, hi0, hz0, hz1, hz2⟩ := partsT infoTy
 unfold PutPost
 clear ht hb
 go_enter Tryz.func23, Tryz.ntmps23
 go_wp2_with fail
 go_loopw [5] (fun v wr => v = .int .i64 0 ∧ wr = w.alloc (.cells #[.int .i64 x0, .string x1, .int .i64 x2, .slice x3 x4 x5, .slice x6 x7 x8, .slice x9 xa xb] 26)) (fun _ _ => 0)
 case atStart => exact ⟨rfl, rfl⟩
 case round =>
  obtain ⟨rfl, rfl⟩ := hrel
  go_wp2_with fail
  refine wp_region_held_drew (S := (fun _ => True)) (by kernel_rfl) trivial (fun hHeld => ?_)
  refine Plan.start [0, 1, 2] ?_
  iterate 3 ((refine Plan.take (v := ?_) (so rfl) (by kernel_rfl) (by kernel_rfl) (by kernel_rfl) (fun _ _ _ h => h) (Or.inl ⟨by rfl, ?_⟩) hHeld ?_; rotate_left; focus (intro w' hSw; (try dsimp only at hSw); go_simp; try with_reducible rfl)); try simp only [Act.put, List.setIfInBounds_toArray, List.set_cons_zero, List.set_cons_succ])
  refine Plan.done ?_
  refine Plan.start [3, 4, 5, 6, 7, 8, 9, 10] ?_
  iterate 8 (refine Plan.take (v := undef) (so rfl) (by kernel_rfl) (by kernel_rfl) (by kernel_rfl) (fun _ _ _ h => h) (Or.inr ⟨by rfl, rfl⟩) hHeld ?_; try simp only [Act.put, List.setIfInBounds_toArray, List.set_cons_zero, List.set_cons_succ])
  refine Plan.done ?_
  refine wpAnyH_take (i := 11) (v := ?_) (sd (some 20) rfl) (by kernel_rfl) (by kernel_rfl) (by kernel_rfl) (fun _ _ _ h => h) (Or.inl ⟨by rfl, ?_⟩) hHeld ?_
  rotate_left
  ·intro w' hSw
   (try dsimp only at hSw)
   go_simp
   try with_reducible rfl
  try simp only [Act.put, List.setIfInBounds_toArray, List.set_cons_zero, List.set_cons_succ]
  refine wpAnyH_done (by kernel_rfl) ?_ _
  clear hHeld
  go_wp2_with fail
  refine wp_region_held_drew (S := (fun _ => True)) (by kernel_rfl) trivial (fun hHeld => ?_)
  refine Plan.start [0, 1, 2] ?_
  iterate 3 ((refine Plan.take (v := ?_) (so rfl) (by kernel_rfl) (by kernel_rfl) (by kernel_rfl) (fun _ _ _ h => h) (Or.inl ⟨by rfl, ?_⟩) hHeld ?_; rotate_left; focus (intro w' hSw; (try dsimp only at hSw); go_simp; try with_reducible rfl)); try simp only [Act.put, List.setIfInBounds_toArray, List.set_cons_zero, List.set_cons_succ])
  refine Plan.done ?_
  refine Plan.start [3, 4, 5, 6, 7, 8, 9, 10] ?_
  iterate 8 (refine Plan.take (v := undef) (so rfl) (by kernel_rfl) (by kernel_rfl) (by kernel_rfl) (fun _ _ _ h => h) (Or.inr ⟨by rfl, rfl⟩) hHeld ?_; try simp only [Act.put, List.setIfInBounds_toArray, List.set_cons_zero, List.set_cons_succ])
  refine Plan.done ?_
  refine wpAnyH_take (i := 11) (v := ?_) (sd (some 34) rfl) (by kernel_rfl) (by kernel_rfl) (by kernel_rfl) (fun _ _ _ h => h) (Or.inl ⟨by rfl, ?_⟩) hHeld ?_
  rotate_left
  ·intro w' hSw
   (try dsimp only at hSw)
   go_simp
   try with_reducible rfl
  try simp only [Act.put, List.setIfInBounds_toArray, List.set_cons_zero, List.set_cons_succ]
  refine wpAnyH_done (by kernel_rfl) ?_ _
  clear hHeld
  have hw1 : (w.alloc (.cells #[.int .i64 x0, .string x1, .int .i64 x2, .slice x3 x4 x5, .slice x6 x7 x8, .slice x9 xa xb] 26)).heap.size = w.heap.size + 1 := World.size_alloc _ _
  have HOWA : Hid ((((w.alloc (.cells #[.int .i64 x0, .string x1, .int .i64 x2, .slice x3 x4 x5, .slice x6 x7 x8, .slice x9 xa xb] 26)).alloc (.cells #[.int .i64 x0, .string x1, .int .i64 x2, .slice x3 x4 x5, .slice x6 x7 x8, .slice x9 xa xb] 26)).drew.drew).ownsRow w0.heap.size 26 6 (.slice none 0 0) 0 []) := Lib.hid (World.ownsRow_nil _ _ _ _)
  have HC2 := Lib.hid (cellsT_new (w.alloc (.cells #[.int .i64 x0, .string x1, .int .i64 x2, .slice x3 x4 x5, .slice x6 x7 x8, .slice x9 xa xb] 26)) [.int .i64 x0, .string x1, .int .i64 x2, .slice x3 x4 x5, .slice x6 x7 x8, .slice x9 xa xb] 26)
  rw [hw1] at HC2
  obtain ⟨y0, y1, y2, y3, y4, y5⟩ := row6 _ _ _ _ _ _ _ _ _ _ _ _ HBX.out
  have HW1 := Lib.hid hw1
  clear hw1
  go_wp2_with (at_builtin; refine wpList_plain rfl fun K hK => ?_; go_loud (refine wp_append_own_at _ _ 22 rfl w0.heap.size 26 i0 (.agg #[.int .i64 0, .string ⟨#[]⟩, .int .i64 0, .slice none 0 0, .slice none 0 0, .slice none 0 0]) 6 104 Tryz.underlying22 hi0 hz0 hz1 hz2 rfl (by decide) _ _ _ rfl HOWA.out ⟨w.heap.size + 1, 0, none⟩ 1 1 [.int .i64 x0, .string x1, .int .i64 x2, .slice x3 x4 x5, .slice x6 x7 x8, .slice x9 xa xb] rfl rfl ?a0 ?a1 ?a2 ?a3 ?a4 ?_))
  case a0 => exact HC2.out
  case a1 =>
   intro u hu
   simp only [List.mem_cons, List.not_mem_nil, or_false] at hu
   rcases hu with rfl | rfl | rfl | rfl | rfl | rfl <;> rfl
  case a2 => unfold maxLen; omega
  case a3 => omega
  case a4 =>
   have h3 : ((w.alloc (.cells #[.int .i64 x0, .string x1, .int .i64 x2, .slice x3 x4 x5, .slice x6 x7 x8, .slice x9 xa xb] 26)).alloc (.cells #[.int .i64 x0, .string x1, .int .i64 x2, .slice x3 x4 x5, .slice x6 x7 x8, .slice x9 xa xb] 26)).heap.size = (w.alloc (.cells #[.int .i64 x0, .string x1, .int .i64 x2, .slice x3 x4 x5, .slice x6 x7 x8, .slice x9 xa xb] 26)).heap.size + 1 := World.size_alloc _ _
   have h5 := HBA.out.size
   show w0.heap.size ≤ ((w.alloc (.cells #[.int .i64 x0, .string x1, .int .i64 x2, .slice x3 x4 x5, .slice x6 x7 x8, .slice x9 xa xb] 26)).alloc (.cells #[.int .i64 x0, .string x1, .int .i64 x2, .slice x3 x4 x5, .slice x6 x7 x8, .slice x9 xa xb] 26)).heap.size
   omega
  intro v5 w5 hown5 hg5 _ hwhere
  refine hK _ _ ?_
  clear hK K y0 y1 y2 y3 y4 y5
  have hp5 := out_push2 (v := .slice none 0 0) (os := []) (vs := []) (w2 := (w.alloc (.cells #[.int .i64 x0, .string x1, .int .i64 x2, .slice x3 x4 x5, .slice x6 x7 x8, .slice x9 xa xb] 26)).drew.drew) HBA.out.drew.drew (World.ownsRow_nil _ _ _ _) (fun i h => absurd h (by simp)) HT.out hown5 hg5
  have hbox5 : w5.heap[w.heap.size]? = some (.cells #[.int .i64 x0, .string x1, .int .i64 x2, .slice x3 x4 x5, .slice x6 x7 x8, .slice x9 xa xb] 26 (0, 0)) := by
   have hlt := (Array.getElem?_eq_some_iff.1 HBX.out).1
   have h3 : ((w.alloc (.cells #[.int .i64 x0, .string x1, .int .i64 x2, .slice x3 x4 x5, .slice x6 x7 x8, .slice x9 xa xb] 26)).alloc (.cells #[.int .i64 x0, .string x1, .int .i64 x2, .slice x3 x4 x5, .slice x6 x7 x8, .slice x9 xa xb] 26)).heap.size = (w.alloc (.cells #[.int .i64 x0, .string x1, .int .i64 x2, .slice x3 x4 x5, .slice x6 x7 x8, .slice x9 xa xb] 26)).heap.size + 1 := World.size_alloc _ _
   have h6 : ((w.alloc (.cells #[.int .i64 x0, .string x1, .int .i64 x2, .slice x3 x4 x5, .slice x6 x7 x8, .slice x9 xa xb] 26)).alloc (.cells #[.int .i64 x0, .string x1, .int .i64 x2, .slice x3 x4 x5, .slice x6 x7 x8, .slice x9 xa xb] 26)).heap[w.heap.size]? = (w.alloc (.cells #[.int .i64 x0, .string x1, .int .i64 x2, .slice x3 x4 x5, .slice x6 x7 x8, .slice x9 xa xb] 26)).heap[w.heap.size]? := Below.heap_alloc (w.alloc (.cells #[.int .i64 x0, .string x1, .int .i64 x2, .slice x3 x4 x5, .slice x6 x7 x8, .slice x9 xa xb] 26)) _ _ hlt
   exact (hg5.block w.heap.size (by show w.heap.size < ((w.alloc (.cells #[.int .i64 x0, .string x1, .int .i64 x2, .slice x3 x4 x5, .slice x6 x7 x8, .slice x9 xa xb] 26)).alloc (.cells #[.int .i64 x0, .string x1, .int .i64 x2, .slice x3 x4 x5, .slice x6 x7 x8, .slice x9 xa xb] 26)).heap.size; omega) (fun e => by cases e)).trans (h6.trans HBX.out)
  rcases InT.of_out hp5.1 with ⟨-, hnil⟩ | ⟨g5, c5, hv5, hgg5, hin5⟩
  ·exact absurd hnil (by simp)
  have hgne : g5 ≠ w.heap.size := by
   rcases hwhere with h | h
   ·rw [hv5] at h
    cases h
   ·rw [hv5] at h
    have h1 := HW1.out
    have h2 : g5 = (w.alloc (.cells #[.int .i64 x0, .string x1, .int .i64 x2, .slice x3 x4 x5, .slice x6 x7 x8, .slice x9 xa xb] 26)).heap.size + 1 := by first | exact Option.some.inj h | (have h3 := Option.some.inj h; simpa using h3)
    omega
  subst hv5
  rw [List.nil_append] at hin5
  have HSET : Hid (InT K' w0 (w5.setCells g5 (0 * 6) [.int .i64 x0, .string x1, .int .i64 x2, .slice x3 x4 x5, .slice x6 x7 x8, .slice x9 xa xb]) g5 c5 [t]) := Lib.hid (InT.set (a := []) (b := []) hin5 HT.out)
  have hset := (HSET.out).out hgg5
  have HFIN : Hid (OutT K' w0 (w5.setCells g5 0 [.int .i64 x0, .string x1, .int .i64 x2, .slice x3 x4 x5, .slice x6 x7 x8, .slice x9 xa xb]) (.slice (some ⟨g5, 0, none⟩) 1 c5) (insT t []) ∧ Below w0.heap.size w0 (w5.setCells g5 0 [.int .i64 x0, .string x1, .int .i64 x2, .slice x3 x4 x5, .slice x6 x7 x8, .slice x9 xa xb])) := Lib.hid ⟨hset, sets_below hgg5 _ _ _ hp5.2⟩
  obtain ⟨r0, r1, r2, r3, r4, r5, r6, r7, r8, r9, ra, rb, hr, -⟩ := hin5.sixAt (i := 0) (t := t) rfl
  simp only [Nat.zero_mul, Nat.zero_add] at hr
  obtain ⟨r0', r1', r2', r3', r4', r5'⟩ := hr
  obtain ⟨z0, z1, z2, z3, z4, z5⟩ := row6 _ _ _ _ _ _ _ _ _ _ _ _ hbox5
  have hbk5 := hin5.blk
  obtain ⟨cur, hcur, -⟩ := hbk5
  have hfr : ∀ o, w5.frozen? ⟨g5, o, none⟩ = false := fun o => Lib.frozen_of_heap hcur o
  clear hown5 hg5 hp5 hbox5 hwhere hin5 hgne hgg5 hset hcur
  go_wp2_with fail
  go_loopw [6] (fun v wr => v = .int .i64 0 ∧ wr = w5) (fun _ _ => 0)
  case atStart => exact ⟨by first | rfl | simp, rfl⟩
  case round =>
   obtain ⟨rfl, rfl⟩ := hrel
   go_wp2_with fail
   go_ret
   exact ⟨_, rfl, HFIN.out.1, HFIN.out.2⟩
theorem put_any {K : Nat → Prop} {w0 w : World} {v : Value} {F : List Ty} {t : Ty} {cs : List Value} (hO : OutT K w0 w v F) (hA : Asc F) (ht : RepT K w0 t cs) (hb : Below w0.heap.size w0 w) (hbd : F.length + 1 ≤ 1099511627776) :
  Calls Tryz.prog 23 #[v, .agg cs.toArray] w (PutPost K w0 F t) := by
 obtain ⟨k, s, n, ps, fs, vs⟩ := t
 obtain ⟨A, c, A', c', A'', c'', rfl, -⟩ := ht.inv
 rcases InT.of_out hO with ⟨rfl, rfl⟩ | ⟨g, c1, rfl, hg, hin⟩
 ·exact put_nil _ _ _ _ _ _ _ _ _ _ _ _ ht hb
 ·exact put_row _ _ _ _ _ _ _ _ _ _ _ _ hin hg hA ht hb hbd
theorem eqT (x s : ByteArray) : (x.toList == s.toList) = decide (x = s) := by
 rw [Bool.eq_iff_iff, beq_iff_eq, decide_eq_true_iff, ByteArray.toList_eq, ByteArray.toList_eq]
 exact ⟨fun h => bytes_ext h, fun h => by rw [h]⟩
structure ListS (w : World) (l : List ByteArray) (A : Option Addr) : Prop where
 ex : ∃ b o, (0 < l.length → A = some ⟨b, o, none⟩) ∧ l.length ≤ 1000000000000000 ∧ ∀ i (h : i < l.length), w.cell? ⟨b, o + i, none⟩ = some (.string l[i])
def inB (l : List ByteArray) (s : ByteArray) : Bool := l.any fun x => decide (x = s)
theorem inB_drop {l : List ByteArray} {i : Nat} (h : i < l.length) (s : ByteArray) : inB (l.drop i) s = (decide (l[i] = s) || inB (l.drop (i + 1)) s) := by rw [List.drop_eq_getElem_cons h]; rfl
set_option maxRecDepth 100000 in
set_option maxHeartbeats 8000000 in
theorem in_ref {w : World} {l : List ByteArray} {A : Option Addr} {c : Nat} (hL : ListS w l A) (s : ByteArray) :
  Calls Tryz.prog 82 #[.slice A l.length c, .string s] w fun e w' => e = .returned (.bool (inB l s)) ∧ w' = w := by
 obtain ⟨b, o, hA, hll, hat⟩ := hL
 have HAT := Lib.hid hat
 have HAA := Lib.hid hA
 clear hat hA
 go_enter Tryz.func82, Tryz.ntmps82
 go_wp2_with fail
 go_loopw [5] (fun v wr => ∃ (i : Nat), i ≤ l.length ∧ v = .int .i64 i ∧ inB l s = inB (l.drop i) s ∧ wr = w) (fun v _ => l.length - (intOf v).toNat)
 case atStart => exact ⟨0, by omega, rfl, by rw [List.drop_zero], rfl⟩
 case round =>
  obtain ⟨i, hi, rfl, he, rfl⟩ := hrel
  have HE := Lib.hid he
  clear he
  by_cases hin : i < l.length
  ·have t1 : decide ((i : Int) < (l.length : Int)) = true := by simp; omega
   have wr2 : wrap64 ((i : Int) + 1) = ((i + 1 : Nat) : Int) := wrap_one (by omega)
   have hA2 := HAA.out (by omega)
   subst hA2
   have hc := HAT.out i hin
   have hd := inB_drop hin s
   generalize l[i] = x at hc hd
   have HS := Lib.hid hd
   have HM := Lib.hid (measI hin)
   have HIn : Hid (i + 1 ≤ l.length) := Lib.hid hin
   by_cases hk : x = s
   ·have HK : Hid (decide (x = s) = true) := Lib.hid (decide_eq_true hk)
    have e13 : (x.toList == s.toList) = true := by rw [eqT]; exact decide_eq_true hk
    clear hi hd hk
    go_wp2_with fail
    go_ret
    exact ⟨by rw [HE.out, HS.out, HK.out]; rfl, rfl⟩
   ·have HK : Hid (decide (x = s) = false) := Lib.hid (decide_eq_false hk)
    have e13 : (x.toList == s.toList) = false := by rw [eqT]; exact decide_eq_false hk
    clear hi hd hk
    go_wp2_with fail
    refine ⟨⟨i + 1, HIn.out, by first | rfl | rw [wr2], by rw [HE.out, HS.out, HK.out]; rfl, by first | rfl | trivial⟩, ?_⟩
    first | exact HM.out | (rw [wr2]; exact HM.out)
  ·have t1 : decide ((i : Int) < (l.length : Int)) = false := by simp; omega
   have HE1 : Hid (inB l s = false) := Lib.hid (by rw [HE.out, List.drop_eq_nil_of_le (by omega)]; rfl)
   clear hi
   go_wp2_with fail
   go_ret
   exact ⟨by rw [HE1.out]; rfl, rfl⟩
structure StrI (w : World) (g c : Nat) (l : List ByteArray) : Prop where
 le : l.length ≤ c
 mx : c ≤ maxLen
 blk : ∃ cur, w.heap[g]? = some (.cells cur 9 (0, 0)) ∧ cur.size = c
 reps : ∀ (i : Nat) (s : ByteArray), l[i]? = some s → w.cell? ⟨g, i, none⟩ = some (.string s)
theorem StrI.lt {w : World} {g c : Nat} {l : List ByteArray} (h : StrI w g c l) : g < w.heap.size := by
 obtain ⟨cur, h1, _⟩ := h.blk
 exact (Array.getElem?_eq_some_iff.1 h1).1
theorem StrI.keep {w w' : World} {g c : Nat} {l : List ByteArray} (h : StrI w g c l) (hk : w'.heap[g]? = w.heap[g]?) : StrI w' g c l :=
 ⟨h.le, h.mx, by rw [hk]; exact h.blk, fun i t hi => (World.cell?_of_block (a := ⟨g, i, none⟩) hk).trans (h.reps i t hi)⟩
theorem StrI.later {w w' : World} {g c : Nat} {l : List ByteArray} (h : StrI w g c l) (hb : Below w.heap.size w w') : StrI w' g c l := h.keep (hb.block g h.lt)
theorem StrI.set {w : World} {g c : Nat} {a b : List ByteArray} {x s : ByteArray} (h : StrI w g c (a ++ x :: b)) : StrI (w.setCell ⟨g, a.length, none⟩ (.string s)) g c (a ++ s :: b) := by
 obtain ⟨cur, h1, h2⟩ := h.blk
 refine ⟨by have := h.le; simpa using this, h.mx, ⟨_, Go.heap_setCell_same w g _ _ _ _ h1, by rw [Array.size_setIfInBounds]; exact h2⟩, fun i t hi => ?_⟩
 by_cases he : i = a.length
 ·subst he
  rw [List.getElem?_append_right (Nat.le_refl _), Nat.sub_self] at hi
  have ht : s = t := by injection hi
  rw [← ht]
  exact World.cell?_setCell_same _ _ _ (h.reps a.length x (by rw [List.getElem?_append_right (Nat.le_refl _), Nat.sub_self]; rfl))
 ·have hi2 : (a ++ x :: b)[i]? = some t := by
   rcases Nat.lt_or_ge i a.length with h3 | h3
   ·rw [List.getElem?_append_left h3] at hi ⊢; exact hi
   ·obtain ⟨m, hm⟩ : ∃ m, i - a.length = m + 1 := ⟨i - a.length - 1, by omega⟩
    rw [List.getElem?_append_right h3, hm] at hi ⊢
    exact hi
  rw [World.cell?_setCell_other _ _ _ _ (fun e => he (by injection e with _ e2; exact e2.symm))]
  exact h.reps i t hi2
def OutS (B : Nat) (w : World) (v : Value) (l : List ByteArray) : Prop := w.ownsRow B 9 1 v l.length (l.map .string)
theorem OutS.of {B : Nat} {w : World} {v : Value} {l : List ByteArray} (h : OutS B w v l) : (v = .slice none 0 0 ∧ l = []) ∨ ∃ g c, v = .slice (some ⟨g, 0, none⟩) l.length c ∧ B ≤ g ∧ StrI w g c l := by
 obtain ⟨h1, h2⟩ := h
 rcases h2 with ⟨hv, hn⟩ | ⟨g, cap, cur, hv, hg, hh, hc, hm, hs, ht⟩
 ·exact .inl ⟨hv, List.eq_nil_of_length_eq_zero hn⟩
 ·refine .inr ⟨g, cap, hv, hg, hc, hm, ⟨cur, hh, by omega⟩, fun i s hi => ?_⟩
  rw [cell_of_row _ _ _ _ _ _ hh]
  have h6 : (l.map Value.string)[i]? = some (.string s) := by rw [List.getElem?_map, hi]; rfl
  rw [← ht, List.getElem?_take] at h6
  split at h6
  ·simpa using h6
  ·cases h6
theorem StrI.out {B : Nat} {w : World} {g c : Nat} {l : List ByteArray} (h : StrI w g c l) (hg : B ≤ g) : OutS B w (.slice (some ⟨g, 0, none⟩) l.length c) l := by
 obtain ⟨cur, h1, h2⟩ := h.blk
 have hle := h.le
 refine ⟨by simp, .inr ⟨g, c, cur, rfl, hg, h1, hle, h.mx, by omega, ?_⟩⟩
 apply List.ext_getElem?
 intro i
 rw [List.getElem?_take, List.getElem?_map, Nat.mul_one]
 split
 ·rename_i hi
  have h5 := h.reps i l[i] (List.getElem?_eq_getElem hi)
  rw [cell_of_row _ _ _ _ _ _ h1] at h5
  rw [List.getElem?_eq_getElem hi]
  simpa using h5
 ·rename_i hi
  rw [List.getElem?_eq_none (by omega)]; rfl
theorem StrI.list {w : World} {g c : Nat} {l : List ByteArray} (h : StrI w g c l) (hl : l.length ≤ 1000000000000000) : ListS w l (some ⟨g, 0, none⟩) := ⟨g, 0, fun _ => rfl, hl, fun i hi => by rw [Nat.zero_add]; exact h.reps i _ (List.getElem?_eq_getElem hi)⟩
theorem OutS.later {B : Nat} {w w' : World} {v : Value} {l : List ByteArray} (h : OutS B w v l) (hb : Below w.heap.size w w') : OutS B w' v l := by
 rcases h.of with ⟨rfl, rfl⟩ | ⟨g, c, rfl, hg, hs⟩
 ·exact World.ownsRow_nil _ _ _ _
 ·exact (hs.later hb).out hg
def AscS (l : List ByteArray) : Prop := l.Pairwise fun a b => cmpB a b = -1
theorem cmpB_trans {a b c : ByteArray} (h1 : cmpB a b = -1) (h2 : cmpB b c = -1) : cmpB a c = -1 := cmpB_lt.2 (List.lt_trans (cmpB_lt.1 h1) (cmpB_lt.1 h2))
theorem putS {F : List ByteArray} {t : ByteArray} {k : Nat} (hA : AscS F) (hk : k ≤ F.length) (hgt : ∀ j (h : j < F.length), k ≤ j → cmpB F[j] t = 1) (hlt : ∀ j (h : j < F.length), j + 1 = k → cmpB F[j] t = -1) : AscS (F.take k ++ t :: F.drop k) := by
 have hlt2 : ∀ i (hi : i < F.length), i < k → cmpB F[i] t = -1 := fun i hi hik => by
  rcases Nat.lt_or_ge (i + 1) k with h | h
  ·have h1 := hlt (k - 1) (by omega) (by omega)
   have h2 := List.pairwise_iff_getElem.1 hA i (k - 1) hi (by omega) (by omega)
   exact cmpB_trans h2 h1
  ·exact hlt i hi (by omega)
 have hA2 := hA
 unfold AscS at hA2
 rw [← List.take_append_drop k F, List.pairwise_append] at hA2
 obtain ⟨h1, h2, h3⟩ := hA2
 refine List.pairwise_append.2 ⟨h1, List.pairwise_cons.2 ⟨fun b hb => ?_, h2⟩, fun a ha b hb => ?_⟩
 ·obtain ⟨j, hj, rfl⟩ := List.getElem_of_mem hb
  rw [List.getElem_drop]
  have := hgt (k + j) (by simp at hj; omega) (by omega)
  rw [cmpB_flip, this]
 ·rcases List.mem_cons.1 hb with rfl | hb
  ·obtain ⟨j, hj, rfl⟩ := List.getElem_of_mem ha
   rw [List.getElem_take]
   exact hlt2 _ (by simp at hj; omega) (by simp at hj; omega)
  ·exact h3 a ha b hb
theorem memS {F : List ByteArray} {t : ByteArray} {k : Nat} (x : ByteArray) : x ∈ F.take k ++ t :: F.drop k ↔ x = t ∨ x ∈ F := by
 rw [List.mem_append, List.mem_cons]
 constructor
 ·rintro (h | h | h)
  ·exact .inr (List.mem_of_mem_take h)
  ·exact .inl h
  ·exact .inr (List.mem_of_mem_drop h)
 ·rintro (h | h)
  ·exact .inr (.inl h)
  ·rw [← List.take_append_drop k F] at h
   rcases List.mem_append.1 h with h | h
   ·exact .inl h
   ·exact .inr (.inr h)
theorem infoStr : (Tryz.prog.info? 9).map (fun i => (i.zero, i.size, i.bytes)) = some (some (.string ⟨#[]⟩), 1, 16) := by kernel_rfl
theorem OutS.list {B : Nat} {w : World} {v : Value} {l : List ByteArray} (h : OutS B w v l) (hl : l.length ≤ 1000000000000000) : ∃ A c, v = .slice A l.length c ∧ ListS w l A := by
 rcases h.of with ⟨rfl, rfl⟩ | ⟨g, c, rfl, hg, hs⟩
 ·exact ⟨none, 0, rfl, ⟨0, 0, fun h => absurd h (by simp), by simp, fun i h => absurd h (by simp)⟩⟩
 ·exact ⟨_, _, rfl, hs.list hl⟩
structure Fr (v : Value) (w : World) (v' : Value) (w' : World) : Prop where
 keep : ∀ b, b < w.heap.size → v.ownBlock ≠ some b → w'.heap[b]? = w.heap[b]?
 own : v'.ownBlock = v.ownBlock ∨ ∃ b, v'.ownBlock = some b ∧ w.heap.size ≤ b
theorem Fr.refl (v : Value) (w : World) : Fr v w v w := ⟨fun _ _ _ => rfl, .inl rfl⟩
theorem Fr.trans {v v1 v2 : Value} {w w1 w2 : World} (h : Fr v w v1 w1) (h' : Fr v1 w1 v2 w2) (hs : w.heap.size ≤ w1.heap.size) : Fr v w v2 w2 := by
 refine ⟨fun b hb hn => ?_, ?_⟩
 ·refine (h'.keep b (by omega) ?_).trans (h.keep b hb hn)
  rcases h.own with e | ⟨c, e, hc⟩
  ·rw [e]; exact hn
  ·rw [e]; intro e2; injection e2 with e2; omega
 ·rcases h'.own with e | ⟨c, e, hc⟩
  ·rw [e]; exact h.own
  ·exact .inr ⟨c, e, by omega⟩
theorem Fr.world {v v' : Value} {w w0 w' : World} (h : Fr v w v' w') (hb : Below w0.heap.size w0 w) : Fr v w0 v' w' :=
 ⟨fun b hb2 hn => (h.keep b (Nat.lt_of_lt_of_le hb2 hb.size) hn).trans (hb.block b hb2), h.own.imp id fun ⟨b, e, hc⟩ => ⟨b, e, Nat.le_trans hb.size hc⟩⟩
def AddPost (v : Value) (B : Nat) (w : World) (l : List ByteArray) (s : ByteArray) : Ending → World → Prop := fun e w' => ∃ v' l', e = .returned v' ∧ OutS B w' v' l' ∧ AscS l' ∧ (∀ x, x ∈ l' ↔ x = s ∨ x ∈ l) ∧ l'.length ≤ l.length + 1 ∧ Below B w w' ∧ Fr v w v' w'
theorem inB_mem {l : List ByteArray} {s : ByteArray} : inB l s = true ↔ s ∈ l := by
 unfold inB
 rw [List.any_eq_true]
 constructor
 ·rintro ⟨x, hx, h⟩
  have := of_decide_eq_true h
  rw [← this]; exact hx
 ·exact fun h => ⟨s, h, decide_eq_true rfl⟩
set_option maxRecDepth 100000 in
set_option maxHeartbeats 16000000 in
theorem add_ref {B : Nat} {w : World} {v : Value} {l : List ByteArray} {s : ByteArray} (hO : OutS B w v l) (hA : AscS l) (hB : B ≤ w.heap.size) (hbd : l.length + 1 ≤ 1099511627776) :
  Calls Tryz.prog 61 #[v, .string s] w (AddPost v B w l s) := by
 obtain ⟨A, c, rfl, hL⟩ := hO.list (by omega)
 have KI := Lib.hid (in_ref (c := c) hL s)
 have HO := Lib.hid hO
 have HBD := Lib.hid hbd
 have HA := Lib.hid hA
 have HB := Lib.hid hB
 have hll : l.length ≤ 1099511627776 := by omega
 obtain ⟨i0, hi0, hz0, hz1, hz2⟩ := partsT infoStr
 unfold AddPost
 clear hL hO hA hB hbd
 cases hin : inB l s with
 | true =>
  have HM := Lib.hid (inB_mem.1 hin)
  rw [hin] at KI
  go_enter Tryz.func61, Tryz.ntmps61
  go_wp2_with fail
  refine KI.out.mono ?_
  rintro e w2 ⟨rfl, rfl⟩
  go_wp2_with fail
  go_ret
  exact ⟨_, l, rfl, HO.out, HA.out, fun x => ⟨.inr, fun h => h.elim (fun e => e ▸ HM.out) id⟩, by omega, Below.refl _ _, Fr.refl _ _⟩
 | false =>
  have HN : Hid (¬ s ∈ l) := Lib.hid (fun h => by rw [inB_mem.2 h] at hin; cases hin)
  rw [hin] at KI
  clear hin
  have HOWA : Hid ((w.alloc (.cells #[.string s] 9)).ownsRow B 9 1 (.slice A l.length c) l.length (l.map .string)) := Lib.hid (HO.out.later ((Below.refl _ _).alloc (Nat.le_refl _) _))
  have HC2 := Lib.hid (cellsT_new w [.string s] 9)
  have HLA : Hid ((l ++ [s]).length = l.length + 1) := Lib.hid (by simp)
  go_enter Tryz.func61, Tryz.ntmps61
  go_wp2_with fail
  refine KI.out.mono ?_
  rintro e w2 ⟨rfl, rfl⟩
  go_wp2_with (at_builtin; refine wpList_plain rfl fun K hK => ?_; go_loud (refine wp_append_own_at _ _ 56 rfl B 9 i0 (.string ⟨#[]⟩) 1 16 Tryz.underlying56 hi0 hz0 hz1 hz2 rfl (by decide) _ _ _ rfl HOWA.out ⟨w2.heap.size, 0, none⟩ 1 1 [.string s] rfl rfl ?a0 ?a1 ?a2 ?a3 ?a4 ?_))
  case a0 => exact HC2.out
  case a1 =>
   intro u hu
   simp only [List.mem_cons, List.not_mem_nil, or_false] at hu
   rw [hu]; rfl
  case a2 => have := HBD.out; unfold maxLen; omega
  case a3 => have := HBD.out; omega
  case a4 => have := HB.out; simp only [World.size_alloc]; omega
  intro v5 w5 hown5 hg5 _ hwhere
  refine hK _ _ ?_
  clear hK K
  have ho5 : OutS B w5 v5 (l ++ [s]) := by
   unfold OutS
   rw [HLA.out, List.map_append]
   exact hown5
  have hb5 : Below B w2 w5 := ((Below.refl B w2).alloc HB.out _).grown hg5 (by have := HB.out; simp only [World.size_alloc]; omega) fun k hk => (HOWA.out.lt k hk).1
  rcases ho5.of with ⟨-, hnil⟩ | ⟨g5, c5, rfl, hgg5, hin5⟩
  ·exact absurd hnil (by simp)
  have HIN5 := Lib.hid hin5
  have HGG := Lib.hid hgg5
  have HB5 := Lib.hid hb5
  have hg5n : ∀ b, b < w2.heap.size → (Value.slice A l.length c).ownBlock ≠ some b → b ≠ g5 := fun b hb hn e => by
   rcases hwhere with h | h
   ·exact hn (by rw [← h, e]; rfl)
   ·have h2 : g5 = w2.heap.size + 1 := by first | exact Option.some.inj h | (have h3 := Option.some.inj h; simpa using h3)
    omega
  have HGN := Lib.hid hg5n
  have HOWN : Hid ((Value.slice (some ⟨g5, 0, none⟩) (l.length + 1) c5).ownBlock = (Value.slice A l.length c).ownBlock ∨ ∃ b, (Value.slice (some ⟨g5, 0, none⟩) (l.length + 1) c5).ownBlock = some b ∧ w2.heap.size ≤ b) := Lib.hid (by
   rcases hwhere with h | h
   ·exact .inl h
   ·have h2 : g5 = w2.heap.size + 1 := by first | exact Option.some.inj h | (have h3 := Option.some.inj h; simpa using h3)
    exact .inr ⟨g5, rfl, by omega⟩)
  have HKP : Hid (∀ b, b < w2.heap.size → (Value.slice A l.length c).ownBlock ≠ some b → w5.heap[b]? = w2.heap[b]?) := Lib.hid fun b hb hn => (hg5.block b (by simp only [World.size_alloc]; omega) hn.symm).trans (Below.heap_alloc _ _ _ hb)
  rw [HLA.out]
  have wr9 : wrap64 (((l.length + 1 : Nat) : Int) - 1) = ((l.length : Nat) : Int) := by rw [wrap_in (by omega) (by omega)]; omega
  clear hown5 hg5 ho5 hb5 hin5 hgg5 hwhere hg5n
  go_wp2_with fail
  go_loopw [5] (fun v wr => ∃ (k : Nat) (x : ByteArray), k ≤ l.length ∧ v = .int .i64 k ∧ StrI wr g5 c5 (l.take k ++ x :: l.drop k) ∧ (∀ j (h : j < l.length), k ≤ j → cmpB l[j] s = 1) ∧ Below B w2 wr ∧ (∀ b, b < w2.heap.size → (Value.slice A l.length c).ownBlock ≠ some b → wr.heap[b]? = w2.heap[b]?)) (fun v _ => (intOf v).toNat)
  case atStart => exact ⟨l.length, s, Nat.le_refl _, by first | rfl | rw [wr9], by rw [List.take_length, List.drop_length]; exact HIN5.out, fun j h hj => absurd h (by omega), HB5.out, HKP.out⟩
  case round =>
   obtain ⟨k, x, hkl, rfl, hrow, hgt, hbr, hkp⟩ := hrel
   have HKR : Hid (∀ j y, ∀ b, b < w2.heap.size → (Value.slice A l.length c).ownBlock ≠ some b → (wr.setCell ⟨g5, j, none⟩ y).heap[b]? = w2.heap[b]?) := Lib.hid fun j y b hb hn => (Below.heap_setCell _ _ _ _ (HGN.out b hb hn)).trans (hkp b hb hn)
   clear hkp
   have HGT := Lib.hid hgt
   have HBR := Lib.hid hbr
   have hltk : (l.take k).length = k := by simp; omega
   have hset := hrow.set (s := s)
   rw [hltk] at hset
   have hcx := hrow.reps k x (by rw [List.getElem?_append_right (by omega), hltk, Nat.sub_self]; rfl)
   obtain ⟨cur, hcur, -⟩ := hrow.blk
   have hfr : ∀ o, wr.frozen? ⟨g5, o, none⟩ = false := fun o => Lib.frozen_of_heap hcur o
   have HFIN : Hid ((∀ j (h : j < l.length), j + 1 = k → cmpB l[j] s = -1) → ∃ v' l', Ending.returned (.slice (some ⟨g5, 0, none⟩) (l.length + 1) c5) = .returned v' ∧ OutS B (wr.setCell ⟨g5, k, none⟩ (.string s)) v' l' ∧ AscS l' ∧ (∀ x, x ∈ l' ↔ x = s ∨ x ∈ l) ∧ l'.length ≤ l.length + 1 ∧ Below B w2 (wr.setCell ⟨g5, k, none⟩ (.string s)) ∧ Fr (.slice A l.length c) w2 v' (wr.setCell ⟨g5, k, none⟩ (.string s))) := Lib.hid fun hlt => by
    have hl : (l.take k ++ s :: l.drop k).length = l.length + 1 := by simp; omega
    have h1 := hset.out HGG.out
    rw [hl] at h1
    exact ⟨_, _, rfl, h1, putS HA.out hkl HGT.out hlt, memS, by omega, hbr.setCell HGG.out _, HKR.out _ _, HOWN.out⟩
   have i2 : (k : Int) < (l.length : Int) + 1 := by omega
   have i3 : (0 : Int) ≤ (k : Int) := by omega
   by_cases hk0 : k = 0
   ·subst hk0
    have HF2 := Lib.hid (HFIN.out fun j _ hj => absurd hj (by omega))
    clear hkl hrow hgt hbr hltk hset hcur HFIN
    go_wp2_with fail
    go_ret
    exact HF2.out
   ·obtain ⟨j, rfl⟩ : ∃ j, k = j + 1 := ⟨k - 1, by omega⟩
    have hjl : j < l.length := by omega
    have hcj := hrow.reps j l[j] (by rw [List.getElem?_append_left (by omega), List.getElem?_take, if_pos (by omega)]; exact List.getElem?_eq_getElem hjl)
    have hset2 := hrow.set (s := l[j])
    rw [hltk] at hset2
    have HSET : Hid (StrI (wr.setCell ⟨g5, j + 1, none⟩ (.string l[j])) g5 c5 (l.take j ++ l[j] :: l.drop j)) := Lib.hid (by
     have e1 : l.take (j + 1) = l.take j ++ [l[j]] := List.take_succ_eq_append_getElem hjl
     rw [e1, List.append_assoc] at hset2
     rw [List.drop_eq_getElem_cons hjl]
     exact hset2)
    have HNE : Hid (l[j] ≠ s) := Lib.hid fun e => HN.out (e ▸ List.getElem_mem hjl)
    have HGJ : Hid (cmpB l[j] s = 1 → ∀ a (h : a < l.length), j ≤ a → cmpB l[a] s = 1) := Lib.hid fun e a h ha => by
     rcases Nat.lt_or_ge j a with h1 | h1
     ·exact HGT.out a h (by omega)
     ·have : a = j := by omega
      subst this
      exact e
    have HLJ : Hid (cmpB l[j] s = -1 → ∀ a (h : a < l.length), a + 1 = j + 1 → cmpB l[a] s = -1) := Lib.hid fun e a h ha => by
     have : a = j := by omega
     subst this
     exact e
    have HBS := Lib.hid (fun y => hbr.setCell (p := ⟨g5, j + 1, none⟩) HGG.out y)
    have HJL : Hid (j ≤ l.length) := Lib.hid (by omega)
    have hcs := cmpB_cases l[j] s
    generalize l[j] = y at hcj HSET HNE HGJ HLJ hcs
    have wr1 : wrap64 (((j + 1 : Nat) : Int) - 1) = ((j : Nat) : Int) := by rw [wrap_in (by omega) (by omega)]; omega
    have wr3 : wrap64 (j : Int) = (j : Int) := wrap_in (by omega) (by omega)
    have i4 : (0 : Int) ≤ (j : Int) := by omega
    have i5 : (j : Int) < (l.length : Int) + 1 := by omega
    have i6 : (j : Int) + 1 < (l.length : Int) + 1 := by omega
    clear hkl hrow hgt hbr hltk hset hset2 hcur hk0 hjl
    rcases hcs with ⟨ga, gb, ge⟩ | ⟨ga, gb, ge⟩ | ⟨ga, gb, ge⟩
    ·have HF2 := Lib.hid (HFIN.out (HLJ.out ge))
     clear HFIN ge
     go_wp2_with fail
     go_ret
     exact HF2.out
    ·have HG2 := Lib.hid (HGJ.out ge)
     clear HFIN ge
     go_wp2_with fail
     refine ⟨⟨j, y, HJL.out, by first | rfl | (rw [wr1]) | (rw [wr3]), HSET.out, HG2.out, HBS.out _, HKR.out _ _⟩, ?_⟩
     first | (simp only [intOf]; omega) | (rw [wr1]; simp only [intOf]; omega) | (rw [wr3]; simp only [intOf]; omega)
    ·exact absurd (cmpB_zero ge) HNE.out
end Go.Proofs.YtfchnfnifpopnaaGreatDoor
