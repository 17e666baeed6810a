import Derived.Test.YtgjblmlibhppiaaGreatDoorMy7
namespace Go.Proofs.YtgjblmlibhppiaaGreatDoor
set_option maxRecDepth 100000
set_option maxHeartbeats 64000000
open Go.RowKit
def sgn (x y : Bool) : Int := if x then -1 else if y then 1 else 0
theorem sign_any (x y : Bool) (w : World) : Calls Tryz.prog 41 #[.bool x, .bool y] w fun e w' => e = .returned (.int .i64 (sgn x y)) ∧ w' = w := by
 cases x <;> cases y
 all_goals
  go_enter Tryz.func41, Tryz.ntmps41
  go_wp2_with fail
  go_ret
  exact ⟨rfl, rfl⟩
theorem cmpZ_cases (x y : Int) : (x < y ∧ ¬ y < x ∧ cmpZ x y = -1) ∨ (¬ x < y ∧ y < x ∧ cmpZ x y = 1) ∨ (¬ x < y ∧ ¬ y < x ∧ cmpZ x y = 0) := by
 unfold cmpZ
 by_cases h : x < y
 ·exact .inl ⟨h, by omega, by rw [if_pos h]⟩
 ·by_cases h2 : y < x
  ·exact .inr (.inl ⟨h, h2, by rw [if_neg h, if_pos h2]⟩)
  ·exact .inr (.inr ⟨h, h2, by rw [if_neg h, if_neg h2]⟩)
theorem cmpB_cases (x y : ByteArray) : (Op.bytesLess x.toList y.toList = true ∧ (x.toList == y.toList) = false ∧ cmpB x y = -1) ∨ (Op.bytesLess x.toList y.toList = false ∧ (x.toList == y.toList) = false ∧ cmpB x y = 1) ∨ (Op.bytesLess x.toList y.toList = false ∧ (x.toList == y.toList) = true ∧ cmpB x y = 0) := by
 have h1 := less_iff x y
 have h2 := gtr_iff x y
 unfold cmpB
 by_cases h : x.data.toList < y.data.toList
 ·refine .inl ⟨by rw [h1]; simpa using h, ?_, by rw [if_pos h]⟩
  rw [ByteArray.toList_eq, ByteArray.toList_eq]
  exact beq_eq_false_iff_ne.2 fun e => List.lt_irrefl _ (e ▸ h)
 ·have e1 : Op.bytesLess x.toList y.toList = false := by rw [h1]; simpa using h
  rw [e1, Bool.false_or] at h2
  by_cases h3 : y.data.toList < x.data.toList
  ·refine .inr (.inl ⟨e1, ?_, by rw [if_neg h, if_pos h3]⟩)
   have : (!(x.toList == y.toList)) = true := by rw [h2]; simpa using h3
   simpa using this
  ·refine .inr (.inr ⟨e1, ?_, by rw [if_neg h, if_neg h3]⟩)
   have : (!(x.toList == y.toList)) = false := by rw [h2]; simpa using h3
   simpa using this
def OrdR (t : Ty) : Prop := ∀ (K K' : Nat → Prop) (t' : Ty) (w : World) (cs cs' : List Value), RepT K w t cs → RepT K' w t' cs' → Calls Tryz.prog 21 #[.agg cs.toArray, .agg cs'.toArray] w fun e w' => e = .returned (.int .i64 (ordT t t')) ∧ Gw w w'
theorem AtT.six2 {K : Nat → Prop} {w : World} {t : Ty} {b o : Nat} (h : AtT K w t b o) : ∃ x0 x1 x2 x3 x4 x5 x6 x7 x8 x9 xa xb, (w.cell? ⟨b, o, none⟩ = some (.int .i64 x0) ∧ w.cell? ⟨b, o + 1, none⟩ = some (.string x1) ∧ w.cell? ⟨b, o + 2, none⟩ = some (.int .i64 x2) ∧ w.cell? ⟨b, o + 3, none⟩ = some (.slice x3 x4 x5) ∧ w.cell? ⟨b, o + 4, none⟩ = some (.slice x6 x7 x8) ∧ w.cell? ⟨b, o + 5, none⟩ = some (.slice x9 xa xb)) ∧ RepT K w t [.int .i64 x0, .string x1, .int .i64 x2, .slice x3 x4 x5, .slice x6 x7 x8, .slice x9 xa xb] := by
 obtain ⟨k, s, n, A, lp, c, A', lf, c', A'', lv, c'', hr, e0, e1, e2, e3, e4, e5⟩ := h.vals
 exact ⟨k, s, n, A, lp, c, A', lf, c', A'', lv, c'', ⟨e0, e1, e2, e3, e4, e5⟩, hr⟩
theorem list_ref (l l' : List (Ty)) (h : ∀ p ∈ l, OrdR p) {K K' : Nat → Prop} {w : World} {A A' : Option Addr} {c c' : Nat} (h1 : ListT K w l A c) (h2 : ListT K' w l' A' c') :
  Calls Tryz.prog 42 #[.slice A l.length c, .slice A' l'.length c'] w fun e w' => e = .returned (.int .i64 (lexC (rowE flat l) (rowE flat l'))) ∧ Gw w w' := by
 have H1 := Hd h1
 have H2 := Hd h2
 have HI := Hd h
 have hl1 : l.length ≤ 1000000000000000 := by obtain ⟨_, _, hr, _⟩ := h1; exact hr.big
 have hl2 : l'.length ≤ 1000000000000000 := by obtain ⟨_, _, hr, _⟩ := h2; exact hr.big
 clear h h1 h2
 by_cases heq : l.length = l'.length
 ·rw [row_same flat heq]
  generalize hres : restC flat l l' 0 = res
  have HRES := Hd hres
  have HEQ := Hd heq
  rw [← heq]
  have hirr : ¬ l.length < l.length := Nat.lt_irrefl _
  clear hres heq hl2
  go_enter Tryz.func42, Tryz.ntmps42
  go_wp2_with fail
  refine (sign_any _ _ _).mono ?_
  rintro e w1 ⟨rfl, rfl⟩
  simp only [sgn]
  go_wp2_with fail
  go_loopw [5, 6] (fun vc vi wr => ∃ (cc : Int) (i : Nat), i ≤ l.length ∧ vc = .int .i64 cc ∧ vi = .int .i64 i ∧ or2 cc (restC flat l l' i) = res ∧ Gw w1 wr) (fun _ vi _ => l.length - (intOf vi).toNat)
  case atStart => exact ⟨0, 0, by omega, by first | rfl | simp, rfl, by rw [or2_zero]; exact HRES.out, Gw.refl _⟩
  case round =>
   obtain ⟨cc, i, hi, rfl, rfl, ho, hb⟩ := hrel
   have HO := Hd ho
   have HB := Hd hb
   clear ho
   by_cases hcc : cc = 0
   ·subst hcc
    by_cases hin : i < l.length
    ·have t1 : decide ((i : Int) < (l.length : Int)) = true := by simp; omega
     have wr2 : wrap64 ((i : Int) + 1) = ((i + 1 : Nat) : Int) := wrap_one (by omega)
     have HM := Hd (measI hin)
     have hin' : i < l'.length := by rw [← HEQ.out]; exact hin
     have hstep := rest_step flat cleanT HEQ.out hin hin'
     have hval : or2 (lexC (flat l[i]) (flat l'[i])) (restC flat l l' (i + 1)) = res := by rw [← hstep, ← or2_zero (restC flat l l' i)]; exact HO.out
     obtain ⟨b, o, hA, _, hat⟩ := H1.out.at (by omega)
     obtain ⟨b', o', hA', _, hat'⟩ := H2.out.at (by omega)
     subst hA hA'
     have i0 : (0 : Int) ≤ (i : Int) := by omega
     have i1 : (i : Int) < (l.length : Int) := by omega
     clear hstep
     have HLE : Hid (i + 1 ≤ l.length) := Hd hin
     obtain ⟨p0, p1, p2, p3, p4, p5, p6, p7, p8, p9, pa, pb, hp, hrp⟩ := ((hat i hin).later hb.below).six2
     obtain ⟨q0, q1, q2, q3, q4, q5, q6, q7, q8, q9, qa, qb, hq, hrq⟩ := ((hat' i hin').later hb.below).six2
     have KO : Hid (∀ wx, Below wr.heap.size wr wx → Calls Tryz.prog 21 #[.agg #[.int .i64 p0, .string p1, .int .i64 p2, .slice p3 p4 p5, .slice p6 p7 p8, .slice p9 pa pb], .agg #[.int .i64 q0, .string q1, .int .i64 q2, .slice q3 q4 q5, .slice q6 q7 q8, .slice q9 qa qb]] wx fun e w' => e = .returned (.int .i64 (ordT (l[i]'hin) (l'[i]'hin'))) ∧ Gw wx w') := Hd fun wx hx => HI.out _ (List.getElem_mem hin) K K' (l'[i]'hin') wx _ _ (hrp.later hx) (hrq.later hx)
     have HC : Hid (∀ wx, Below wr.heap.size wr wx → (wx.cell? ⟨b, o + i * 6, none⟩ = some (.int .i64 p0) ∧ wx.cell? ⟨b, o + i * 6 + 1, none⟩ = some (.string p1) ∧ wx.cell? ⟨b, o + i * 6 + 2, none⟩ = some (.int .i64 p2) ∧ wx.cell? ⟨b, o + i * 6 + 3, none⟩ = some (.slice p3 p4 p5) ∧ wx.cell? ⟨b, o + i * 6 + 4, none⟩ = some (.slice p6 p7 p8) ∧ wx.cell? ⟨b, o + i * 6 + 5, none⟩ = some (.slice p9 pa pb)) ∧ wx.cell? ⟨b', o' + i * 6, none⟩ = some (.int .i64 q0) ∧ wx.cell? ⟨b', o' + i * 6 + 1, none⟩ = some (.string q1) ∧ wx.cell? ⟨b', o' + i * 6 + 2, none⟩ = some (.int .i64 q2) ∧ wx.cell? ⟨b', o' + i * 6 + 3, none⟩ = some (.slice q3 q4 q5) ∧ wx.cell? ⟨b', o' + i * 6 + 4, none⟩ = some (.slice q6 q7 q8) ∧ wx.cell? ⟨b', o' + i * 6 + 5, none⟩ = some (.slice q9 qa qb)) := Hd fun wx hx => ⟨⟨cell_stays hx hp.1, cell_stays hx hp.2.1, cell_stays hx hp.2.2.1, cell_stays hx hp.2.2.2.1, cell_stays hx hp.2.2.2.2.1, cell_stays hx hp.2.2.2.2.2⟩, ⟨cell_stays hx hq.1, cell_stays hx hq.2.1, cell_stays hx hq.2.2.1, cell_stays hx hq.2.2.2.1, cell_stays hx hq.2.2.2.2.1, cell_stays hx hq.2.2.2.2.2⟩⟩
     have hval2 : or2 (ordT (l[i]'hin) (l'[i]'hin')) (restC flat l l' (i + 1)) = res := hval
     have HV := Hd hval2
     generalize ordT (l[i]'hin) (l'[i]'hin') = oo at KO HV
     clear hat hat' hp hq hrp hrq hval hval2 hi hb
     go_wp2_with fail
     refine wp_region_held_drew (S := (fun w' => (w'.cell? ⟨b, o + i * 6, none⟩ = some (.int .i64 p0) ∧ w'.cell? ⟨b, o + i * 6 + 1, none⟩ = some (.string p1) ∧ w'.cell? ⟨b, o + i * 6 + 2, none⟩ = some (.int .i64 p2) ∧ w'.cell? ⟨b, o + i * 6 + 3, none⟩ = some (.slice p3 p4 p5) ∧ w'.cell? ⟨b, o + i * 6 + 4, none⟩ = some (.slice p6 p7 p8) ∧ w'.cell? ⟨b, o + i * 6 + 5, none⟩ = some (.slice p9 pa pb)) ∧ w'.cell? ⟨b', o' + i * 6, none⟩ = some (.int .i64 q0) ∧ w'.cell? ⟨b', o' + i * 6 + 1, none⟩ = some (.string q1) ∧ w'.cell? ⟨b', o' + i * 6 + 2, none⟩ = some (.int .i64 q2) ∧ w'.cell? ⟨b', o' + i * 6 + 3, none⟩ = some (.slice q3 q4 q5) ∧ w'.cell? ⟨b', o' + i * 6 + 4, none⟩ = some (.slice q6 q7 q8) ∧ w'.cell? ⟨b', o' + i * 6 + 5, none⟩ = some (.slice q9 qa qb))) (by kernel_rfl) (HC.out _ (Below.refl _ _).drew) (fun hHeld => ?_)
     refine Plan.start [0, 1, 2, 3, 4, 5, 6, 7] ?_
     iterate 8 (refine Plan.tk (so rfl) hHeld ?_; try simp only [Act.put, pz1, pz2, pz3])
     refine Plan.done ?_
     refine wpAnyH_ready (rs := [8]) (by kernel_rfl) (by simp) ?_
     refine AllReadyH.cons (sd (some 36) rfl) (fun K hK => ?_) AllReadyH.nil
     go_simp
     refine (KO.out _ (Below.refl _ _).drew).mono ?_
     rintro e w2 ⟨rfl, hb2⟩
     have HB2 := Hd ((Below.refl wr.heap.size wr).drew.trans hb2.below)
     have HG2 := Hd ((HB.out.drew).trans hb2)
     clear hb2
     go_wp2_with fail
     refine hK.out _ _ (HC.out _ HB2.out) (fun hHeld => ?_)
     clear hK K
     try simp only [Act.put, pz1, pz2, pz3]
     refine Plan.start [9] ?_
     refine Plan.tk (so rfl) hHeld ?_
     try simp only [Act.put, pz1, pz2, pz3]
     refine Plan.done ?_
     refine wpAnyH_done (by kernel_rfl) ?_ _
     clear hHeld
     clear i0 i1 t1
     go_wp2_with fail
     refine ⟨⟨oo, i + 1, HLE.out, by first | rfl | trivial, by first | rfl | rw [wr2], HV.out, HG2.out⟩, ?_⟩
     first | exact HM.out | (rw [wr2]; exact HM.out)
    ·have t1 : decide ((i : Int) < (l.length : Int)) = false := by simp; omega
     have HR : Hid (res = 0) := Hd (by
      have h := HO.out
      rw [show i = l.length from by omega, rest_end flat HEQ.out, or2_zero] at h
      exact h.symm)
     clear hi hb
     go_wp2_with fail
     go_ret
     exact ⟨by rw [HR.out]; rfl, HB.out⟩
   ·have hc0 : (cc == 0) = false := by simpa using hcc
    have HR : Hid (res = cc) := Hd (by rw [← HO.out, or2_ne hcc])
    clear hi hb hcc
    go_wp2_with fail
    go_ret
    exact ⟨by rw [HR.out]; rfl, HB.out⟩
 ·rw [row_len flat heq]
  rcases cmpZ_cases (l.length : Int) (l'.length : Int) with ⟨ha, hb, he⟩ | ⟨ha, hb, he⟩ | ⟨ha, hb, he⟩
  ·have HE := Hd he
   have n1 : l.length < l'.length := by omega
   have n2 : ¬ l'.length < l.length := by omega
   clear he heq ha hb
   go_enter Tryz.func42, Tryz.ntmps42
   go_wp2_with fail
   refine (sign_any _ _ _).mono ?_
   rintro e w1 ⟨rfl, rfl⟩
   simp only [sgn]
   go_wp2_with fail
   go_loopw [5, 6] (fun vc _ wr => vc = .int .i64 (-1) ∧ wr = w1) (fun _ _ _ => 0)
   case atStart => exact ⟨by first | rfl | simp, rfl⟩
   case round =>
    obtain ⟨rfl, rfl⟩ := hrel
    go_wp2_with fail
    go_ret
    exact ⟨by rw [HE.out]; rfl, Gw.refl _⟩
  ·have HE := Hd he
   have n1 : ¬ l.length < l'.length := by omega
   have n2 : l'.length < l.length := by omega
   clear he heq ha hb
   go_enter Tryz.func42, Tryz.ntmps42
   go_wp2_with fail
   refine (sign_any _ _ _).mono ?_
   rintro e w1 ⟨rfl, rfl⟩
   simp only [sgn]
   go_wp2_with fail
   go_loopw [5, 6] (fun vc _ wr => vc = .int .i64 (1) ∧ wr = w1) (fun _ _ _ => 0)
   case atStart => exact ⟨by first | rfl | simp, rfl⟩
   case round =>
    obtain ⟨rfl, rfl⟩ := hrel
    go_wp2_with fail
    go_ret
    exact ⟨by rw [HE.out]; rfl, Gw.refl _⟩
  ·exact absurd heq (by omega)
theorem rep_never (K : Nat → Prop) (w : World) : RepT K w (tyK 1) [.int .i64 1, .string ⟨#[]⟩, .int .i64 0, .slice none 0 0, .slice none 0 0, .slice none 0 0] :=
 RepT.of (by decide) ⟨⟨0, 0, ⟨by simp, by decide, fun _ => rfl, fun h => absurd h (by simp)⟩, fun i h => absurd h (by simp)⟩⟩ ⟨⟨0, 0, ⟨by simp, by decide, fun _ => rfl, fun h => absurd h (by simp)⟩, fun i h => absurd h (by simp)⟩⟩ ⟨⟨0, 0, ⟨by simp, by decide, fun _ => rfl, fun h => absurd h (by simp)⟩, fun i h => absurd h (by simp)⟩⟩
theorem six_other {b : Nat} (W : World) (y0 y1 y2 y3 y4 y5 : Value) {p : Addr} (h : p.block ≠ b) : ((((((W.setCell ⟨b, 0, none⟩ y0).setCell ⟨b, 1, none⟩ y1).setCell ⟨b, 2, none⟩ y2).setCell ⟨b, 3, none⟩ y3).setCell ⟨b, 4, none⟩ y4).setCell ⟨b, 5, none⟩ y5).cell? p = W.cell? p := by
 refine World.cell?_of_block ?_
 rw [Below.heap_setCell _ _ _ _ h, Below.heap_setCell _ _ _ _ h, Below.heap_setCell _ _ _ _ h, Below.heap_setCell _ _ _ _ h, Below.heap_setCell _ _ _ _ h, Below.heap_setCell _ _ _ _ h]
theorem rep_box {K : Nat → Prop} {w w1 W : World} {t : Ty} {cs : List Value} (h : RepT K w1 t cs) (hlo : ∀ b, K b → b < w.heap.size) (hb : Below w1.heap.size w1 W) (y0 y1 y2 y3 y4 y5 : Value) :
  RepT (fun b => K b ∨ w.heap.size ≤ b) ((((((W.setCell ⟨w.heap.size, 0, none⟩ y0).setCell ⟨w.heap.size, 1, none⟩ y1).setCell ⟨w.heap.size, 2, none⟩ y2).setCell ⟨w.heap.size, 3, none⟩ y3).setCell ⟨w.heap.size, 4, none⟩ y4).setCell ⟨w.heap.size, 5, none⟩ y5) t cs :=
 RepT.keep (fun _ h => .inl h) (fun b o v hk hc => by
  rw [six_other W y0 y1 y2 y3 y4 y5 (p := ⟨b, o, none⟩) (by have := hlo b hk; show b ≠ _; omega)]
  exact cell_stays hb hc) t cs h
theorem set_six_below {B b : Nat} {a W : World} (h : Below B a W) (hb : B ≤ b) (y0 y1 y2 y3 y4 y5 : Value) : Below B a ((((((W.setCell ⟨b, 0, none⟩ y0).setCell ⟨b, 1, none⟩ y1).setCell ⟨b, 2, none⟩ y2).setCell ⟨b, 3, none⟩ y3).setCell ⟨b, 4, none⟩ y4).setCell ⟨b, 5, none⟩ y5) :=
 (((((h.setCell hb y0).setCell hb y1).setCell hb y2).setCell hb y3).setCell hb y4).setCell hb y5
def okU (l : List Ty) (i : Nat) : Bool := match l[i]? with
 | none => true
 | some t => !(t.k == 15) && (match i with | 0 => true | j + 1 => match l[j]? with | none => true | some p => decide (ordT p t < 0))
def isUB (l : List Ty) : Bool := (List.range l.length).all (okU l) && l.all (keepT (kindsOf l))
theorem okU_all {l : List Ty} {i : Nat} : (∀ j, j < i + 1 → okU l j = true) ↔ (∀ j, j < i → okU l j = true) ∧ okU l i = true :=
 ⟨fun h => ⟨fun j hj => h j (by omega), h i (by omega)⟩, fun h j hj => by rcases Nat.lt_or_ge j i with h1 | h1; exact h.1 j h1; rw [show j = i from by omega]; exact h.2⟩
theorem range_all {n : Nat} {p : Nat → Bool} : (List.range n).all p = true ↔ ∀ j, j < n → p j = true := by simp [List.all_eq_true]
theorem isUB_no {l : List Ty} {i : Nat} (hi : i < l.length) (h : okU l i = false) : isUB l = false := by
 unfold isUB
 rw [Bool.and_eq_false_iff]
 exact .inl (Bool.eq_false_iff.2 fun h2 => by have := range_all.1 h2 i hi; rw [h] at this; cases this)
theorem isUB_keep {l : List Ty} {i : Nat} (hi : i < l.length) (h : keepT (kindsOf l) l[i] = false) : isUB l = false := by
 unfold isUB
 rw [Bool.and_eq_false_iff]
 exact .inr (Bool.eq_false_iff.2 fun h2 => by have := List.all_eq_true.1 h2 l[i] (List.getElem_mem hi); rw [h] at this; cases this)
theorem seeL_take {l : List Ty} {i : Nat} (h : i < l.length) (x : Kinds) : seeL x (l.take (i + 1)) = seeK (seeL x (l.take i)) l[i].k := by
 rw [List.take_succ_eq_append_getElem h, seeL_app]; rfl
structure IsR (w wr : World) (l : List Ty) (i : Nat) : Prop where
 le : i ≤ l.length
 ok : ∀ j, j < i → okU l j = true
 kb : KB wr w.heap.size (seeL ⟨false, false, false, false⟩ (l.take i))
 below : Below w.heap.size w wr
theorem IsR.lt {w wr : World} {l : List Ty} {i : Nat} (h : IsR w wr l i) : w.heap.size < wr.heap.size := (Array.getElem?_eq_some_iff.1 h.kb).1
theorem IsR.next {w wr wy wz : World} {l : List Ty} {i : Nat} (h : IsR w wr l i) (hi : i < l.length) (hok : okU l i = true) (hy : Below wr.heap.size wr wy) (hk : KB wz w.heap.size (seeK (seeL ⟨false, false, false, false⟩ (l.take i)) l[i].k)) (hs : SetAt w.heap.size wy wz) : IsR w wz l (i + 1) :=
 ⟨hi, okU_all.2 ⟨h.ok, hok⟩, by rw [seeL_take hi]; exact hk, hs.below (h.below.trans (hy.mono h.below.size)) (Nat.le_refl _)⟩
theorem isU_any {K : Nat → Prop} {w : World} {l : List Ty} {A : Option Addr} {c : Nat} (hL : ListT K w l A c) :
  Calls Tryz.prog 118 #[.slice A l.length c] w fun e w' => e = .returned (.bool (isUB l)) ∧ Below w.heap.size w w' := by
 have HL := Hd hL
 have hll := hL.short
 have HST : Hid (IsR w (w.alloc (.cells #[.bool false, .bool false, .bool false, .bool false] 106)) l 0) := Hd ⟨Nat.zero_le _, fun j hj => absurd hj (by omega), heap_alloc_new w _, (Below.refl _ _).alloc (Nat.le_refl _) _⟩
 clear hL
 go_enter Tryz.func118, Tryz.ntmps118
 go_wp2_with fail
 go_loopw [8] (fun v wr => ∃ i : Nat, v = .int .i64 (i : Int) ∧ IsR w wr l i) (fun v _ => l.length - (intOf v).toNat)
 case atStart => exact ⟨0, rfl, HST.out⟩
 case round =>
  obtain ⟨i, rfl, hr⟩ := hrel
  have HR := Hd hr
  have hle := hr.le
  by_cases hlt : i < l.length
  ·have t1 : decide ((i : Int) < (l.length : Int)) = true := by simp; omega
   have wr2 : wrap64 ((i : Int) + 1) = ((i + 1 : Nat) : Int) := wrap_one (by omega)
   have HM := Hd (measI hlt)
   obtain ⟨b, o, hA, _, hat⟩ := HL.out.at (by omega)
   subst hA
   have hti : l[i]? = some l[i] := List.getElem?_eq_getElem hlt
   have HAT := Hd fun (j : Nat) (hj : j < l.length) => (hat j hj).later hr.below
   obtain ⟨k, hk, hck⟩ : ∃ k, l[i].k = k ∧ wr.cell? ⟨b, o + i * 6, none⟩ = some (.int .i64 k) := by
    have h1 := HAT.out i hlt
    generalize l[i] = t at h1
    obtain ⟨k, s, n, ps, fs, vs⟩ := t
    obtain ⟨_, _, _, _, _, _, ⟨x0, _⟩, _⟩ := h1.six
    exact ⟨k, rfl, x0⟩
   have HCK : Hid (∀ wx, Below wr.heap.size wr wx → wx.cell? ⟨b, o + i * 6, none⟩ = some (.int .i64 k)) := Hd fun wx hx => cell_stays hx hck
   have HSEE : Hid (∀ wy, Below wr.heap.size wr wy → Calls Tryz.prog 100 #[.pointer (some ⟨w.heap.size, 0, none⟩), .pointer (some ⟨b, o + i * 6, none⟩)] wy fun e w' => e = .returned (.tuple #[]) ∧ KB w' w.heap.size (seeK (seeL ⟨false, false, false, false⟩ (l.take i)) k) ∧ SetAt w.heap.size wy w') := Hd fun wy hy => see_any (by unfold KB; rw [hy.block _ hr.lt]; exact hr.kb) (cell_stays hy hck)
   have HNX : Hid (okU l i = true → ∀ wy wz, Below wr.heap.size wr wy → KB wz w.heap.size (seeK (seeL ⟨false, false, false, false⟩ (l.take i)) k) → SetAt w.heap.size wy wz → IsR w wz l (i + 1)) := Hd fun hok wy wz hy hk2 hs => hr.next hlt hok hy (by rw [hk]; exact hk2) hs
   by_cases hk15 : k = 15
   ·have HNO : Hid (isUB l = false) := Hd (isUB_no hlt (by unfold okU; rw [hti]; simp [hk, hk15]))
    have HB9 := Hd hr.below
    clear hat hr hle hti hck HNX HSEE hk
    subst hk15
    go_wp2_with fail
    refine wp_region_held_drew (S := (fun w' => w'.cell? ⟨b, o + i * 6, none⟩ = some (.int .i64 15))) (by kernel_rfl) (HCK.out _ (Below.refl _ _).drew) (fun hHeld => ?_)
    refine Plan.start [0, 1, 2, 3, 4, 5, 6] ?_
    iterate 7 (refine Plan.tk (so rfl) hHeld ?_; try simp only [Act.put, pz1, pz2, pz3])
    refine Plan.done ?_
    refine Plan.start [7, 8, 9, 10, 11, 12, 13, 14, 15, 16, 17, 18, 19] ?_
    iterate 13 (refine Plan.take (v := undef) (so rfl) (by kernel_rfl) (by kernel_rfl) (by kernel_rfl) (fun _ _ _ h => h) (Or.inr ⟨by rfl, rfl⟩) hHeld ?_; try simp only [Act.put, pz1, pz2, pz3])
    refine Plan.done ?_
    refine Plan.start [20] ?_
    refine Plan.tk (so rfl) hHeld ?_
    try simp only [Act.put, pz1, pz2, pz3]
    refine Plan.done ?_
    refine wpAnyH_done (by kernel_rfl) ?_ _
    clear hHeld
    clear HCK HR
    go_wp2_with fail
    go_ret
    exact ⟨by rw [HNO.out]; rfl, HB9.out.drew⟩
   ·have tk : (k == 15) = false := by simpa using hk15
    cases i with
    | zero =>
     have HOK : Hid (okU l 0 = true) := Hd (by unfold okU; rw [hti]; simp [hk, hk15])
     simp only [Nat.zero_mul, Nat.add_zero] at HCK HSEE
     clear hat hr hle hti hck hk hk15
     go_wp2_with fail
     refine wp_region_held_drew (S := (fun w' => w'.cell? ⟨b, o, none⟩ = some (.int .i64 k))) (by kernel_rfl) (HCK.out _ (Below.refl _ _).drew) (fun hHeld => ?_)
     refine Plan.start [0, 1, 2, 3, 4, 5, 6, 7, 8, 9] ?_
     iterate 10 (refine Plan.tk (so rfl) hHeld ?_; try simp only [Act.put, pz1, pz2, pz3])
     refine Plan.done ?_
     refine Plan.start [10, 11, 12, 13, 14, 15, 16, 17, 18] ?_
     iterate 9 (refine Plan.take (v := undef) (so rfl) (by kernel_rfl) (by kernel_rfl) (by kernel_rfl) (fun _ _ _ h => h) (Or.inr ⟨by rfl, rfl⟩) hHeld ?_; try simp only [Act.put, pz1, pz2, pz3])
     refine Plan.done ?_
     refine Plan.start [19, 20] ?_
     iterate 2 (refine Plan.tk (so rfl) hHeld ?_; try simp only [Act.put, pz1, pz2, pz3])
     refine Plan.done ?_
     refine wpAnyH_done (by kernel_rfl) ?_ _
     clear hHeld
     go_wp2_with fail
     refine (HSEE.out _ (Below.refl _ _).drew).mono ?_
     rintro e w3 ⟨rfl, hkb3, hs3⟩
     have HI3 := Hd (HNX.out HOK.out _ _ (Below.refl _ _).drew hkb3 hs3)
     clear hkb3 hs3 HSEE HNX
     go_wp2_with fail
     refine ⟨⟨0 + 1, by first | rfl | rw [wr2], HI3.out⟩, ?_⟩
     first | exact HM.out | (rw [wr2]; exact HM.out)
    | succ i =>
     have HORD : Hid (∀ wx, Below wr.heap.size wr wx → Calls Tryz.prog 77 #[.pointer (some ⟨b, o + i * 6, none⟩), .pointer (some ⟨b, o + (i + 1) * 6, none⟩)] wx fun e w' => e = .returned (.int .i64 (ordT l[i] l[i + 1])) ∧ Gw wx w') := Hd fun wx hx => (order_any l[i] K K l[i + 1]).ok wx _ _ _ _ ((HAT.out i (by omega)).later hx) ((HAT.out (i + 1) hlt).later hx)
     have hoks : okU l (i + 1) = decide (ordT l[i] l[i + 1] < 0) := by
      unfold okU
      rw [hti]
      show (!(l[i + 1].k == 15) && (match l[i]? with | none => true | some p => decide (ordT p l[i + 1] < 0))) = _
      rw [List.getElem?_eq_getElem (by omega : i < l.length)]
      simp [hk, hk15]
     have HNO : Hid (ordT l[i] l[i + 1] < 0 ∨ isUB l = false) := Hd (by
      by_cases h0 : ordT l[i] l[i + 1] < 0
      ·exact .inl h0
      ·exact .inr (isUB_no hlt (by rw [hoks]; simpa using h0)))
     have HOKS := Hd hoks
     have HB9 := Hd hr.below
     generalize ordT l[i] l[i + 1] = oo at HORD HNO HOKS
     have wr1 : wrap64 (((i + 1 : Nat) : Int) - 1) = ((i : Nat) : Int) := by rw [wrap_in (by omega) (by omega)]; omega
     have wr1' : IntKind.i64.wrap (((i + 1 : Nat) : Int) - 1) = ((i : Nat) : Int) := by
      have e : IntKind.i64.wrap (((i + 1 : Nat) : Int) - 1) = wrap64 (((i + 1 : Nat) : Int) - 1) := by unfold wrap64; exact IntKind.wrap_i64 _
      rw [e, wr1]
     have wr3 : wrap64 (i : Int) = (i : Int) := wrap_in (by omega) (by omega)
     have wr3' : IntKind.i64.wrap (i : Int) = (i : Int) := by
      have e : IntKind.i64.wrap (i : Int) = wrap64 (i : Int) := by unfold wrap64; exact IntKind.wrap_i64 _
      rw [e, wr3]
     have i0 : (0 : Int) ≤ (i : Int) + 1 := by omega
     have i1 : (i : Int) + 1 < (l.length : Int) := by omega
     have i2 : (0 : Int) ≤ (i : Int) := by omega
     have i3 : (i : Int) < (l.length : Int) := by omega
     have i4 : (0 : Int) < (i : Int) + 1 := by omega
     clear hat hr hle hti hck hk hk15 hoks
     go_wp2_with fail
     refine wp_region_held_drew (S := (fun w' => w'.cell? ⟨b, o + (i + 1) * 6, none⟩ = some (.int .i64 k))) (by kernel_rfl) (HCK.out _ (Below.refl _ _).drew) (fun hHeld => ?_)
     refine Plan.start [0, 1, 2, 3, 4, 5, 6, 7, 8, 9, 10, 11, 12, 13, 14, 15, 16] ?_
     iterate 17 (refine Plan.tk (so rfl) hHeld ?_; try simp only [Act.put, pz1, pz2, pz3])
     refine Plan.done ?_
     refine wpAnyH_ready (rs := [17]) (by kernel_rfl) (by simp) ?_
     refine AllReadyH.cons (sd (some 28) rfl) (fun K hK => ?_) AllReadyH.nil
     go_simp
     refine (HORD.out _ (Below.refl _ _).drew).mono ?_
     rintro e w2 ⟨rfl, hb2⟩
     have HB2 := Hd ((Below.refl wr.heap.size wr).drew.trans hb2.below)
     clear hb2
     go_wp2_with fail
     refine hK.out _ _ (HCK.out _ HB2.out) (fun hHeld => ?_)
     clear hK K
     try simp only [Act.put, pz1, pz2, pz3]
     refine Plan.start [18, 19, 20] ?_
     iterate 3 (refine Plan.tk (so rfl) hHeld ?_; try simp only [Act.put, pz1, pz2, pz3])
     refine Plan.done ?_
     refine wpAnyH_done (by kernel_rfl) ?_ _
     clear hHeld
     by_cases h0 : oo < 0
     ·have h1 : ¬ (0 ≤ oo) := by omega
      have HOK : Hid (okU l (i + 1) = true) := Hd (by rw [HOKS.out]; simpa using h0)
      clear i0 i1 i2 i3 i4 wr1 wr1' wr3 wr3' HORD h0
      go_wp2_with fail
      refine (HSEE.out _ HB2.out).mono ?_
      rintro e w3 ⟨rfl, hkb3, hs3⟩
      have HI3 := Hd (HNX.out HOK.out _ _ HB2.out hkb3 hs3)
      clear hkb3 hs3 HSEE HNX
      go_wp2_with fail
      refine ⟨⟨(i + 1) + 1, by first | rfl | rw [wr2], HI3.out⟩, ?_⟩
      first | exact HM.out | (rw [wr2]; exact HM.out)
     ·have h1 : 0 ≤ oo := by omega
      have HN2 : Hid (isUB l = false) := Hd (HNO.out.resolve_left h0)
      clear i0 i1 i2 i3 i4 wr1 wr1' wr3 wr3' HORD h0
      go_wp2_with fail
      go_ret
      exact ⟨by rw [HN2.out]; rfl, HB9.out.trans (HB2.out.mono HB9.out.size)⟩
  ·have t1 : decide ((i : Int) < (l.length : Int)) = false := by simp; omega
   have hil : i = l.length := by omega
   have HOK : Hid ((List.range l.length).all (okU l) = true) := Hd (range_all.2 fun j hj => hr.ok j (by omega))
   have HKB : Hid (KB wr w.heap.size (kindsOf l)) := Hd (by have h := hr.kb; rw [List.take_of_length_le (by omega), seeL_kinds] at h; exact h)
   have HB9 := Hd hr.below
   clear hr hle hil HR
   go_wp2_with fail
   go_loopw [39] (fun v wx => ∃ i : Nat, i ≤ l.length ∧ v = .int .i64 (i : Int) ∧ (∀ j (h : j < l.length), j < i → keepT (kindsOf l) l[j] = true) ∧ wx = wr) (fun v _ => l.length - (intOf v).toNat)
   case atStart => exact ⟨0, by omega, rfl, fun j _ hj => absurd hj (by omega), rfl⟩
   case round =>
    obtain ⟨i, hi, rfl, hkp, rfl⟩ := hrel
    have HKP := Hd hkp
    clear hkp
    by_cases hlt : i < l.length
    ·have t1 : decide ((i : Int) < (l.length : Int)) = true := by simp; omega
     have wr2 : wrap64 ((i : Int) + 1) = ((i + 1 : Nat) : Int) := wrap_one (by omega)
     have HM := Hd (measI hlt)
     obtain ⟨b, o, hA, _, hat⟩ := HL.out.at (by omega)
     subst hA
     have KK := Hd (keep_any (t := l[i]) HKB.out ((hat i hlt).later HB9.out))
     have HIN := Hd hlt
     generalize hq : keepT (kindsOf l) l[i] = qq at KK
     cases qq with
     | false =>
      have HNO : Hid (isUB l = false) := Hd (isUB_keep hlt hq)
      clear hq hat hi
      go_wp2_with fail
      refine KK.out.mono ?_
      rintro e w2 ⟨rfl, rfl⟩
      go_wp2_with fail
      go_ret
      exact ⟨by rw [HNO.out]; rfl, HB9.out⟩
     | true =>
      have HK2 : Hid (∀ j (h : j < l.length), j < i + 1 → keepT (kindsOf l) l[j] = true) := Hd fun j h hj => by
       rcases Nat.lt_or_ge j i with h1 | h1
       ·exact HKP.out j h h1
       ·have : j = i := by omega
        subst this
        exact hq
      clear hq hat hi
      go_wp2_with fail
      refine KK.out.mono ?_
      rintro e w2 ⟨rfl, rfl⟩
      go_wp2_with fail
      refine ⟨⟨i + 1, HIN.out, by first | rfl | rw [wr2], HK2.out, by first | rfl | trivial⟩, ?_⟩
      first | exact HM.out | (rw [wr2]; exact HM.out)
    ·have t1 : decide ((i : Int) < (l.length : Int)) = false := by simp; omega
     have HYES : Hid (isUB l = true) := Hd (by
      unfold isUB
      rw [HOK.out, Bool.true_and, List.all_eq_true]
      intro x hx
      obtain ⟨j, hj, rfl⟩ := List.getElem_of_mem hx
      exact HKP.out j hj (by omega))
     clear hi
     go_wp2_with fail
     go_ret
     exact ⟨by rw [HYES.out]; rfl, HB9.out⟩
theorem shape_kinds (k : Int) (hk : (shapeK k).known = true) : ∃ lo hi, shapeK k = ⟨false, false, false, false, lo, hi, true⟩ ∨ shapeK k = ⟨false, true, false, false, lo, hi, true⟩ ∨ shapeK k = ⟨true, false, false, false, lo, hi, true⟩ ∨ shapeK k = ⟨false, false, false, true, lo, hi, true⟩ ∨ shapeK k = ⟨false, false, true, false, lo, hi, true⟩ ∨ shapeK k = ⟨true, true, false, false, lo, hi, true⟩ := by
 unfold shapeK at hk ⊢
 by_cases h : 1 ≤ k ∧ k ≤ 8
 ·simp only [if_pos h]
  exact ⟨0, 0, (.inl rfl)⟩
 simp only [if_neg h] at hk ⊢
 clear h
 by_cases h : k = 9
 ·simp only [if_pos h]
  exact ⟨0, 0, (.inr (.inl rfl))⟩
 simp only [if_neg h] at hk ⊢
 clear h
 by_cases h : k = 10 ∨ k = 16 ∨ k = 22
 ·simp only [if_pos h]
  exact ⟨0, 0, (.inr (.inr (.inl rfl)))⟩
 simp only [if_neg h] at hk ⊢
 clear h
 by_cases h : k = 11 ∨ k = 18
 ·simp only [if_pos h]
  exact ⟨1, 1, (.inl rfl)⟩
 simp only [if_neg h] at hk ⊢
 clear h
 by_cases h : k = 12
 ·simp only [if_pos h]
  exact ⟨0, (-1), (.inl rfl)⟩
 simp only [if_neg h] at hk ⊢
 clear h
 by_cases h : k = 13
 ·simp only [if_pos h]
  exact ⟨1, (-1), (.inr (.inr (.inr (.inl rfl))))⟩
 simp only [if_neg h] at hk ⊢
 clear h
 by_cases h : k = 14
 ·simp only [if_pos h]
  exact ⟨0, 0, (.inr (.inr (.inr (.inr (.inl rfl)))))⟩
 simp only [if_neg h] at hk ⊢
 clear h
 by_cases h : k = 15 ∨ k = 23
 ·simp only [if_pos h]
  exact ⟨2, (-1), (.inl rfl)⟩
 simp only [if_neg h] at hk ⊢
 clear h
 by_cases h : k = 17
 ·simp only [if_pos h]
  exact ⟨0, (-1), (.inr (.inr (.inl rfl)))⟩
 simp only [if_neg h] at hk ⊢
 clear h
 by_cases h : k = 19
 ·simp only [if_pos h]
  exact ⟨2, 2, (.inl rfl)⟩
 simp only [if_neg h] at hk ⊢
 clear h
 by_cases h : k = 20
 ·simp only [if_pos h]
  exact ⟨2, 2, (.inr (.inr (.inr (.inr (.inr rfl)))))⟩
 simp only [if_neg h] at hk ⊢
 clear h
 by_cases h : k = 21
 ·simp only [if_pos h]
  exact ⟨4, 4, (.inr (.inr (.inr (.inr (.inr rfl)))))⟩
 simp only [if_neg h] at hk ⊢
 clear h
 cases hk
theorem fits_any {k : Int} (hk : (shapeK k).known = true) {w : World} {b o np nf nv c1 c2 c3 : Nat} {t : ByteArray} {n : Int} {A1 A2 A3 : Option Addr} (x1 : w.cell? ⟨b, o + 1, none⟩ = some (.string t)) (x2 : w.cell? ⟨b, o + 2, none⟩ = some (.int .i64 n)) (x3 : w.cell? ⟨b, o + 3, none⟩ = some (.slice A1 np c1)) (x4 : w.cell? ⟨b, o + 4, none⟩ = some (.slice A2 nf c2)) (x5 : w.cell? ⟨b, o + 5, none⟩ = some (.slice A3 nv c3)) :
  Calls Tryz.prog 82 #[shpV (shapeK k), .pointer (some ⟨b, o, none⟩)] w fun e w' => e = .returned (.bool (fitsB (shapeK k) t n np nf nv)) ∧ Below w.heap.size w w' := by
 obtain ⟨lo, hi, h⟩ := shape_kinds k hk
 rcases h with h | h | h | h | h | h
 ·rw [h]; exact fits_ffff x1 x2 x3 x4 x5
 ·rw [h]; exact fits_ftff x1 x2 x3 x4 x5
 ·rw [h]; exact fits_tfff x1 x2 x3 x4 x5
 ·rw [h]; exact fits_ffft x1 x2 x3 x4 x5
 ·rw [h]; exact fits_fftf x1 x2 x3 x4 x5
 ·rw [h]; exact fits_ttff x1 x2 x3 x4 x5
def FormIs (t : Ty) (r : Bool) : Prop := ∀ (K : Nat → Prop) (w : World) (b o : Nat), AtT K w t b o → Calls Tryz.prog 52 #[.pointer (some ⟨b, o, none⟩)] w fun e w' => e = .returned (.bool r) ∧ Below w.heap.size w w'
def SelfIs (t : Ty) (r : Bool) : Prop := ∀ (K : Nat → Prop) (w : World) (b o : Nat), AtT K w t b o → Calls Tryz.prog 83 #[.pointer (some ⟨b, o, none⟩)] w fun e w' => e = .returned (.bool r) ∧ Below w.heap.size w w'
theorem all_drop {α : Type} {l : List α} {p : α → Bool} {i : Nat} (h : i < l.length) : (l.drop i).all p = (p l[i] && (l.drop (i + 1)).all p) := by rw [List.drop_eq_getElem_cons h, List.all_cons]
theorem form_step (k : Int) (t : ByteArray) (n : Int) (ps : List Ty) (fs : FsT) (vs : VsT) (sv : Bool) (fv : Ty → Bool) (hs : SelfIs (.mk k t n ps fs vs) sv) (hp : ∀ p ∈ ps, FormIs p (fv p)) :
  FormIs (.mk k t n ps fs vs) ((shapeK k).known && fitsB (shapeK k) t n ps.length fs.length vs.length && sv && ps.all fv) := by
 intro K w b o h
 obtain ⟨A, c, A2, c2, A3, c3, ⟨x0, x1, x2, x3, x4, x5⟩, -, hP, -⟩ := h.six
 have KS := Hd (shape_any k w)
 have KF : Hid ((shapeK k).known = true → ∀ wx, Below w.heap.size w wx → Calls Tryz.prog 82 #[shpV (shapeK k), .pointer (some ⟨b, o, none⟩)] wx fun e w' => e = .returned (.bool (fitsB (shapeK k) t n ps.length fs.length vs.length)) ∧ Below wx.heap.size wx w') := Hd fun hk wx hx => fits_any hk (cell_stays hx x1) (cell_stays hx x2) (cell_stays hx x3) (cell_stays hx x4) (cell_stays hx x5)
 have KX : Hid (∀ wx, Below w.heap.size w wx → Calls Tryz.prog 83 #[.pointer (some ⟨b, o, none⟩)] wx fun e w' => e = .returned (.bool sv) ∧ Below wx.heap.size wx w') := Hd fun wx hx => hs K wx b o (h.later hx)
 have HX : Hid (∀ wx, Below w.heap.size w wx → wx.cell? ⟨b, o + 3, none⟩ = some (.slice A ps.length c)) := Hd fun wx hx => cell_stays hx x3
 have HN : Hid (∀ wx i (hi : i < ps.length), Below w.heap.size w wx → ∃ pb po, A = some ⟨pb, po, none⟩ ∧ Calls Tryz.prog 52 #[.pointer (some ⟨pb, po + i * 6, none⟩)] wx fun e w' => e = .returned (.bool (fv ps[i])) ∧ Below wx.heap.size wx w') := Hd fun wx i hi hx => by
  obtain ⟨pb, po, hA, _, hr⟩ := hP.at (by omega)
  exact ⟨pb, po, hA, hp _ (List.getElem_mem hi) K wx pb _ ((hr i hi).later hx)⟩
 have hlp := hP.short
 clear h hs hp hP x1 x2 x3 x4 x5
 generalize fitsB (shapeK k) t n ps.length fs.length vs.length = fb at KF ⊢
 generalize shapeK k = s at KS KF ⊢
 obtain ⟨st, sn, sf, s4, lo, hi, kn⟩ := s
 simp only [shpV] at KS KF ⊢
 cases kn with
 | false =>
  clear KF KX HX HN
  go_enter Tryz.func52, Tryz.ntmps52
  go_wp2_with fail
  refine KS.out.mono ?_
  rintro e w1 ⟨rfl, hb1⟩
  have HB1 := Hd hb1
  clear hb1
  go_wp2_with fail
  go_ret
  exact ⟨rfl, HB1.out.alloc HB1.out.size _⟩
 | true =>
  have KF2 : Hid (∀ wx, Below w.heap.size w wx → Calls Tryz.prog 82 #[.agg #[.bool st, .bool sn, .bool sf, .bool s4, .int .i64 lo, .int .i64 hi], .pointer (some ⟨b, o, none⟩)] wx fun e w' => e = .returned (.bool fb) ∧ Below wx.heap.size wx w') := Hd (KF.out rfl)
  clear KF
  go_enter Tryz.func52, Tryz.ntmps52
  go_wp2_with fail
  refine KS.out.mono ?_
  rintro e w1 ⟨rfl, hb1⟩
  have HB1 : Hid (Below w.heap.size w (w1.alloc (.cells #[.bool st, .bool sn, .bool sf, .bool s4, .int .i64 lo, .int .i64 hi] 116))) := Hd (hb1.alloc hb1.size _)
  clear hb1 KS
  go_wp2_with fail
  refine (KF2.out _ HB1.out).mono ?_
  rintro e w2 ⟨rfl, hb2⟩
  have HB2 := Hd (below_then HB1.out hb2)
  clear hb2 KF2
  cases fb with
  | false =>
   go_wp2_with fail
   go_ret
   exact ⟨rfl, HB2.out⟩
  | true =>
   go_wp2_with fail
   refine (KX.out _ HB2.out).mono ?_
   rintro e w3 ⟨rfl, hb3⟩
   have HB3 := Hd (below_then HB2.out hb3)
   clear hb3 KX
   cases sv with
   | false =>
    go_wp2_with fail
    go_ret
    exact ⟨rfl, HB3.out⟩
   | true =>
    have y3 := HX.out _ HB3.out
    go_wp2_with fail
    clear y3
    go_loopw [32] (fun v wr => ∃ (i : Nat), i ≤ ps.length ∧ v = .int .i64 i ∧ ps.all fv = (ps.drop i).all fv ∧ Below w.heap.size w wr) (fun v _ => ps.length - (intOf v).toNat)
    case atStart => exact ⟨0, by omega, rfl, by rw [List.drop_zero], HB3.out⟩
    case round =>
     obtain ⟨i, hi, rfl, he, hbr⟩ := hrel
     have HE := Hd he
     have HBr := Hd hbr
     have y3 := HX.out _ hbr
     clear he hbr
     by_cases hin : i < ps.length
     ·have t1 : decide ((i : Int) < (ps.length : Int)) = true := by simp; omega
      have wr2 : wrap64 ((i : Int) + 1) = ((i + 1 : Nat) : Int) := wrap_one (by omega)
      obtain ⟨pb, po, hA, hN⟩ := HN.out _ i hin HBr.out
      have KN := Hd hN
      have HS := Hd (all_drop (p := fv) hin)
      have HM := Hd (measI hin)
      have HIn := Hd hin
      subst hA
      generalize hr : fv ps[i] = r at KN HS
      clear hN hi hr
      go_wp2_with fail
      refine KN.out.mono ?_
      rintro e w4 ⟨rfl, hb4⟩
      have HB4 := Hd (below_then HBr.out hb4)
      clear hb4 y3
      cases r with
      | false =>
       go_wp2_with fail
       go_ret
       exact ⟨by rw [HE.out, HS.out]; rfl, HB4.out⟩
      | true =>
       go_wp2_with fail
       refine ⟨⟨i + 1, HIn.out, by first | rfl | rw [wr2], by rw [HE.out, HS.out]; rfl, HB4.out⟩, ?_⟩
       first | exact HM.out | (rw [wr2]; exact HM.out)
     ·have t1 : decide ((i : Int) < (ps.length : Int)) = false := by simp; omega
      have HE1 : Hid (ps.all fv = true) := Hd (by rw [HE.out, List.drop_eq_nil_of_le (by omega)]; rfl)
      clear hi y3
      go_wp2_with fail
      go_ret
      exact ⟨by rw [HE1.out]; rfl, HBr.out⟩
def runC (fuel steps : Int) (m1 m2 : Option Nat) (asked : Value) (rows : Int) : Obj := .cells #[.int .i64 fuel, .int .i64 steps, .map m1, .map m2, asked, .int .i64 rows] 93 (0, 0)
theorem begin_ok {w : World} {b : Nat} {fuel steps rows : Int} {m1 m2 : Option Nat} {asked : Value} (h : w.heap[b]? = some (runC fuel steps m1 m2 asked rows)) (h0 : 0 ≤ steps) (h1 : steps < fuel) (h2 : fuel ≤ 100000) :
  Calls Tryz.prog 58 #[.pointer (some ⟨b, 0, none⟩)] w fun e w' => e = .returned (.tuple #[]) ∧ w'.heap[b]? = some (runC fuel (steps + 1) m1 m2 asked rows) ∧ ButG (fun x => x = b) w w' := by
 unfold runC at h
 obtain ⟨x0, x1, x2, x3, x4, x5, z0, z1, z2, z3, z4, z5⟩ := qz6 h
 have te : (steps == fuel) = false := by rw [beq_eq_false_iff_ne]; omega
 have wr : wrap64 (steps + 1) = steps + 1 := by rw [wrap_in (by omega) (by omega)]
 have hs : ButG (fun x => x = b) w (w.setCell ⟨b, 1, none⟩ (.int .i64 (steps + 1))) := ⟨rfl, rfl, rfl, by simp [World.setCell], fun k _ hn => Below.heap_setCell _ _ _ _ hn⟩
 have HP : Hid ((w.setCell ⟨b, 1, none⟩ (.int .i64 (steps + 1))).drew.heap[b]? = some (runC fuel (steps + 1) m1 m2 asked rows) ∧ ButG (fun x => x = b) w (w.setCell ⟨b, 1, none⟩ (.int .i64 (steps + 1))).drew) := Hd ⟨Go.heap_setCell_same w b _ _ _ _ h, hs.trans (ButG.of_below (O := fun _ => False) (Below.refl _ _).drew) fun x h => h.elim⟩
 clear hs
 go_enter Tryz.func58, Tryz.ntmps58
 go_wp2_with fail
 go_region
 go_wp2_with fail
 go_end0
 exact ⟨rfl, HP.out⟩
def stopV : Value := .iface 87 (.agg #[.int .i64 9])
theorem begin_stop {w : World} {b : Nat} {fuel rows : Int} {m1 m2 : Option Nat} {asked : Value} (h : w.heap[b]? = some (runC fuel fuel m1 m2 asked rows)) :
  Calls Tryz.prog 58 #[.pointer (some ⟨b, 0, none⟩)] w fun e w' => e = .panicked [{ v := stopV, recovered := false }] ∧ Below w.heap.size w w' := by
 unfold runC at h
 obtain ⟨x0, x1, x2, x3, x4, x5⟩ := cz6 h
 have te : (fuel == fuel) = true := by simp
 go_enter Tryz.func58, Tryz.ntmps58
 go_wp2_with fail
 go_region
 go_wp2_with fail
 first | exact ⟨rfl, (Below.refl _ _).drew⟩ | (simp only [bodyPost]; exact ⟨trivial, rfl, (Below.refl _ _).drew⟩)
open Go.Shelf Go.RowKit Go.Lib Go.Sort
def TyC (K : Nat → Prop) (w0 : World) : Type := {p : Ty × List Value // RepT K w0 p.1 p.2}
instance (K : Nat → Prop) (w0 : World) : Inhabited (TyC K w0) := ⟨⟨(tyK 1, _), rep_never K w0⟩⟩
theorem lt_trans {a b c : Ty} (h1 : ordT a b < 0) (h2 : ordT b c < 0) : ordT a c < 0 := by
 rcases ordT_bd a b with e | e | e
 ·rcases ordT_bd b c with e' | e' | e'
  ·rw [ordT_trans e e']; decide
  ·omega
  ·omega
 ·omega
 ·omega
end Go.Proofs.YtgjblmlibhppiaaGreatDoor
