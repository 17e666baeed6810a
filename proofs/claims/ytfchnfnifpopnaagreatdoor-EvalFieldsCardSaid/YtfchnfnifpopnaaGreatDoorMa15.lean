import Derived.Test.YtfchnfnifpopnaaGreatDoorMa0
import Derived.Test.YtfchnfnifpopnaaGreatDoorMa14
namespace Go.Proofs.YtfchnfnifpopnaaGreatDoor
open Go.RowKit
set_option maxRecDepth 100000 in
set_option maxHeartbeats 16000000 in
theorem self_9 (t : ByteArray) (n : Int) (ps : List Ty) (fs : List (ByteArray × Int × Ty)) (vs : List (ByteArray × List Ty)) : SelfIs (.mk 9 t n ps fs vs) (decide (0 ≤ n)) := by
 intro K w b o h
 obtain ⟨A, c, A2, c2, A3, c3, ⟨x0, x1, x2, x3, x4, x5⟩, ht, hP, hF, hV⟩ := h.six
 clear h ht hP hF hV
 go_enter Tryz.func49, Tryz.ntmps49
 go_wp2_with fail
 go_ret
 exact ⟨rfl, Below.refl _ _⟩
set_option maxRecDepth 100000 in
set_option maxHeartbeats 16000000 in
theorem self_16 (t : ByteArray) (n : Int) (ps : List Ty) (fs : List (ByteArray × Int × Ty)) (vs : List (ByteArray × List Ty)) : SelfIs (.mk 16 t n ps fs vs) (nameT t) := by
 intro K w b o h
 obtain ⟨A, c, A2, c2, A3, c3, ⟨x0, x1, x2, x3, x4, x5⟩, ht, hP, hF, hV⟩ := h.six
 have KC := Lib.hid (name_prog t w ht)
 generalize nameT t = r at KC ⊢
 clear h ht hP hF hV
 go_enter Tryz.func49, Tryz.ntmps49
 go_wp2_with fail
 refine KC.out.mono ?_
 rintro e w2 ⟨rfl, hb2⟩
 have HB2 := Lib.hid hb2
 clear hb2
 go_wp2_with fail
 go_ret
 exact ⟨rfl, HB2.out⟩
set_option maxRecDepth 100000 in
set_option maxHeartbeats 16000000 in
theorem self_22 (t : ByteArray) (n : Int) (ps : List Ty) (fs : List (ByteArray × Int × Ty)) (vs : List (ByteArray × List Ty)) : SelfIs (.mk 22 t n ps fs vs) (nameT t) := by
 intro K w b o h
 obtain ⟨A, c, A2, c2, A3, c3, ⟨x0, x1, x2, x3, x4, x5⟩, ht, hP, hF, hV⟩ := h.six
 have KC := Lib.hid (name_prog t w ht)
 generalize nameT t = r at KC ⊢
 clear h ht hP hF hV
 go_enter Tryz.func49, Tryz.ntmps49
 go_wp2_with fail
 refine KC.out.mono ?_
 rintro e w2 ⟨rfl, hb2⟩
 have HB2 := Lib.hid hb2
 clear hb2
 go_wp2_with fail
 go_ret
 exact ⟨rfl, HB2.out⟩
set_option maxRecDepth 100000 in
set_option maxHeartbeats 16000000 in
theorem self_17 (t : ByteArray) (n : Int) (ps : List Ty) (fs : List (ByteArray × Int × Ty)) (vs : List (ByteArray × List Ty)) : SelfIs (.mk 17 t n ps fs vs) (nameT t) := by
 intro K w b o h
 obtain ⟨A, c, A2, c2, A3, c3, ⟨x0, x1, x2, x3, x4, x5⟩, ht, hP, hF, hV⟩ := h.six
 have KC := Lib.hid (name_prog t w ht)
 generalize nameT t = r at KC ⊢
 clear h ht hP hF hV
 go_enter Tryz.func49, Tryz.ntmps49
 go_wp2_with fail
 refine KC.out.mono ?_
 rintro e w2 ⟨rfl, hb2⟩
 have HB2 := Lib.hid hb2
 clear hb2
 go_wp2_with fail
 go_ret
 exact ⟨rfl, HB2.out⟩
set_option maxRecDepth 100000 in
set_option maxHeartbeats 16000000 in
theorem self_13 (t : ByteArray) (n : Int) (ps : List Ty) (fs : List (ByteArray × Int × Ty)) (vs : List (ByteArray × List Ty)) (fv : Ty → Bool) (hf : ∀ v ∈ vs, ∀ b ∈ v.2, FormIs b (fv b)) : SelfIs (.mk 13 t n ps fs vs) (varsB (varsT vs fv)) := by
 intro K w b o h
 obtain ⟨A, c, A2, c2, A3, c3, ⟨x0, x1, x2, x3, x4, x5⟩, ht, hP, hF, hV⟩ := h.six
 have KC := Lib.hid (formedVars_any hV hf)
 generalize varsB (varsT vs fv) = r at KC ⊢
 clear h ht hP hF hV hf
 go_enter Tryz.func49, Tryz.ntmps49
 go_wp2_with fail
 refine KC.out.mono ?_
 rintro e w2 ⟨rfl, hb2⟩
 have HB2 := Lib.hid hb2
 clear hb2
 go_wp2_with fail
 go_ret
 exact ⟨rfl, HB2.out⟩
set_option maxRecDepth 100000 in
set_option maxHeartbeats 16000000 in
theorem self_14 (t : ByteArray) (n : Int) (ps : List Ty) (fs : List (ByteArray × Int × Ty)) (vs : List (ByteArray × List Ty)) (fv : Ty → Bool) (hf : ∀ f ∈ fs, FormIs f.2.2 (fv f.2.2)) : SelfIs (.mk 14 t n ps fs vs) (fieldsB (fieldsT fs fv)) := by
 intro K w b o h
 obtain ⟨A, c, A2, c2, A3, c3, ⟨x0, x1, x2, x3, x4, x5⟩, ht, hP, hF, hV⟩ := h.six
 have KC := Lib.hid (formedFields_any hF hf)
 generalize fieldsB (fieldsT fs fv) = r at KC ⊢
 clear h ht hP hF hV hf
 go_enter Tryz.func49, Tryz.ntmps49
 go_wp2_with fail
 refine KC.out.mono ?_
 rintro e w2 ⟨rfl, hb2⟩
 have HB2 := Lib.hid hb2
 clear hb2
 go_wp2_with fail
 go_ret
 exact ⟨rfl, HB2.out⟩
set_option maxRecDepth 100000 in
set_option maxHeartbeats 16000000 in
theorem self_20 (t : ByteArray) (n : Int) (ps : List Ty) (fs : List (ByteArray × Int × Ty)) (vs : List (ByteArray × List Ty)) : SelfIs (.mk 20 t n ps fs vs) (nameT t && decide (0 ≤ n) && decide (n ≤ 3)) := by
 intro K w b o h
 obtain ⟨A, c, A2, c2, A3, c3, ⟨x0, x1, x2, x3, x4, x5⟩, ht, hP, hF, hV⟩ := h.six
 have KC := Lib.hid (name_prog t w ht)
 have HX2 : Hid (∀ wx, Below w.heap.size w wx → wx.cell? ⟨b, o + 2, none⟩ = some (.int .i64 n)) := Lib.hid fun wx hx => cell_stays hx x2
 generalize nameT t = r at KC ⊢
 clear h ht hP hF hV
 cases r with
 | false =>
  go_enter Tryz.func49, Tryz.ntmps49
  go_wp2_with fail
  refine KC.out.mono ?_
  rintro e w2 ⟨rfl, hb2⟩
  have HB2 := Lib.hid hb2
  clear hb2
  go_wp2_with fail
  go_ret
  exact ⟨rfl, HB2.out⟩
 | true =>
  by_cases h0 : 0 ≤ n
  ·have e0 : decide (0 ≤ n) = true := by simpa using h0
   have E0 := Lib.hid e0
   go_enter Tryz.func49, Tryz.ntmps49
   go_wp2_with fail
   refine KC.out.mono ?_
   rintro e w2 ⟨rfl, hb2⟩
   have HB2 := Lib.hid hb2
   have y2 := HX2.out _ hb2
   clear hb2
   go_wp2_with fail
   go_ret
   exact ⟨by rw [E0.out]; first | rfl | simp, HB2.out⟩
  ·have e0 : decide (0 ≤ n) = false := by simpa using h0
   have e1 : n < 0 := by omega
   have E0 := Lib.hid e0
   go_enter Tryz.func49, Tryz.ntmps49
   go_wp2_with fail
   refine KC.out.mono ?_
   rintro e w2 ⟨rfl, hb2⟩
   have HB2 := Lib.hid hb2
   have y2 := HX2.out _ hb2
   clear hb2
   go_wp2_with fail
   go_ret
   exact ⟨by rw [E0.out]; first | rfl | simp, HB2.out⟩
set_option maxRecDepth 100000 in
set_option maxHeartbeats 16000000 in
theorem self_21 (t : ByteArray) (n : Int) (ps : List Ty) (fs : List (ByteArray × Int × Ty)) (vs : List (ByteArray × List Ty)) : SelfIs (.mk 21 t n ps fs vs) ((n == 0 && t.toList == []) || (n == 1 && nameT t)) := by
 intro K w b o h
 obtain ⟨A, c, A2, c2, A3, c3, ⟨x0, x1, x2, x3, x4, x5⟩, ht, hP, hF, hV⟩ := h.six
 have KC := Lib.hid (name_prog t w ht)
 generalize nameT t = r at KC ⊢
 clear h ht hP hF hV
 by_cases h0 : n = 0
 ·subst h0
  cases hl : t.toList with
  | nil =>
   go_enter Tryz.func49, Tryz.ntmps49
   go_wp2_with fail
   go_ret
   exact ⟨rfl, Below.refl _ _⟩
  | cons a l =>
   go_enter Tryz.func49, Tryz.ntmps49
   go_wp2_with fail
   go_ret
   exact ⟨rfl, Below.refl _ _⟩
 ·have e0 : (n == 0) = false := by simpa using h0
  have E0 := Lib.hid e0
  by_cases h1 : n = 1
  ·subst h1
   go_enter Tryz.func49, Tryz.ntmps49
   go_wp2_with fail
   refine KC.out.mono ?_
   rintro e w2 ⟨rfl, hb2⟩
   have HB2 := Lib.hid hb2
   clear hb2
   go_wp2_with fail
   go_ret
   exact ⟨by first | rfl | simp, HB2.out⟩
  ·have e1 : (n == 1) = false := by simpa using h1
   have E1 := Lib.hid e1
   go_enter Tryz.func49, Tryz.ntmps49
   go_wp2_with fail
   go_ret
   exact ⟨by rw [E0.out, E1.out]; rfl, Below.refl _ _⟩
set_option maxRecDepth 100000 in
set_option maxHeartbeats 16000000 in
theorem self_23 (t : ByteArray) (n : Int) (ps : List Ty) (fs : List (ByteArray × Int × Ty)) (vs : List (ByteArray × List Ty)) : SelfIs (.mk 23 t n ps fs vs) (ps.all fun p => p.k == 13) := by
 intro K w b o h
 obtain ⟨A, c, A2, c2, A3, c3, ⟨x0, x1, x2, x3, x4, x5⟩, ht, hP, hF, hV⟩ := h.six
 have HP := Lib.hid hP
 have hlp := hP.short
 clear h ht hP hF hV
 go_enter Tryz.func49, Tryz.ntmps49
 go_wp2_with fail
 go_loopw [101] (fun v wr => ∃ (i : Nat), i ≤ ps.length ∧ v = .int .i64 i ∧ (ps.all fun p => p.k == 13) = (ps.drop i).all (fun p => p.k == 13) ∧ wr = w) (fun v _ => ps.length - (intOf v).toNat)
 case atStart => exact ⟨0, by omega, rfl, by rw [List.drop_zero], rfl⟩
 case round =>
  obtain ⟨i, hi, rfl, he, rfl⟩ := hrel
  have HE := Lib.hid he
  clear he
  by_cases hin : i < ps.length
  ·have t1 : decide ((i : Int) < (ps.length : Int)) = true := by simp; omega
   have wr2 : wrap64 ((i : Int) + 1) = ((i + 1 : Nat) : Int) := wrap_one (by omega)
   obtain ⟨pb, po, hA, _, hr⟩ := HP.out.at (by omega)
   subst hA
   obtain ⟨q, hq, hcq⟩ : ∃ q, ps[i].k = q ∧ wr.cell? ⟨pb, po + i * 6, none⟩ = some (.int .i64 q) := by
    have h1 := hr i hin
    generalize ps[i] = t at h1
    obtain ⟨k, s, n, ps, fs, vs⟩ := t
    obtain ⟨_, _, _, _, _, _, ⟨x0, _⟩, _⟩ := h1.six
    exact ⟨k, rfl, x0⟩
   have HS := Lib.hid (all_drop (p := fun p : Ty => p.k == 13) hin)
   have HM := Lib.hid (measI hin)
   have HIn := Lib.hid hin
   by_cases h13 : q = 13
   ·have HK : Hid (((ps[i]'hin).k == 13) = true) := Lib.hid (by rw [hq]; simpa using h13)
    have e13 : (q != 13) = false := by simpa using h13
    clear hr hi hq
    go_wp2_with fail
    refine ⟨⟨i + 1, HIn.out, by first | rfl | rw [wr2], by rw [HE.out, HS.out, HK.out]; rfl, by first | rfl | trivial⟩, ?_⟩
    first | exact HM.out | (rw [wr2]; exact HM.out)
   ·have HK : Hid (((ps[i]'hin).k == 13) = false) := Lib.hid (by rw [hq]; simpa using h13)
    have e13 : (q != 13) = true := by simpa using h13
    clear hr hi hq
    go_wp2_with fail
    go_ret
    exact ⟨by rw [HE.out, HS.out, HK.out]; rfl, Below.refl _ _⟩
  ·have t1 : decide ((i : Int) < (ps.length : Int)) = false := by simp; omega
   have HE1 : Hid ((ps.all fun p => p.k == 13) = true) := Lib.hid (by rw [HE.out, List.drop_eq_nil_of_le (by omega)]; rfl)
   clear hi
   go_wp2_with fail
   go_ret
   exact ⟨by rw [HE1.out]; rfl, Below.refl _ _⟩
set_option maxRecDepth 100000 in
set_option maxHeartbeats 16000000 in
theorem self_no (k : Int) (t : ByteArray) (n : Int) (ps : List Ty) (fs : List (ByteArray × Int × Ty)) (vs : List (ByteArray × List Ty)) (h9 : k ≠ 9) (h13 : k ≠ 13) (h14 : k ≠ 14) (h15 : k ≠ 15) (h16 : k ≠ 16) (h17 : k ≠ 17) (h20 : k ≠ 20) (h21 : k ≠ 21) (h22 : k ≠ 22) (h23 : k ≠ 23) : SelfIs (.mk k t n ps fs vs) true := by
 intro K w b o h
 obtain ⟨A, c, A2, c2, A3, c3, ⟨x0, x1, x2, x3, x4, x5⟩, -⟩ := h.six
 have t9 : (k == 9) = false := by simpa using h9
 have t13 : (k == 13) = false := by simpa using h13
 have t14 : (k == 14) = false := by simpa using h14
 have t15 : (k == 15) = false := by simpa using h15
 have t16 : (k == 16) = false := by simpa using h16
 have t17 : (k == 17) = false := by simpa using h17
 have t20 : (k == 20) = false := by simpa using h20
 have t21 : (k == 21) = false := by simpa using h21
 have t22 : (k == 22) = false := by simpa using h22
 have t23 : (k == 23) = false := by simpa using h23
 clear h h9 h13 h14 h15 h16 h17 h20 h21 h22 h23
 go_enter Tryz.func49, Tryz.ntmps49
 go_wp2_with fail
 go_ret
 exact ⟨rfl, Below.refl _ _⟩
theorem self_any (k : Int) (t : ByteArray) (n : Int) (ps : List Ty) (fs : List (ByteArray × Int × Ty)) (vs : List (ByteArray × List Ty)) (fv : Ty → Bool) (hf : ∀ f ∈ fs, FormIs f.2.2 (fv f.2.2)) (hv : ∀ v ∈ vs, ∀ b ∈ v.2, FormIs b (fv b)) :
  SelfIs (.mk k t n ps fs vs) (selfB k t n ps (fieldsB (fieldsT fs fv)) (varsB (varsT vs fv))) := by
 unfold selfB
 by_cases h9 : k = 9
 ·subst h9; exact self_9 t n ps fs vs
 rw [if_neg h9]
 by_cases h16 : k = 16
 ·subst h16; exact self_16 t n ps fs vs
 by_cases h22 : k = 22
 ·subst h22; exact self_22 t n ps fs vs
 by_cases h17 : k = 17
 ·subst h17; exact self_17 t n ps fs vs
 rw [if_neg (by omega)]
 by_cases h13 : k = 13
 ·subst h13; exact self_13 t n ps fs vs fv hv
 rw [if_neg h13]
 by_cases h14 : k = 14
 ·subst h14; exact self_14 t n ps fs vs fv hf
 rw [if_neg h14]
 by_cases h15 : k = 15
 ·subst h15; exact self_15 t n ps fs vs
 rw [if_neg h15]
 by_cases h20 : k = 20
 ·subst h20; exact self_20 t n ps fs vs
 rw [if_neg h20]
 by_cases h21 : k = 21
 ·subst h21; exact self_21 t n ps fs vs
 rw [if_neg h21]
 by_cases h23 : k = 23
 ·subst h23; exact self_23 t n ps fs vs
 rw [if_neg h23]
 exact self_no k t n ps fs vs h9 h13 h14 h15 h16 h17 h20 h21 h22 h23
theorem form_all (t : Ty) : FormIs t (formT t) := Ty.ind (C := fun t => FormIs t (formT t)) (fun k t n ps fs vs hp hf hv => by
 rw [formT_mk]
 exact form_step k t n ps fs vs _ formT (self_any k t n ps fs vs formT hf hv) hp) t
def formedT (t : Ty) : Bool := decide (cntT t ≤ 4096) && formT t
theorem Formed_any {K : Nat → Prop} {w : World} {t : Ty} {cs : List Value} (h : RepT K w t cs) :
  Calls Tryz.prog 16 #[.agg cs.toArray] w fun e w' => e = .returned (.bool (formedT t)) ∧ Below w.heap.size w w' := formed_val h (form_all t)
def sgn (x y : Bool) : Int := if x then -1 else if y then 1 else 0
set_option maxRecDepth 100000 in
set_option maxHeartbeats 2000000 in
theorem sign_any (x y : Bool) (w : World) : Calls Tryz.prog 41 #[.bool x, .bool y] w fun e w' => e = .returned (.int .i64 (sgn x y)) ∧ w' = w := by
 cases x <;> cases y
 all_goals
  go_enter Tryz.func41, Tryz.ntmps41
  go_wp2_with fail
  go_ret
  exact ⟨rfl, rfl⟩
theorem cmpZ_cases (x y : Int) : (x < y ∧ ¬ y < x ∧ cmpZ x y = -1) ∨ (¬ x < y ∧ y < x ∧ cmpZ x y = 1) ∨ (¬ x < y ∧ ¬ y < x ∧ cmpZ x y = 0) := by
 unfold cmpZ
 by_cases h : x < y
 ·exact .inl ⟨h, by omega, by rw [if_pos h]⟩
 ·by_cases h2 : y < x
  ·exact .inr (.inl ⟨h, h2, by rw [if_neg h, if_pos h2]⟩)
  ·exact .inr (.inr ⟨h, h2, by rw [if_neg h, if_neg h2]⟩)
theorem cmpB_cases (x y : ByteArray) : (Op.bytesLess x.toList y.toList = true ∧ (x.toList == y.toList) = false ∧ cmpB x y = -1) ∨ (Op.bytesLess x.toList y.toList = false ∧ (x.toList == y.toList) = false ∧ cmpB x y = 1) ∨ (Op.bytesLess x.toList y.toList = false ∧ (x.toList == y.toList) = true ∧ cmpB x y = 0) := by
 have h1 := less_iff x y
 have h2 := gtr_iff x y
 unfold cmpB
 by_cases h : x.data.toList < y.data.toList
 ·refine .inl ⟨by rw [h1]; simpa using h, ?_, by rw [if_pos h]⟩
  rw [ByteArray.toList_eq, ByteArray.toList_eq]
  exact beq_eq_false_iff_ne.2 fun e => List.lt_irrefl _ (e ▸ h)
 ·have e1 : Op.bytesLess x.toList y.toList = false := by rw [h1]; simpa using h
  rw [e1, Bool.false_or] at h2
  by_cases h3 : y.data.toList < x.data.toList
  ·refine .inr (.inl ⟨e1, ?_, by rw [if_neg h, if_pos h3]⟩)
   have : (!(x.toList == y.toList)) = true := by rw [h2]; simpa using h3
   simpa using this
  ·refine .inr (.inr ⟨e1, ?_, by rw [if_neg h, if_neg h3]⟩)
   have : (!(x.toList == y.toList)) = false := by rw [h2]; simpa using h3
   simpa using this
def OrdR (t : Ty) : Prop := ∀ (K K' : Nat → Prop) (t' : Ty) (w : World) (cs cs' : List Value), RepT K w t cs → RepT K' w t' cs' → Calls Tryz.prog 24 #[.agg cs.toArray, .agg cs'.toArray] w fun e w' => e = .returned (.int .i64 (ordT t t')) ∧ Gw w w'
theorem AtT.six2 {K : Nat → Prop} {w : World} {t : Ty} {b o : Nat} (h : AtT K w t b o) : ∃ x0 x1 x2 x3 x4 x5 x6 x7 x8 x9 xa xb, (w.cell? ⟨b, o, none⟩ = some (.int .i64 x0) ∧ w.cell? ⟨b, o + 1, none⟩ = some (.string x1) ∧ w.cell? ⟨b, o + 2, none⟩ = some (.int .i64 x2) ∧ w.cell? ⟨b, o + 3, none⟩ = some (.slice x3 x4 x5) ∧ w.cell? ⟨b, o + 4, none⟩ = some (.slice x6 x7 x8) ∧ w.cell? ⟨b, o + 5, none⟩ = some (.slice x9 xa xb)) ∧ RepT K w t [.int .i64 x0, .string x1, .int .i64 x2, .slice x3 x4 x5, .slice x6 x7 x8, .slice x9 xa xb] := by
 obtain ⟨k, s, n, A, lp, c, A', lf, c', A'', lv, c'', hr, e0, e1, e2, e3, e4, e5⟩ := h.vals
 exact ⟨k, s, n, A, lp, c, A', lf, c', A'', lv, c'', ⟨e0, e1, e2, e3, e4, e5⟩, hr⟩
set_option maxRecDepth 100000 in
set_option maxHeartbeats 32000000 in
theorem list_ref (l l' : List (Ty)) (h : ∀ p ∈ l, OrdR p) {K K' : Nat → Prop} {w : World} {A A' : Option Addr} {c c' : Nat} (h1 : ListT K w l A c) (h2 : ListT K' w l' A' c') :
  Calls Tryz.prog 42 #[.slice A l.length c, .slice A' l'.length c'] w fun e w' => e = .returned (.int .i64 (lexC (rowE flat l) (rowE flat l'))) ∧ Gw w w' := by
 have H1 := Lib.hid h1
 have H2 := Lib.hid h2
 have HI := Lib.hid h
 have hl1 : l.length ≤ 1000000000000000 := by obtain ⟨_, _, hr, _⟩ := h1; exact hr.big
 have hl2 : l'.length ≤ 1000000000000000 := by obtain ⟨_, _, hr, _⟩ := h2; exact hr.big
 clear h h1 h2
 by_cases heq : l.length = l'.length
 ·rw [row_same flat heq]
  generalize hres : restC flat l l' 0 = res
  have HRES := Lib.hid hres
  have HEQ := Lib.hid heq
  rw [← heq]
  have hirr : ¬ l.length < l.length := Nat.lt_irrefl _
  clear hres heq hl2
  go_enter Tryz.func42, Tryz.ntmps42
  go_wp2_with fail
  refine (sign_any _ _ _).mono ?_
  rintro e w1 ⟨rfl, rfl⟩
  simp only [sgn]
  go_wp2_with fail
  go_loopw [5, 6] (fun vc vi wr => ∃ (cc : Int) (i : Nat), i ≤ l.length ∧ vc = .int .i64 cc ∧ vi = .int .i64 i ∧ or2 cc (restC flat l l' i) = res ∧ Gw w1 wr) (fun _ vi _ => l.length - (intOf vi).toNat)
  case atStart => exact ⟨0, 0, by omega, by first | rfl | simp, rfl, by rw [or2_zero]; exact HRES.out, Gw.refl _⟩
  case round =>
   obtain ⟨cc, i, hi, rfl, rfl, ho, hb⟩ := hrel
   have HO := Lib.hid ho
   have HB := Lib.hid hb
   clear ho
   by_cases hcc : cc = 0
   ·subst hcc
    by_cases hin : i < l.length
    ·have t1 : decide ((i : Int) < (l.length : Int)) = true := by simp; omega
     have wr2 : wrap64 ((i : Int) + 1) = ((i + 1 : Nat) : Int) := wrap_one (by omega)
     have HM := Lib.hid (measI hin)
     have hin' : i < l'.length := by rw [← HEQ.out]; exact hin
     have hstep := rest_step flat cleanT HEQ.out hin hin'
     have hval : or2 (lexC (flat l[i]) (flat l'[i])) (restC flat l l' (i + 1)) = res := by rw [← hstep, ← or2_zero (restC flat l l' i)]; exact HO.out
     obtain ⟨b, o, hA, _, hat⟩ := H1.out.at (by omega)
     obtain ⟨b', o', hA', _, hat'⟩ := H2.out.at (by omega)
     subst hA hA'
     have i0 : (0 : Int) ≤ (i : Int) := by omega
     have i1 : (i : Int) < (l.length : Int) := by omega
     clear hstep
     have HLE : Hid (i + 1 ≤ l.length) := Lib.hid hin
     obtain ⟨p0, p1, p2, p3, p4, p5, p6, p7, p8, p9, pa, pb, hp, hrp⟩ := ((hat i hin).later hb.below).six2
     obtain ⟨q0, q1, q2, q3, q4, q5, q6, q7, q8, q9, qa, qb, hq, hrq⟩ := ((hat' i hin').later hb.below).six2
     have KO : Hid (∀ wx, Below wr.heap.size wr wx → Calls Tryz.prog 24 #[.agg #[.int .i64 p0, .string p1, .int .i64 p2, .slice p3 p4 p5, .slice p6 p7 p8, .slice p9 pa pb], .agg #[.int .i64 q0, .string q1, .int .i64 q2, .slice q3 q4 q5, .slice q6 q7 q8, .slice q9 qa qb]] wx fun e w' => e = .returned (.int .i64 (ordT (l[i]'hin) (l'[i]'hin'))) ∧ Gw wx w') := Lib.hid fun wx hx => HI.out _ (List.getElem_mem hin) K K' (l'[i]'hin') wx _ _ (hrp.later hx) (hrq.later hx)
     have HC : Hid (∀ wx, Below wr.heap.size wr wx → (wx.cell? ⟨b, o + i * 6, none⟩ = some (.int .i64 p0) ∧ wx.cell? ⟨b, o + i * 6 + 1, none⟩ = some (.string p1) ∧ wx.cell? ⟨b, o + i * 6 + 2, none⟩ = some (.int .i64 p2) ∧ wx.cell? ⟨b, o + i * 6 + 3, none⟩ = some (.slice p3 p4 p5) ∧ wx.cell? ⟨b, o + i * 6 + 4, none⟩ = some (.slice p6 p7 p8) ∧ wx.cell? ⟨b, o + i * 6 + 5, none⟩ = some (.slice p9 pa pb)) ∧ wx.cell? ⟨b', o' + i * 6, none⟩ = some (.int .i64 q0) ∧ wx.cell? ⟨b', o' + i * 6 + 1, none⟩ = some (.string q1) ∧ wx.cell? ⟨b', o' + i * 6 + 2, none⟩ = some (.int .i64 q2) ∧ wx.cell? ⟨b', o' + i * 6 + 3, none⟩ = some (.slice q3 q4 q5) ∧ wx.cell? ⟨b', o' + i * 6 + 4, none⟩ = some (.slice q6 q7 q8) ∧ wx.cell? ⟨b', o' + i * 6 + 5, none⟩ = some (.slice q9 qa qb)) := Lib.hid fun wx hx => ⟨⟨cell_stays hx hp.1, cell_stays hx hp.2.1, cell_stays hx hp.2.2.1, cell_stays hx hp.2.2.2.1, cell_stays hx hp.2.2.2.2.1, cell_stays hx hp.2.2.2.2.2⟩, ⟨cell_stays hx hq.1, cell_stays hx hq.2.1, cell_stays hx hq.2.2.1, cell_stays hx hq.2.2.2.1, cell_stays hx hq.2.2.2.2.1, cell_stays hx hq.2.2.2.2.2⟩⟩
     have hval2 : or2 (ordT (l[i]'hin) (l'[i]'hin')) (restC flat l l' (i + 1)) = res := hval
     have HV := Lib.hid hval2
     generalize ordT (l[i]'hin) (l'[i]'hin') = oo at KO HV
     clear hat hat' hp hq hrp hrq hval hval2 hi hb
     go_wp2_with fail
     refine wp_region_held_drew (S := (fun w' => (w'.cell? ⟨b, o + i * 6, none⟩ = some (.int .i64 p0) ∧ w'.cell? ⟨b, o + i * 6 + 1, none⟩ = some (.string p1) ∧ w'.cell? ⟨b, o + i * 6 + 2, none⟩ = some (.int .i64 p2) ∧ w'.cell? ⟨b, o + i * 6 + 3, none⟩ = some (.slice p3 p4 p5) ∧ w'.cell? ⟨b, o + i * 6 + 4, none⟩ = some (.slice p6 p7 p8) ∧ w'.cell? ⟨b, o + i * 6 + 5, none⟩ = some (.slice p9 pa pb)) ∧ w'.cell? ⟨b', o' + i * 6, none⟩ = some (.int .i64 q0) ∧ w'.cell? ⟨b', o' + i * 6 + 1, none⟩ = some (.string q1) ∧ w'.cell? ⟨b', o' + i * 6 + 2, none⟩ = some (.int .i64 q2) ∧ w'.cell? ⟨b', o' + i * 6 + 3, none⟩ = some (.slice q3 q4 q5) ∧ w'.cell? ⟨b', o' + i * 6 + 4, none⟩ = some (.slice q6 q7 q8) ∧ w'.cell? ⟨b', o' + i * 6 + 5, none⟩ = some (.slice q9 qa qb))) (by kernel_rfl) (HC.out _ (Below.refl _ _).drew) (fun hHeld => ?_)
     refine Plan.start [0, 1, 2, 3, 4, 5, 6, 7] ?_
     iterate 8 ((refine Plan.take (v := ?_) (so rfl) (by kernel_rfl) (by kernel_rfl) (by kernel_rfl) (fun _ _ _ h => h) (Or.inl ⟨by rfl, ?_⟩) hHeld ?_; rotate_left; focus (intro w' hSw; (try dsimp only at hSw); go_simp; try with_reducible rfl)); try simp only [Act.put, List.setIfInBounds_toArray, List.set_cons_zero, List.set_cons_succ])
     refine Plan.done ?_
     refine wpAnyH_ready (rs := [8]) (by kernel_rfl) (by simp) ?_
     refine AllReadyH.cons (sd (some 36) rfl) (fun K hK => ?_) AllReadyH.nil
     go_simp
     refine (KO.out _ (Below.refl _ _).drew).mono ?_
     rintro e w2 ⟨rfl, hb2⟩
     have HB2 := Lib.hid ((Below.refl wr.heap.size wr).drew.trans hb2.below)
     have HG2 := Lib.hid ((HB.out.drew).trans hb2)
     clear hb2
     go_wp2_with fail
     refine hK.out _ _ (HC.out _ HB2.out) (fun hHeld => ?_)
     clear hK K
     try simp only [Act.put, List.setIfInBounds_toArray, List.set_cons_zero, List.set_cons_succ]
     refine wpAnyH_take (i := 9) (v := ?_) (sd (some 5) rfl) (by kernel_rfl) (by kernel_rfl) (by kernel_rfl) (fun _ _ _ h => h) (Or.inl ⟨by rfl, ?_⟩) hHeld ?_
     rotate_left
     ·intro w' hSw
      (try dsimp only at hSw)
      go_simp
      try with_reducible rfl
     try simp only [Act.put, List.setIfInBounds_toArray, List.set_cons_zero, List.set_cons_succ]
     refine wpAnyH_done (by kernel_rfl) ?_ _
     clear hHeld
     clear i0 i1 t1
     go_wp2_with fail
     refine ⟨⟨oo, i + 1, HLE.out, by first | rfl | trivial, by first | rfl | rw [wr2], HV.out, HG2.out⟩, ?_⟩
     first | exact HM.out | (rw [wr2]; exact HM.out)
    ·have t1 : decide ((i : Int) < (l.length : Int)) = false := by simp; omega
     have HR : Hid (res = 0) := Lib.hid (by
      have h := HO.out
      rw [show i = l.length from by omega, rest_end flat HEQ.out, or2_zero] at h
      exact h.symm)
     clear hi hb
     go_wp2_with fail
     go_ret
     exact ⟨by rw [HR.out]; rfl, HB.out⟩
   ·have hc0 : (cc == 0) = false := by simpa using hcc
    have HR : Hid (res = cc) := Lib.hid (by rw [← HO.out, or2_ne hcc])
    clear hi hb hcc
    go_wp2_with fail
    go_ret
    exact ⟨by rw [HR.out]; rfl, HB.out⟩
 ·rw [row_len flat heq]
  rcases cmpZ_cases (l.length : Int) (l'.length : Int) with ⟨ha, hb, he⟩ | ⟨ha, hb, he⟩ | ⟨ha, hb, he⟩
  ·have HE := Lib.hid he
   have n1 : l.length < l'.length := by omega
   have n2 : ¬ l'.length < l.length := by omega
   clear he heq ha hb
   go_enter Tryz.func42, Tryz.ntmps42
   go_wp2_with fail
   refine (sign_any _ _ _).mono ?_
   rintro e w1 ⟨rfl, rfl⟩
   simp only [sgn]
   go_wp2_with fail
   go_loopw [5, 6] (fun vc _ wr => vc = .int .i64 (-1) ∧ wr = w1) (fun _ _ _ => 0)
   case atStart => exact ⟨by first | rfl | simp, rfl⟩
   case round =>
    obtain ⟨rfl, rfl⟩ := hrel
    go_wp2_with fail
    go_ret
    exact ⟨by rw [HE.out]; rfl, Gw.refl _⟩
  ·have HE := Lib.hid he
   have n1 : ¬ l.length < l'.length := by omega
   have n2 : l'.length < l.length := by omega
   clear he heq ha hb
   go_enter Tryz.func42, Tryz.ntmps42
   go_wp2_with fail
   refine (sign_any _ _ _).mono ?_
   rintro e w1 ⟨rfl, rfl⟩
   simp only [sgn]
   go_wp2_with fail
   go_loopw [5, 6] (fun vc _ wr => vc = .int .i64 (1) ∧ wr = w1) (fun _ _ _ => 0)
   case atStart => exact ⟨by first | rfl | simp, rfl⟩
   case round =>
    obtain ⟨rfl, rfl⟩ := hrel
    go_wp2_with fail
    go_ret
    exact ⟨by rw [HE.out]; rfl, Gw.refl _⟩
  ·exact absurd heq (by omega)
end Go.Proofs.YtfchnfnifpopnaaGreatDoor
