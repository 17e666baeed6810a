import Derived.Test.YtfchnfnifpopnaaGreatDoorMa9
import Derived.Test.YtfchnfnifpopnaaGreatDoorMa10
import Derived.Test.YtfchnfnifpopnaaGreatDoorMa12
namespace Go.Proofs.YtfchnfnifpopnaaGreatDoor
open Go.RowKit
theorem shape_kinds (k : Int) (hk : (shapeK k).known = true) : ∃ lo hi, shapeK k = ⟨false, false, false, false, lo, hi, true⟩ ∨ shapeK k = ⟨false, true, false, false, lo, hi, true⟩ ∨ shapeK k = ⟨true, false, false, false, lo, hi, true⟩ ∨ shapeK k = ⟨false, false, false, true, lo, hi, true⟩ ∨ shapeK k = ⟨false, false, true, false, lo, hi, true⟩ ∨ shapeK k = ⟨true, true, false, false, lo, hi, true⟩ := by
 unfold shapeK at hk ⊢
 by_cases h : 1 ≤ k ∧ k ≤ 8
 ·simp only [if_pos h]
  exact ⟨0, 0, (.inl rfl)⟩
 simp only [if_neg h] at hk ⊢
 clear h
 by_cases h : k = 9
 ·simp only [if_pos h]
  exact ⟨0, 0, (.inr (.inl rfl))⟩
 simp only [if_neg h] at hk ⊢
 clear h
 by_cases h : k = 10 ∨ k = 16 ∨ k = 22
 ·simp only [if_pos h]
  exact ⟨0, 0, (.inr (.inr (.inl rfl)))⟩
 simp only [if_neg h] at hk ⊢
 clear h
 by_cases h : k = 11 ∨ k = 18
 ·simp only [if_pos h]
  exact ⟨1, 1, (.inl rfl)⟩
 simp only [if_neg h] at hk ⊢
 clear h
 by_cases h : k = 12
 ·simp only [if_pos h]
  exact ⟨0, (-1), (.inl rfl)⟩
 simp only [if_neg h] at hk ⊢
 clear h
 by_cases h : k = 13
 ·simp only [if_pos h]
  exact ⟨1, (-1), (.inr (.inr (.inr (.inl rfl))))⟩
 simp only [if_neg h] at hk ⊢
 clear h
 by_cases h : k = 14
 ·simp only [if_pos h]
  exact ⟨0, 0, (.inr (.inr (.inr (.inr (.inl rfl)))))⟩
 simp only [if_neg h] at hk ⊢
 clear h
 by_cases h : k = 15 ∨ k = 23
 ·simp only [if_pos h]
  exact ⟨2, (-1), (.inl rfl)⟩
 simp only [if_neg h] at hk ⊢
 clear h
 by_cases h : k = 17
 ·simp only [if_pos h]
  exact ⟨0, (-1), (.inr (.inr (.inl rfl)))⟩
 simp only [if_neg h] at hk ⊢
 clear h
 by_cases h : k = 19
 ·simp only [if_pos h]
  exact ⟨2, 2, (.inl rfl)⟩
 simp only [if_neg h] at hk ⊢
 clear h
 by_cases h : k = 20
 ·simp only [if_pos h]
  exact ⟨2, 2, (.inr (.inr (.inr (.inr (.inr rfl)))))⟩
 simp only [if_neg h] at hk ⊢
 clear h
 by_cases h : k = 21
 ·simp only [if_pos h]
  exact ⟨4, 4, (.inr (.inr (.inr (.inr (.inr rfl)))))⟩
 simp only [if_neg h] at hk ⊢
 clear h
 cases hk
theorem fits_any {k : Int} (hk : (shapeK k).known = true) {w : World} {b o np nf nv c1 c2 c3 : Nat} {t : ByteArray} {n : Int} {A1 A2 A3 : Option Addr} (x1 : w.cell? ⟨b, o + 1, none⟩ = some (.string t)) (x2 : w.cell? ⟨b, o + 2, none⟩ = some (.int .i64 n)) (x3 : w.cell? ⟨b, o + 3, none⟩ = some (.slice A1 np c1)) (x4 : w.cell? ⟨b, o + 4, none⟩ = some (.slice A2 nf c2)) (x5 : w.cell? ⟨b, o + 5, none⟩ = some (.slice A3 nv c3)) :
  Calls Tryz.prog 48 #[shpV (shapeK k), .pointer (some ⟨b, o, none⟩)] w fun e w' => e = .returned (.bool (fitsB (shapeK k) t n np nf nv)) ∧ Below w.heap.size w w' := by
 obtain ⟨lo, hi, h⟩ := shape_kinds k hk
 rcases h with h | h | h | h | h | h
 ·rw [h]; exact fits_ffff x1 x2 x3 x4 x5
 ·rw [h]; exact fits_ftff x1 x2 x3 x4 x5
 ·rw [h]; exact fits_tfff x1 x2 x3 x4 x5
 ·rw [h]; exact fits_ffft x1 x2 x3 x4 x5
 ·rw [h]; exact fits_fftf x1 x2 x3 x4 x5
 ·rw [h]; exact fits_ttff x1 x2 x3 x4 x5
def FormIs (t : Ty) (r : Bool) : Prop := ∀ (K : Nat → Prop) (w : World) (b o : Nat), AtT K w t b o → Calls Tryz.prog 32 #[.pointer (some ⟨b, o, none⟩)] w fun e w' => e = .returned (.bool r) ∧ Below w.heap.size w w'
def SelfIs (t : Ty) (r : Bool) : Prop := ∀ (K : Nat → Prop) (w : World) (b o : Nat), AtT K w t b o → Calls Tryz.prog 49 #[.pointer (some ⟨b, o, none⟩)] w fun e w' => e = .returned (.bool r) ∧ Below w.heap.size w w'
theorem all_drop {α : Type} {l : List α} {p : α → Bool} {i : Nat} (h : i < l.length) : (l.drop i).all p = (p l[i] && (l.drop (i + 1)).all p) := by rw [List.drop_eq_getElem_cons h, List.all_cons]
set_option maxRecDepth 100000 in
set_option maxHeartbeats 16000000 in
theorem form_step (k : Int) (t : ByteArray) (n : Int) (ps : List Ty) (fs : List (ByteArray × Int × Ty)) (vs : List (ByteArray × List Ty)) (sv : Bool) (fv : Ty → Bool) (hs : SelfIs (.mk k t n ps fs vs) sv) (hp : ∀ p ∈ ps, FormIs p (fv p)) :
  FormIs (.mk k t n ps fs vs) ((shapeK k).known && fitsB (shapeK k) t n ps.length fs.length vs.length && sv && ps.all fv) := by
 intro K w b o h
 obtain ⟨A, c, A2, c2, A3, c3, ⟨x0, x1, x2, x3, x4, x5⟩, -, hP, -⟩ := h.six
 have KS := Lib.hid (shape_any k w)
 have KF : Hid ((shapeK k).known = true → ∀ wx, Below w.heap.size w wx → Calls Tryz.prog 48 #[shpV (shapeK k), .pointer (some ⟨b, o, none⟩)] wx fun e w' => e = .returned (.bool (fitsB (shapeK k) t n ps.length fs.length vs.length)) ∧ Below wx.heap.size wx w') := Lib.hid fun hk wx hx => fits_any hk (cell_stays hx x1) (cell_stays hx x2) (cell_stays hx x3) (cell_stays hx x4) (cell_stays hx x5)
 have KX : Hid (∀ wx, Below w.heap.size w wx → Calls Tryz.prog 49 #[.pointer (some ⟨b, o, none⟩)] wx fun e w' => e = .returned (.bool sv) ∧ Below wx.heap.size wx w') := Lib.hid fun wx hx => hs K wx b o (h.later hx)
 have HX : Hid (∀ wx, Below w.heap.size w wx → wx.cell? ⟨b, o + 3, none⟩ = some (.slice A ps.length c)) := Lib.hid fun wx hx => cell_stays hx x3
 have HN : Hid (∀ wx i (hi : i < ps.length), Below w.heap.size w wx → ∃ pb po, A = some ⟨pb, po, none⟩ ∧ Calls Tryz.prog 32 #[.pointer (some ⟨pb, po + i * 6, none⟩)] wx fun e w' => e = .returned (.bool (fv ps[i])) ∧ Below wx.heap.size wx w') := Lib.hid fun wx i hi hx => by
  obtain ⟨pb, po, hA, _, hr⟩ := hP.at (by omega)
  exact ⟨pb, po, hA, hp _ (List.getElem_mem hi) K wx pb _ ((hr i hi).later hx)⟩
 have hlp := hP.short
 clear h hs hp hP x1 x2 x3 x4 x5
 generalize fitsB (shapeK k) t n ps.length fs.length vs.length = fb at KF ⊢
 generalize shapeK k = s at KS KF ⊢
 obtain ⟨st, sn, sf, s4, lo, hi, kn⟩ := s
 simp only [shpV] at KS KF ⊢
 cases kn with
 | false =>
  clear KF KX HX HN
  go_enter Tryz.func32, Tryz.ntmps32
  go_wp2_with fail
  refine KS.out.mono ?_
  rintro e w1 ⟨rfl, hb1⟩
  have HB1 := Lib.hid hb1
  clear hb1
  go_wp2_with fail
  go_ret
  exact ⟨rfl, HB1.out.alloc HB1.out.size _⟩
 | true =>
  have KF2 : Hid (∀ wx, Below w.heap.size w wx → Calls Tryz.prog 48 #[.agg #[.bool st, .bool sn, .bool sf, .bool s4, .int .i64 lo, .int .i64 hi], .pointer (some ⟨b, o, none⟩)] wx fun e w' => e = .returned (.bool fb) ∧ Below wx.heap.size wx w') := Lib.hid (KF.out rfl)
  clear KF
  go_enter Tryz.func32, Tryz.ntmps32
  go_wp2_with fail
  refine KS.out.mono ?_
  rintro e w1 ⟨rfl, hb1⟩
  have HB1 : Hid (Below w.heap.size w (w1.alloc (.cells #[.bool st, .bool sn, .bool sf, .bool s4, .int .i64 lo, .int .i64 hi] 71))) := Lib.hid (hb1.alloc hb1.size _)
  clear hb1 KS
  go_wp2_with fail
  refine (KF2.out _ HB1.out).mono ?_
  rintro e w2 ⟨rfl, hb2⟩
  have HB2 := Lib.hid (below_then HB1.out hb2)
  clear hb2 KF2
  cases fb with
  | false =>
   go_wp2_with fail
   go_ret
   exact ⟨rfl, HB2.out⟩
  | true =>
   go_wp2_with fail
   refine (KX.out _ HB2.out).mono ?_
   rintro e w3 ⟨rfl, hb3⟩
   have HB3 := Lib.hid (below_then HB2.out hb3)
   clear hb3 KX
   cases sv with
   | false =>
    go_wp2_with fail
    go_ret
    exact ⟨rfl, HB3.out⟩
   | true =>
    have y3 := HX.out _ HB3.out
    go_wp2_with fail
    clear y3
    go_loopw [32] (fun v wr => ∃ (i : Nat), i ≤ ps.length ∧ v = .int .i64 i ∧ ps.all fv = (ps.drop i).all fv ∧ Below w.heap.size w wr) (fun v _ => ps.length - (intOf v).toNat)
    case atStart => exact ⟨0, by omega, rfl, by rw [List.drop_zero], HB3.out⟩
    case round =>
     obtain ⟨i, hi, rfl, he, hbr⟩ := hrel
     have HE := Lib.hid he
     have HBr := Lib.hid hbr
     have y3 := HX.out _ hbr
     clear he hbr
     by_cases hin : i < ps.length
     ·have t1 : decide ((i : Int) < (ps.length : Int)) = true := by simp; omega
      have wr2 : wrap64 ((i : Int) + 1) = ((i + 1 : Nat) : Int) := wrap_one (by omega)
      obtain ⟨pb, po, hA, hN⟩ := HN.out _ i hin HBr.out
      have KN := Lib.hid hN
      have HS := Lib.hid (all_drop (p := fv) hin)
      have HM := Lib.hid (measI hin)
      have HIn := Lib.hid hin
      subst hA
      generalize hr : fv ps[i] = r at KN HS
      clear hN hi hr
      go_wp2_with fail
      refine KN.out.mono ?_
      rintro e w4 ⟨rfl, hb4⟩
      have HB4 := Lib.hid (below_then HBr.out hb4)
      clear hb4 y3
      cases r with
      | false =>
       go_wp2_with fail
       go_ret
       exact ⟨by rw [HE.out, HS.out]; rfl, HB4.out⟩
      | true =>
       go_wp2_with fail
       refine ⟨⟨i + 1, HIn.out, by first | rfl | rw [wr2], by rw [HE.out, HS.out]; rfl, HB4.out⟩, ?_⟩
       first | exact HM.out | (rw [wr2]; exact HM.out)
     ·have t1 : decide ((i : Int) < (ps.length : Int)) = false := by simp; omega
      have HE1 : Hid (ps.all fv = true) := Lib.hid (by rw [HE.out, List.drop_eq_nil_of_le (by omega)]; rfl)
      clear hi y3
      go_wp2_with fail
      go_ret
      exact ⟨by rw [HE1.out]; rfl, HBr.out⟩
def okV (l : List (ByteArray × List Bool)) (i : Nat) : Bool := match l[i]? with
 | none => true
 | some v => nameT v.1 && decide (v.2.length ≤ 1) && v.2.all id && !((l.take i).any fun x => decide (x.1 = v.1))
def varsB (l : List (ByteArray × List Bool)) : Bool := (List.range l.length).all (okV l)
def okF (l : List (ByteArray × Int × Bool)) (i : Nat) : Bool := match l[i]? with
 | none => true
 | some f => nameT f.1 && decide (0 ≤ f.2.1) && decide (f.2.1 ≤ 3) && f.2.2 && (match i with | 0 => true | j + 1 => match l[j]? with | none => true | some p => Go.Op.bytesLess p.1.toList f.1.toList)
def fieldsB (l : List (ByteArray × Int × Bool)) : Bool := (List.range l.length).all (okF l)
def selfB (k : Int) (t : ByteArray) (n : Int) (ps : List Ty) (fo vo : Bool) : Bool :=
 if k = 9 then decide (0 ≤ n) else if k = 16 ∨ k = 22 ∨ k = 17 then nameT t else if k = 13 then vo else if k = 14 then fo else if k = 15 then isUB ps
 else if k = 20 then nameT t && decide (0 ≤ n) && decide (n ≤ 3) else if k = 21 then (n == 0 && t.toList == []) || (n == 1 && nameT t) else if k = 23 then ps.all fun p => p.k == 13 else true
def formT : Ty → Bool
 | .mk k t n ps fs vs => (shapeK k).known && fitsB (shapeK k) t n ps.length fs.length vs.length && selfB k t n ps (fieldsB (fs.attach.map fun ⟨f, _⟩ => (f.1, f.2.1, formT f.2.2))) (varsB (vs.attach.map fun ⟨v, _⟩ => (v.1, v.2.attach.map fun ⟨b, _⟩ => formT b))) && (ps.attach.map fun ⟨p, _⟩ => formT p).all id
termination_by t => SizeOf.sizeOf t
decreasing_by
 ·exact ty_lt_f ‹_›
 ·exact ty_lt_v ‹_› ‹_›
 ·exact ty_lt_p ‹_›
def fieldsT (fs : List (ByteArray × Int × Ty)) (fv : Ty → Bool) : List (ByteArray × Int × Bool) := fs.map fun f => (f.1, f.2.1, fv f.2.2)
def varsT (vs : List (ByteArray × List Ty)) (fv : Ty → Bool) : List (ByteArray × List Bool) := vs.map fun v => (v.1, v.2.map fv)
theorem formT_mk (k t n ps fs vs) : formT (.mk k t n ps fs vs) = ((shapeK k).known && fitsB (shapeK k) t n ps.length fs.length vs.length && selfB k t n ps (fieldsB (fieldsT fs formT)) (varsB (varsT vs formT)) && ps.all formT) := by
 rw [formT]
 unfold fieldsT varsT
 simp only [List.map_attach_eq_pmap, List.pmap_eq_map, List.all_map, Function.comp_def, id_eq]
theorem okV_at {vs : List (ByteArray × List Ty)} {fv : Ty → Bool} {i : Nat} (h : i < vs.length) : okV (varsT vs fv) i = (nameT vs[i].1 && decide (vs[i].2.length ≤ 1) && vs[i].2.all fv && !((vs.take i).any fun x => decide (x.1 = vs[i].1))) := by
 unfold okV varsT
 rw [List.getElem?_map, List.getElem?_eq_getElem h]
 simp only [Option.map_some, List.length_map, List.all_map, ← List.map_take, List.any_map, Function.comp_def, id_eq]
theorem okF_zero {fs : List (ByteArray × Int × Ty)} {fv : Ty → Bool} (h : 0 < fs.length) : okF (fieldsT fs fv) 0 = (nameT fs[0].1 && decide (0 ≤ fs[0].2.1) && decide (fs[0].2.1 ≤ 3) && fv fs[0].2.2) := by
 unfold okF fieldsT
 rw [List.getElem?_map, List.getElem?_eq_getElem h]
 simp
theorem okF_succ {fs : List (ByteArray × Int × Ty)} {fv : Ty → Bool} {i : Nat} (h : i + 1 < fs.length) : okF (fieldsT fs fv) (i + 1) = (nameT fs[i + 1].1 && decide (0 ≤ fs[i + 1].2.1) && decide (fs[i + 1].2.1 ≤ 3) && fv fs[i + 1].2.2 && Go.Op.bytesLess (fs[i]'(by omega)).1.toList fs[i + 1].1.toList) := by
 unfold okF fieldsT
 rw [List.getElem?_map, List.getElem?_eq_getElem h]
 have e : (fs.map fun f => (f.1, f.2.1, fv f.2.2))[i]? = some ((fs[i]'(by omega)).1, (fs[i]'(by omega)).2.1, fv (fs[i]'(by omega)).2.2) := by rw [List.getElem?_map, List.getElem?_eq_getElem (by omega : i < fs.length)]; rfl
 simp [e]
theorem varsT_len (vs : List (ByteArray × List Ty)) (fv : Ty → Bool) : (varsT vs fv).length = vs.length := by simp [varsT]
theorem fieldsT_len (fs : List (ByteArray × Int × Ty)) (fv : Ty → Bool) : (fieldsT fs fv).length = fs.length := by simp [fieldsT]
theorem allB_no {n i : Nat} {p : Nat → Bool} (hi : i < n) (h : p i = false) : (List.range n).all p = false :=
 Bool.eq_false_iff.2 fun h2 => by have := range_all.1 h2 i hi; rw [h] at this; cases this
theorem MapIs.putL {P : Program} {α : Type} {M : MK P α} {W : World} {b n : Nat} {F : ByteArray → Option α} (h : MapIs M W b n F) (hn : n < maxLen) (s : ByteArray) (hs : s.size ≤ maxLen) (a : α) :
  ∃ w', (Instr.mapUpdate M.T (.map (some b)) (.string s) (M.val a)).run P W = .ok () w' ∧ MapIs M w' b (n + 1) (updF F s a) ∧ W.grownBy w' (some b) := by
 obtain ⟨L, h, hL, hF⟩ := h
 obtain ⟨w', hrun, ho, hg⟩ := World.ownsMap.update h (Go.Maps.string_keyed M.hS) M.hT (Nat.lt_of_le_of_lt hL hn) (M.key s hs) (M.hR a)
 rw [put_datL M L (s, a)] at ho
 have ho2 := own_fit ho
 rw [size_datL] at ho2
 refine ⟨w', hrun, ⟨_, ho2, ?_, fun x => ?_⟩, hg⟩
 ·rw [insL_len]
  have := lessL_len L s
  simp only
  omega
 ·rw [find_insL (s, a) x _ (by rw [find_less]; simp)]
  unfold updF
  simp only
  by_cases e : s = x
  ·rw [if_pos e, if_pos e]
  ·rw [if_neg e, if_neg e, find_less, if_neg e, hF]
def setMK : MK Tryz.prog Unit where
 T := 89
 S := 9
 E := 90
 val := fun _ => .agg #[]
 dat := fun _ => .agg []
 zero := ()
 R := fun v => match v with
  | .agg ⟨[]⟩ => some (.agg [], [])
  | _ => none
 hR := fun _ => rfl
 inv := by
  intro v a ps h
  split at h
  ·rfl
  ·cases h
 hS := Tryz.underlying9
 hT := Tryz.underlying89
 hz := Tryz.zeroValue90
def seenF (vs : List (ByteArray × List Ty)) (i : Nat) : ByteArray → Option Unit := fun s => if ((vs.take i).any fun x => decide (x.1 = s)) = true then some () else none
theorem seenF_next {vs : List (ByteArray × List Ty)} {i : Nat} (h : i < vs.length) : updF (seenF vs i) vs[i].1 () = seenF vs (i + 1) := by
 funext s
 unfold updF seenF
 rw [List.take_succ_eq_append_getElem h, List.any_append]
 by_cases e : vs[i].1 = s
 ·simp [e]
 ·have e2 : decide (vs[i].1 = s) = false := decide_eq_false e
  rw [if_neg e]
  simp only [List.any_cons, List.any_nil, e2, Bool.or_false]
theorem seenF_some {vs : List (ByteArray × List Ty)} {i : Nat} (s : ByteArray) : (seenF vs i s).isSome = (vs.take i).any fun x => decide (x.1 = s) := by
 unfold seenF
 split
 ·rename_i h; rw [h]; rfl
 ·rename_i h; rw [Bool.not_eq_true] at h; rw [h]; rfl
theorem okU_more {p : Nat → Bool} {i : Nat} (h : ∀ j, j < i → p j = true) (h2 : p i = true) : ∀ j, j < i + 1 → p j = true := fun j hj => by
 rcases Nat.lt_or_ge j i with h1 | h1
 ·exact h j h1
 ·rw [show j = i from by omega]; exact h2
structure VaR (w wr : World) (vs : List (ByteArray × List Ty)) (fv : Ty → Bool) (i : Nat) : Prop where
 le : i ≤ vs.length
 ok : ∀ j, j < i → okV (varsT vs fv) j = true
 map : MapIs setMK wr w.heap.size i (seenF vs i)
 below : Below w.heap.size w wr
set_option maxRecDepth 100000 in
set_option maxHeartbeats 16000000 in
theorem formedVars_any {K : Nat → Prop} {w : World} {vs : List (ByteArray × List Ty)} {A : Option Addr} {c : Nat} {fv : Ty → Bool} (hV : ListV K w vs A c) (hf : ∀ v ∈ vs, ∀ b ∈ v.2, FormIs b (fv b)) :
  Calls Tryz.prog 66 #[.slice A vs.length c] w fun e w' => e = .returned (.bool (varsB (varsT vs fv))) ∧ Below w.heap.size w w' := by
 have HV := Lib.hid hV
 have HF := Lib.hid hf
 have hlv : vs.length ≤ 1000000000000000 := by obtain ⟨_, _, hr, _⟩ := hV; exact hr.big
 have HST : Hid (VaR w (w.alloc (.map #[] 0)) vs fv 0) := Lib.hid ⟨Nat.zero_le _, fun j hj => absurd hj (by omega), by
  have h := MapIs.new setMK w
  have e : seenF vs 0 = fun _ => none := by funext s; simp [seenF]
  rw [e]; exact h, (Below.refl _ _).alloc (Nat.le_refl _) _⟩
 have hmm := @run_makeMap Tryz.prog
 clear hV hf
 go_enter Tryz.func66, Tryz.ntmps66
 go_wp2_with fail
 clear hmm
 go_loopw [11] (fun v wr => ∃ i : Nat, v = .int .i64 (i : Int) ∧ VaR w wr vs fv i) (fun v _ => vs.length - (intOf v).toNat)
 case atStart => exact ⟨0, rfl, HST.out⟩
 case round =>
  obtain ⟨i, rfl, hr⟩ := hrel
  have HR := Lib.hid hr
  have hle := hr.le
  by_cases hlt : i < vs.length
  ·have t1 : decide ((i : Int) < (vs.length : Int)) = true := by simp; omega
   have wr2 : wrap64 ((i : Int) + 1) = ((i + 1 : Nat) : Int) := wrap_one (by omega)
   have HM := Lib.hid (measI hlt)
   obtain ⟨b, o, hA, _, hat⟩ := HV.out.at (by omega)
   subst hA
   obtain ⟨B, d, hc0, hc1, hsz, hLB⟩ := hat i hlt
   have hok := okV_at (fv := fv) hlt
   have hnx := seenF_next hlt
   have hFb : ∀ b ∈ vs[i].2, FormIs b (fv b) := HF.out _ (List.getElem_mem hlt)
   have hsm := seenF_some (vs := vs) (i := i) vs[i].1
   generalize hnm : vs[i].1 = nm at hc0 hok hnx hsz hsm
   generalize hl : vs[i].2 = l at hc1 hLB hok hFb
   have hcw0 := cell_stays (w := w) (w' := wr) hr.below hc0
   have hcw1 := cell_stays (w := w) (w' := wr) hr.below hc1
   have hbx : Below wr.heap.size wr (wr.alloc (.cells #[.string nm, .slice B l.length d] 49)) := (Below.refl _ _).alloc (Nat.le_refl _) _
   have hmx : nm.size ≤ maxLen := by unfold maxLen; omega
   have lk : (Instr.lookup 89 (.map (some w.heap.size)) (.string nm) true).run Tryz.prog (wr.alloc (.cells #[.string nm, .slice B l.length d] 49)) = .ok (.tuple #[.agg #[], .bool ((vs.take i).any fun x => decide (x.1 = nm))]) (wr.alloc (.cells #[.string nm, .slice B l.length d] 49)) := by
    rw [← hsm]; exact (hr.map.later hbx).look2 nm hmx
   generalize hseen : ((vs.take i).any fun x => decide (x.1 = nm)) = seen at lk hok
   clear hat hc0 hc1 hnm hl hsm hseen
   cases seen with
   | true =>
    have HNO : Hid (varsB (varsT vs fv) = false) := Lib.hid (allB_no (by rw [varsT_len]; exact hlt) (by rw [hok]; simp))
    have HB9 := Lib.hid hr.below
    clear hr hle hok hnx
    go_wp2_with fail
    go_ret
    exact ⟨by rw [HNO.out]; rfl, (HB9.out.alloc HB9.out.size _).alloc (by have := HB9.out.size; simp; omega) _⟩
   | false =>
    have HSZ : Hid (wr.heap.size ≤ ((wr.alloc (.cells #[.string nm, .slice B l.length d] 49)).alloc (.cells #[] 90)).heap.size) := Lib.hid (by simp; omega)
    have hbw2 : Below wr.heap.size wr ((wr.alloc (.cells #[.string nm, .slice B l.length d] 49)).alloc (.cells #[] 90)) := hbx.alloc (by simp) _
    have HSZ2 : Hid (w.heap.size ≤ ((wr.alloc (.cells #[.string nm, .slice B l.length d] 49)).alloc (.cells #[] 90)).heap.size) := Lib.hid (by have := hr.below.size; have := hbw2.size; omega)
    have HBW := Lib.hid (hr.below.trans (hbw2.mono hr.below.size))
    have HMP := Lib.hid (hr.map.later hbw2)
    have hbk : ((wr.alloc (.cells #[.string nm, .slice B l.length d] 49)).alloc (.cells #[] 90)).heap[wr.heap.size]? = some (.cells #[.string nm, .slice B l.length d] 49 (0, 0)) := by
     rw [((Below.refl (wr.alloc (.cells #[.string nm, .slice B l.length d] 49)).heap.size _).alloc (Nat.le_refl _) (.cells #[] 90)).block _ (by simp)]
     exact heap_alloc_new wr _
    have HX0 : Hid (((wr.alloc (.cells #[.string nm, .slice B l.length d] 49)).alloc (.cells #[] 90)).cell? ⟨wr.heap.size, 0, none⟩ = some (.string nm)) := Lib.hid (cell_of_row _ _ 0 _ _ _ hbk)
    have HX1 : Hid (((wr.alloc (.cells #[.string nm, .slice B l.length d] 49)).alloc (.cells #[] 90)).cell? ⟨wr.heap.size, 1, none⟩ = some (.slice B l.length d)) := Lib.hid (cell_of_row _ _ 1 _ _ _ hbk)
    have KN := Lib.hid (name_prog nm ((wr.alloc (.cells #[.string nm, .slice B l.length d] 49)).alloc (.cells #[] 90)) hsz)
    have HGL : Hid (w.heap.size < wr.heap.size) := Lib.hid hr.map.lt
    have HLT : Hid (i < maxLen) := Lib.hid (by unfold maxLen; omega)
    have HMX := Lib.hid hmx
    have HLE : Hid (i + 1 ≤ vs.length) := Lib.hid hlt
    clear hbw2 hbk
    cases hq : nameT nm with
    | false =>
     rw [hq] at KN
     have HNO : Hid (varsB (varsT vs fv) = false) := Lib.hid (allB_no (by rw [varsT_len]; exact hlt) (by rw [hok]; simp [hq]))
     clear hok hnx hr hle
     go_wp2_with fail
     refine KN.out.mono ?_
     rintro e w3 ⟨rfl, hb3⟩
     have HB3 := Lib.hid (HBW.out.trans (hb3.mono HSZ2.out))
     clear hb3
     go_wp2_with fail
     go_ret
     exact ⟨by rw [HNO.out]; rfl, HB3.out⟩
    | true =>
     rw [hq] at KN
     match l, hLB, hFb with
     | [], hLB, hFb =>
      clear hLB hFb
      simp only [List.length_nil] at *
      clear hr hle
      go_wp2_with fail
      refine KN.out.mono ?_
      rintro e w3 ⟨rfl, hb3⟩
      have HB3 := Lib.hid (HBW.out.trans (hb3.mono HSZ2.out))
      have y0 := cell_stays hb3 HX0.out
      have y1 := cell_stays hb3 HX1.out
      obtain ⟨w4, hup, hm4, hg4⟩ := (HMP.out.later hb3).putL HLT.out nm HMX.out ()
      have hup2 : (Instr.mapUpdate 89 (.map (some w.heap.size)) (.string nm) (.agg #[])).run Tryz.prog w3 = .ok () w4 := hup
      have hblk : w4.heap[wr.heap.size]? = w3.heap[wr.heap.size]? := hg4.block _ (World.block_lt_of_cell? _ _ y0) (by have := HGL.out; simp only [ne_eq, Option.some.injEq]; omega)
      have z0 := (World.cell?_of_block (a := ⟨wr.heap.size, 0, none⟩) hblk).trans y0
      have z1 := (World.cell?_of_block (a := ⟨wr.heap.size, 1, none⟩) hblk).trans y1
      have hB4 : Below w.heap.size w w4 := HB3.out.grown hg4 HB3.out.size (fun k hk => by simp only [Option.some.injEq] at hk; omega)
      rw [hnx] at hm4
      have HM4 := Lib.hid hm4
      have HB4 := Lib.hid hB4
      clear hb3 hup hm4 hg4 hblk hB4 hnx
      have HOK : Hid (okV (varsT vs fv) i = true) := Lib.hid (by rw [hok]; simp [hq])
      clear hok
      go_wp2_with fail
      refine ⟨⟨i + 1, by first | rfl | rw [wr2], HLE.out, okU_more HR.out.ok HOK.out, HM4.out, HB4.out⟩, ?_⟩
      first | exact HM.out | (rw [wr2]; exact HM.out)
     | [x], hLB, hFb =>
      obtain ⟨bb, bo, rfl, -, hel0⟩ := hLB.at (by simp)
      have hel : AtT K w x bb bo := by have h := hel0 0 (by simp); simpa using h
      have hfx := hFb x (List.mem_singleton.2 rfl)
      clear hLB hFb hel0
      simp only [List.length_cons, List.length_nil, Nat.zero_add] at *
      clear hr hle
      go_wp2_with fail
      refine KN.out.mono ?_
      rintro e w3 ⟨rfl, hb3⟩
      have HB3 := Lib.hid (HBW.out.trans (hb3.mono HSZ2.out))
      have y0 := cell_stays hb3 HX0.out
      have y1 := cell_stays hb3 HX1.out
      obtain ⟨w4, hup, hm4, hg4⟩ := (HMP.out.later hb3).putL HLT.out nm HMX.out ()
      have hup2 : (Instr.mapUpdate 89 (.map (some w.heap.size)) (.string nm) (.agg #[])).run Tryz.prog w3 = .ok () w4 := hup
      have hblk : w4.heap[wr.heap.size]? = w3.heap[wr.heap.size]? := hg4.block _ (World.block_lt_of_cell? _ _ y0) (by have := HGL.out; simp only [ne_eq, Option.some.injEq]; omega)
      have z0 := (World.cell?_of_block (a := ⟨wr.heap.size, 0, none⟩) hblk).trans y0
      have z1 := (World.cell?_of_block (a := ⟨wr.heap.size, 1, none⟩) hblk).trans y1
      have hB4 : Below w.heap.size w w4 := HB3.out.grown hg4 HB3.out.size (fun k hk => by simp only [Option.some.injEq] at hk; omega)
      rw [hnx] at hm4
      have HM4 := Lib.hid hm4
      have HB4 := Lib.hid hB4
      clear hb3 hup hm4 hg4 hblk hB4 hnx
      have KF := Lib.hid (hfx K w4 bb bo (hel.later HB4.out))
      have HOKE : Hid (okV (varsT vs fv) i = fv x) := Lib.hid (by rw [hok]; simp [hq])
      clear hok hel hfx
      generalize fv x = r at KF HOKE
      go_wp2_with fail
      refine KF.out.mono ?_
      rintro e w5 ⟨rfl, hb5⟩
      have HB5 := Lib.hid (below_then HB4.out hb5)
      have HM5 := Lib.hid (HM4.out.later hb5)
      clear hb5
      cases r with
      | false =>
       have HNO : Hid (varsB (varsT vs fv) = false) := Lib.hid (allB_no (by rw [varsT_len]; exact HLE.out) HOKE.out)
       go_wp2_with fail
       go_ret
       exact ⟨by rw [HNO.out]; rfl, HB5.out⟩
      | true =>
       go_wp2_with fail
       refine ⟨⟨i + 1, by first | rfl | rw [wr2], HLE.out, okU_more HR.out.ok HOKE.out, HM5.out, HB5.out⟩, ?_⟩
       first | exact HM.out | (rw [wr2]; exact HM.out)
     | x :: y :: l, hLB, hFb =>
      clear hLB hFb
      have e2 : (x :: y :: l).length = l.length + 2 := rfl
      have t3 : 1 < l.length + 2 := by omega
      have t3b : decide ((1 : Int) < ((l.length + 2 : Nat) : Int)) = true := by simp; omega
      simp only [List.length_cons] at *
      have HNO : Hid (varsB (varsT vs fv) = false) := Lib.hid (allB_no (by rw [varsT_len]; exact hlt) (by rw [hok]; simp [hq]))
      clear hok hnx hr hle
      go_wp2_with fail
      refine KN.out.mono ?_
      rintro e w3 ⟨rfl, hb3⟩
      have HB3 := Lib.hid (HBW.out.trans (hb3.mono HSZ2.out))
      have y1 := cell_stays hb3 HX1.out
      clear hb3
      go_wp2_with fail
      go_ret
      exact ⟨by rw [HNO.out]; rfl, HB3.out⟩
  ·have t1 : decide ((i : Int) < (vs.length : Int)) = false := by simp; omega
   have HYES : Hid (varsB (varsT vs fv) = true) := Lib.hid (range_all.2 fun j hj => hr.ok j (by rw [varsT_len] at hj; omega))
   have HB9 := Lib.hid hr.below
   clear hr hle HR
   go_wp2_with fail
   go_ret
   exact ⟨by rw [HYES.out]; rfl, HB9.out⟩
end Go.Proofs.YtfchnfnifpopnaaGreatDoor
