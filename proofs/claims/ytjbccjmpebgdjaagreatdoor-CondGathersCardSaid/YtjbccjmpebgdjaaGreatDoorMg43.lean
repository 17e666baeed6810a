import Derived.Test.YtjbccjmpebgdjaaGreatDoorMg37
import Derived.Test.YtjbccjmpebgdjaaGreatDoorMg38
import Derived.Test.YtjbccjmpebgdjaaGreatDoorMg39
import Derived.Test.YtjbccjmpebgdjaaGreatDoorMg40
namespace Go.Proofs.YtjbccjmpebgdjaaGreatDoor
open Go.RowKit
set_option maxRecDepth 100000
set_option maxHeartbeats 64000000
theorem formed_ref {K : Nat → Prop} {w : World} {t : Ty} {cs : List Value} (hr : RepT K w t cs) :
  Calls Tryz.prog 18 #[.agg cs.toArray] w fun e w' => e = .returned (.bool (formedT t)) ∧ Below w.heap.size w w' := by
 have hN := nod_any t
 have hFo := form_ref t
 have hsp : formedT t = (decide (cntT t ≤ 4096) && formT t) := rfl
 generalize hft : formT t = r at hsp
 obtain ⟨k, s, n, ps, fs, vs⟩ := t
 have KN := Hd fun wx (hx : Below w.heap.size w wx) => hN K wx cs (hr.later hx)
 have KF := Hd fun wx (hx : Below w.heap.size w wx) h => hFo K wx cs (hr.later hx) h
 obtain ⟨A, c, A', c', A'', c'', rfl, -⟩ := hr.inv
 simp only [cells6T] at KN KF ⊢
 rw [hft] at KF
 obtain ⟨w1, hw1⟩ : ∃ x, x = w.alloc (.cells #[.int .i64 k, .string s, .int .i64 n, .slice A ps.length c, .slice A' fs.length c', .slice A'' vs.length c''] 26) := ⟨_, rfl⟩
 have hb1 : Below w.heap.size w w1 := by rw [hw1]; exact (Below.refl _ _).alloc (Nat.le_refl _) _
 have hs1 : w1.heap.size = w.heap.size + 1 := by rw [hw1]; simp
 have hx0 : w1.heap[w.heap.size]? = some (.cells #[.int .i64 k, .string s, .int .i64 n, .slice A ps.length c, .slice A' fs.length c', .slice A'' vs.length c''] 26 (0, 0)) := by rw [hw1]; exact heap_alloc_new w _
 have HB1 := Hd hb1
 have HS1 := Hd hs1
 have HX0 := Hd hx0
 have HW1 := Hd hw1
 have HSP := Hd hsp
 generalize cntT (.mk k s n ps fs vs) = q at KN KF HSP
 clear hr hN hFo hb1 hs1 hx0 hw1 hsp hft
 go_enter Tryz.func18, Tryz.ntmps18
 go_upto_region 1 with fail
 rw [← HW1.out]
 obtain ⟨x0, x1, x2, x3, x4, x5⟩ := cz6 HX0.out
 go_wp2_with fail
 refine (KN.out _ HB1.out).mono ?_
 rintro e w2 ⟨rfl, hg⟩
 have HB2 := Hd (HB1.out.trans (hg.below.mono HB1.out.size))
 have h2 := box_up hg.below (by have := HS1.out; omega) HX0.out
 clear x0 x1 x2 x3 x4 x5 hg KN
 obtain ⟨x0, x1, x2, x3, x4, x5⟩ := cz6 h2
 clear h2
 by_cases hq : q ≤ 4096
 ·have t1 : decide ((capN q : Int) ≤ 4096) = true := decide_eq_true (by unfold capN; omega)
  have t2 : decide (capN q ≤ 4096) = true := decide_eq_true (by unfold capN; omega)
  have KF2 := Hd (KF.out _ HB2.out (by omega))
  have HV : Hid (formedT (.mk k s n ps fs vs) = r) := Hd (by rw [HSP.out, decide_eq_true hq]; rfl)
  clear hq KF
  go_wp2_with fail
  refine KF2.out.mono ?_
  rintro e w3 ⟨rfl, hb3⟩
  have HB3 := Hd (HB2.out.trans (hb3.mono HB2.out.size))
  clear hb3 KF2
  go_wp2_with fail
  go_ret
  exact ⟨by rw [HV.out]; rfl, HB3.out⟩
 ·have t1 : decide ((capN q : Int) ≤ 4096) = false := decide_eq_false (by unfold capN; omega)
  have t2 : decide (capN q ≤ 4096) = false := decide_eq_false (by unfold capN; omega)
  have HV : Hid (formedT (.mk k s n ps fs vs) = false) := Hd (by rw [HSP.out, decide_eq_false hq]; rfl)
  clear hq KF
  go_wp2_with fail
  go_ret
  exact ⟨by rw [HV.out]; rfl, HB2.out⟩
theorem lt_fs {t : Ty} {f : ByteArray × Int × Ty} (h : f ∈ t.fs) : SizeOf.sizeOf f.2.2 < SizeOf.sizeOf t := by
 obtain ⟨k, s, n, ps, fs, vs⟩ := t
 exact ty_lt_f h
theorem fit_fs {t : Ty} (h : formT t = true) (hs : (shapeK t.k).f = false) : t.fs = [] := by
 obtain ⟨k, s, n, ps, fs, vs⟩ := t
 have hf := form_fits h
 unfold fitsB at hf
 rw [show (shapeK k).f = false from hs] at hf
 simp only [Bool.and_eq_true, Bool.not_eq_true', Bool.or_eq_false_iff, Bool.not_false, Bool.true_and, decide_eq_false_iff_not] at hf
 obtain ⟨⟨⟨⟨_, _⟩, h3⟩, _⟩, _⟩ := hf
 show fs = []
 exact List.length_eq_zero_iff.1 (by omega)
theorem fit_lo {t : Ty} (h : formT t = true) : (shapeK t.k).lo ≤ (t.ps.length : Int) := by
 obtain ⟨k, s, n, ps, fs, vs⟩ := t
 have hf := form_fits h
 unfold fitsB at hf
 simp only [Bool.and_eq_true, decide_eq_true_eq] at hf
 exact hf.2.1
theorem fit_hi {t : Ty} (h : formT t = true) (hs : (shapeK t.k).hi = 0) : t.ps = [] := by
 obtain ⟨k, s, n, ps, fs, vs⟩ := t
 have hf := form_fits h
 unfold fitsB at hf
 rw [show (shapeK k).hi = 0 from hs] at hf
 simp only [Bool.and_eq_true, decide_eq_true_eq, Bool.or_eq_true, beq_iff_eq] at hf
 show ps = []
 exact List.length_eq_zero_iff.1 (by have := hf.2.2; omega)
theorem inf_some {p : Ty} (hinf : infT p = true) (h22 : ¬ p.k = 22) : p.ps ≠ [] ∨ p.fs ≠ [] := by
 obtain ⟨k, s, n, ps, fs, vs⟩ := p
 have h := (infT_names _).1 hinf
 rw [namesI_mk, if_neg (show ¬ k = 22 from h22)] at h
 by_cases h1 : ps = []
 ·by_cases h2 : fs = []
  ·subst h1 h2; exact absurd (by simp [namesP, namesF]) h
  ·exact .inr h2
 ·exact .inl h1
theorem gath_rows {p t : Ty} (hinf : infT p = true) (hk : p.k = 12 ∨ p.k = 17 ∧ p.t = t.t) (hk2 : p.k = t.k) : gathT p t = if t.ps.length = p.ps.length then (List.zipWith gathT p.ps t.ps).flatten else [] := by
 have hc : isComp p.k = true := by rcases hk with h | ⟨h, _⟩ <;> rw [h] <;> rfl
 rw [gathT_eq, if_neg (by rw [hinf]; decide), if_neg (by omega), if_neg (by omega), if_neg (by rw [hc]; decide), if_neg (by omega), if_neg (by omega), if_neg (by omega), if_neg (by omega), if_pos hk]
theorem gath_noref {p t : Ty} (hinf : infT p = true) (hk : p.k = 17) (hk2 : p.k = t.k) (ht : ¬ p.t = t.t) : gathT p t = [] := by
 rw [gathT_eq, if_neg (by rw [hinf]; decide), if_neg (by omega), if_neg (by omega), if_neg (by rw [hk]; decide), if_neg (by omega), if_neg (by omega), if_neg (by omega), if_neg (by omega), if_neg (by intro h; rcases h with h | ⟨_, h⟩; (· omega); exact ht h), if_neg (by intro h; have := h.1; omega), if_neg (by omega)]
theorem hold_all (p t : Ty) (hp : formT p = true) (ht : formT t = true) : HoldP p t := by
 by_cases hinf : infT p = true
 case neg => exact hold_no (by simpa using hinf)
 by_cases h22 : p.k = 22
 ·exact hold_infer h22
 by_cases h15 : p.k = 15
 ·exact hold_union h15 hinf fun q hq => hold_all q t (form_ps hp q hq) ht
 cases hcomp : isComp p.k with
 | false => exact hold_other hinf h22 h15 hcomp
 | true =>
  by_cases ht15 : t.k = 15
  ·exact hold_parts ht15 hinf h22 h15 hcomp fun q hq => hold_all p q hp (form_ps ht q hq)
  refine hold_comp hinf hcomp ht15 ?_
  have hks := comp_ks hcomp
  have hsome := inf_some hinf h22
  by_cases hat : p.k = 11 ∧ t.k = 12
  ·exact ins_tuple hat.1 hat.2 hinf fun q hq => hold_all q _ (form_ps hp q hq) (form_union (form_ps ht))
  by_cases hne : p.k = t.k
  case neg => exact ins_none hinf hcomp ht15 hne hat
  have ihp : ∀ q u, q ∈ p.ps → u ∈ t.ps → HoldP q u := fun q u hq hu => hold_all q u (form_ps hp q hq) (form_ps ht u hu)
  have hps : (shapeK p.k).f = false → 0 < p.ps.length := fun hs => by
   have h1 := fit_fs hp hs
   rcases hsome with h | h
   ·exact List.length_pos_iff.2 h
   ·exact absurd h1 h
  rcases hks with h | h | h | h | h
  ·exact ins_array h (hne ▸ h) hinf ihp
  ·have h0 := hps (by rw [h]; rfl)
   by_cases hl : t.ps.length = p.ps.length
   ·exact ins_rows h (hne ▸ h) hinf (by rw [gath_rows hinf (.inl h) hne, if_pos hl]) (parts_same hl h0 ihp)
   ·exact ins_rows h (hne ▸ h) hinf (by rw [gath_rows hinf (.inl h) hne, if_neg hl]) (parts_diff hl)
  ·have h0 := hps (by rw [h]; rfl)
   by_cases htx : p.t = t.t
   ·by_cases hl : t.ps.length = p.ps.length
    ·exact ins_ref h (hne ▸ h) htx hinf (by rw [gath_rows hinf (.inr ⟨h, htx⟩) hne, if_pos hl]) (parts_same hl h0 ihp)
    ·exact ins_ref h (hne ▸ h) htx hinf (by rw [gath_rows hinf (.inr ⟨h, htx⟩) hne, if_neg hl]) (parts_diff hl)
   ·exact ins_ref_no h (hne ▸ h) htx hinf (gath_noref hinf h hne htx)
  ·by_cases hv : t.vs = []
   ·have h0 := fit_lo hp
    have h1 := fit_lo ht
    rw [← hne] at h1
    rw [h, show (shapeK 13).lo = 1 from rfl] at h0 h1
    exact ins_funs h (hne ▸ h) hv hinf (by omega) (by omega) ihp
   ·exact ins_fun_vs h (hne ▸ h) hv hinf
  ·have h0 : 0 < p.fs.length := by
    have h1 := fit_hi hp (by rw [h]; rfl)
    rcases hsome with h2 | h2
    ·exact absurd h1 h2
    ·exact List.length_pos_iff.2 h2
   exact ins_objs h (hne ▸ h) hinf h0 fun f g hf hg => hold_all f.2.2 (heldT g) (form_fs hp f hf) (form_held (form_fs ht g hg))
termination_by (SizeOf.sizeOf p, SizeOf.sizeOf t)
decreasing_by
 all_goals first
  | exact Prod.Lex.left _ _ (lt_ps ‹_›)
  | exact Prod.Lex.right _ (lt_ps ‹_›)
  | exact Prod.Lex.left _ _ (lt_fs ‹_›)
end Go.Proofs.YtjbccjmpebgdjaaGreatDoor
