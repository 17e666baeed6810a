import Derived.Test.YtlooadichhpgeaaGreatDoorMe26
import Derived.Test.YtlooadichhpgeaaGreatDoorMe27
namespace Go.Proofs.YtlooadichhpgeaaGreatDoor
open Go.RowKit
theorem emptyL : emptyB.toList = [] := by rw [ByteArray.toList_eq]; rfl
theorem infT_kind {k : Int} (h : k ≠ 22) : infT (tyK k) = false := by
 unfold tyK
 rw [infT_mk]
 have e : (k == 22) = false := by simpa using h
 rw [e]; rfl
theorem plainT_form {t : Ty} (h : formT t = true) : PlainT t := ⟨fun e => by rw [form_kind h e (by decide) (by decide)]; exact infT_kind (by decide), form_leaf h⟩
theorem plainT_flat {l : List Ty} (h : ∀ x ∈ l, formT x = true) : ∀ x ∈ flatU l, PlainT x := fun x hx => plainT_form (flatU_form (List.all_eq_true.2 h) x hx)
theorem form_tyK {k : Int} (h1 : 1 ≤ k) (h8 : k ≤ 8) : formT (tyK k) = true := by
 unfold tyK
 rw [formT_mk]
 have hs : shapeK k = ⟨false, false, false, false, 0, 0, true⟩ := by unfold shapeK; rw [if_pos ⟨h1, h8⟩]
 rw [hs]
 unfold selfB
 rw [if_neg (by omega), if_neg (by omega), if_neg (by omega), if_neg (by omega), if_neg (by omega), if_neg (by omega), if_neg (by omega), if_neg (by omega)]
 unfold fitsB
 simp [emptyL]
theorem form_str (s : ByteArray) : formT (strT s) = true := by
 unfold strT
 rw [formT_mk]
 have hs : shapeK 10 = ⟨true, false, false, false, 0, 0, true⟩ := rfl
 rw [hs]
 unfold selfB
 rw [if_neg (by omega), if_neg (by omega), if_neg (by omega), if_neg (by omega), if_neg (by omega), if_neg (by omega), if_neg (by omega), if_neg (by omega)]
 unfold fitsB
 simp
theorem form_ps {t : Ty} (h : formT t = true) : ∀ p ∈ t.ps, formT p = true := by
 obtain ⟨k, s, n, ps, fs, vs⟩ := t
 rw [formT_mk, Bool.and_eq_true, List.all_eq_true] at h
 exact h.2
theorem form_self {k : Int} {t : ByteArray} {n : Int} {ps : List Ty} {fs : List (ByteArray × Int × Ty)} {vs : List (ByteArray × List Ty)} (h : formT (.mk k t n ps fs vs) = true) : selfB k t n ps (fieldsB (fieldsT fs formT)) (varsB (varsT vs formT)) = true := by
 rw [formT_mk, Bool.and_eq_true, Bool.and_eq_true] at h
 exact h.1.2
theorem form_15 {t : ByteArray} {n : Int} {ps : List Ty} {fs : List (ByteArray × Int × Ty)} {vs : List (ByteArray × List Ty)} (h : formT (.mk 15 t n ps fs vs) = true) : 2 ≤ ps.length ∧ t = emptyB ∧ n = 0 ∧ fs = [] ∧ vs = [] ∧ isUB ps = true := by
 have hf := form_fits h
 have hs : shapeK 15 = ⟨false, false, false, false, 2, -1, true⟩ := rfl
 rw [hs] at hf
 unfold fitsB at hf
 simp only [Bool.and_eq_true, Bool.not_eq_true', Bool.or_eq_false_iff, Bool.or_eq_true, decide_eq_true_eq, beq_iff_eq, Bool.not_false, Bool.true_and, decide_eq_false_iff_not] at hf
 obtain ⟨⟨⟨⟨h1, h2⟩, h3⟩, h4⟩, h5, h6⟩ := hf
 refine ⟨by omega, bytes_ext ?_, by simpa using h2, List.eq_nil_of_length_eq_zero (by omega), List.eq_nil_of_length_eq_zero (by omega), ?_⟩
 ·have : t.toList = [] := by simpa using h1
  rw [ByteArray.toList_eq] at this; rw [this]; rfl
 ·have := form_self h
  unfold selfB at this
  simpa using this
theorem union_of_parts {t : Ty} (h : formT t = true) (hk : t.k = 15) : unionT t.ps = t := by
 obtain ⟨k, s, n, ps, fs, vs⟩ := t
 have hk' : k = 15 := hk
 subst hk'
 obtain ⟨h2, rfl, rfl, rfl, rfl, hu⟩ := form_15 h
 exact (isUB_self h2).1 hu
theorem union_self {t : Ty} (h : formT t = true) : unionT [t] = t := by
 by_cases hk : t.k = 15
 ·refine Eq.trans (union_congr fun x => ?_) (union_of_parts h hk)
  rw [mem_flatU]; simp only [List.mem_singleton, exists_eq_left]
  rw [parts1_15 hk]
 ·have hf : flatU [t] = [t] := flat_self fun x hx => by rw [List.mem_singleton] at hx; subst hx; exact hk
  have one : ∀ {k : Int}, hasK k [t] = decide (t.k = k) := fun {k} => by
   rw [Bool.eq_iff_iff, hasKc, decide_eq_true_eq]; simp
  by_cases h1 : t.k = 1
  ·have e : keptU [t] = [] := by unfold keptU; rw [hf, List.filter_eq_nil_iff]; intro x hx; rw [List.mem_singleton] at hx; subst hx; rw [keepT_1 _ h1]; decide
   unfold unionT; rw [e, form_kind h h1 (by decide) (by decide)]; rfl
  ·have e : keptU [t] = [t] := by
    unfold keptU; rw [hf, List.filter_eq_self]; intro x hx; rw [List.mem_singleton] at hx; subst hx
    by_cases h3 : x.k = 3
    ·exact keepT_3 _ h3
    by_cases h2 : x.k = 2
    ·rw [keepT_2 _ h2 ((plainT_form h).1 h2), a_of, one, decide_eq_false h3]; rfl
    rw [keepT_free _ h3 h1 h2 (by rw [a_of, one, decide_eq_false h3]) (by rw [u_of, one, decide_eq_false h2])]
    by_cases h9 : x.k = 9
    ·rw [if_pos h9, n_of, one, decide_eq_false (by omega)]; rfl
    ·rw [if_neg h9]
     by_cases h10 : x.k = 10
     ·rw [if_pos h10, s_of, one, decide_eq_false (by omega)]; rfl
     ·rw [if_neg h10]
   unfold unionT; rw [e]; rfl
theorem form_union {l : List Ty} (h : ∀ x ∈ l, formT x = true) : formT (unionT l) = true := by
 have hp := parts_union l
 have hu := union_parts l (plainT_flat h)
 have hm : ∀ x ∈ sortT (keptU l), formT x = true := fun x hx => flatU_form (List.all_eq_true.2 h) x (mem_keptU.1 ((mem_sortT x _).1 hx)).1
 rw [hp] at hu
 unfold unionT at hp hu ⊢
 generalize sortT (keptU l) = s at hp hu hm
 rcases s with _ | ⟨x, _ | ⟨y, s⟩⟩
 ·exact form_tyK (by decide) (by decide)
 ·exact hm x (by simp)
 ·show formT (.mk 15 emptyB 0 (x :: y :: s) [] []) = true
  rw [formT_mk]
  have hs : shapeK 15 = ⟨false, false, false, false, 2, -1, true⟩ := rfl
  rw [hs]
  have hb : isUB (x :: y :: s) = true := (isUB_self (by simp)).2 hu
  have hself : selfB 15 emptyB 0 (x :: y :: s) (fieldsB (fieldsT [] formT)) (varsB (varsT [] formT)) = true := by unfold selfB; simpa using hb
  rw [hself, Bool.and_true, Bool.and_eq_true, List.all_eq_true]
  refine ⟨?_, hm⟩
  unfold fitsB
  simp [emptyL]
  omega
theorem form_fields {t : Ty} (h : formT t = true) (hk : t.k = 14) : fieldsB (fieldsT t.fs formT) = true := by
 obtain ⟨k, s, n, ps, fs, vs⟩ := t
 have hk' : k = 14 := hk
 subst hk'
 have := form_self h
 unfold selfB at this
 have h2 : fieldsB (fieldsT fs formT) = true := by simpa using this
 exact h2
theorem fieldsB_at {fs : List (ByteArray × Int × Ty)} (h : fieldsB (fieldsT fs formT) = true) {i : Nat} (hi : i < fs.length) : nameT fs[i].1 = true ∧ 0 ≤ fs[i].2.1 ∧ fs[i].2.1 ≤ 3 ∧ formT fs[i].2.2 = true := by
 unfold fieldsB at h
 rw [range_all] at h
 have := h i (by rw [fieldsT_len]; exact hi)
 rcases i with _ | i
 ·rw [okF_zero hi] at this
  simp only [Bool.and_eq_true, decide_eq_true_eq] at this
  exact ⟨this.1.1.1, this.1.1.2, this.1.2, this.2⟩
 ·rw [okF_succ hi] at this
  simp only [Bool.and_eq_true, decide_eq_true_eq] at this
  exact ⟨this.1.1.1.1, this.1.1.1.2, this.1.1.2, this.1.2⟩
theorem fieldsB_mem {fs : List (ByteArray × Int × Ty)} (h : fieldsB (fieldsT fs formT) = true) {f : ByteArray × Int × Ty} (hf : f ∈ fs) : nameT f.1 = true ∧ 0 ≤ f.2.1 ∧ f.2.1 ≤ 3 ∧ formT f.2.2 = true := by
 obtain ⟨i, hi, rfl⟩ := List.getElem_of_mem hf
 exact fieldsB_at h hi
theorem fieldsB_lt {fs : List (ByteArray × Int × Ty)} (h : fieldsB (fieldsT fs formT) = true) {i : Nat} (hi : i + 1 < fs.length) : Go.Op.bytesLess (fs[i]'(by omega)).1.toList fs[i + 1].1.toList = true := by
 unfold fieldsB at h
 rw [range_all] at h
 have := h (i + 1) (by rw [fieldsT_len]; exact hi)
 rw [okF_succ hi] at this
 simp only [Bool.and_eq_true, decide_eq_true_eq] at this
 exact this.2
theorem form_held {f : ByteArray × Int × Ty} (h : formT f.2.2 = true) : formT (heldT f) = true := by
 unfold heldT
 split
 ·refine form_union fun x hx => ?_
  simp only [List.mem_cons, List.not_mem_nil, or_false] at hx
  rcases hx with rfl | rfl
  ·exact form_tyK (by decide) (by decide)
  ·exact h
 ·exact h
theorem form_field {t : Ty} (h : formT t = true) (hk : t.k = 14) (s : ByteArray) : formT (fieldT t.fs s) = true := by
 unfold fieldT
 split
 ·exact form_tyK (by decide) (by decide)
 ·rename_i f hf
  exact form_held (fieldsB_mem (form_fields h hk) (List.mem_of_find?_eq_some hf)).2.2.2
theorem form_nulls {l : List Ty} (h : ∀ p ∈ l, formT p = true) : formT (unionT (tyK 4 :: l)) = true := form_union fun x hx => by
 rcases List.mem_cons.1 hx with rfl | hx
 ·exact form_tyK (by decide) (by decide)
 ·exact h x hx
theorem form_row {t : Ty} (h : formT t = true) (k : Ty) : formT (rowT t k) = true := by
 unfold rowT
 split
 ·exact form_nulls (form_ps h)
 ·split
  ·split
   ·exact form_tyK (by decide) (by decide)
   ·rcases e : t.ps[k.n.toNat]? with _ | p
    ·exact form_tyK (by decide) (by decide)
    ·exact form_ps h p (List.mem_of_getElem? e)
  ·split
   ·exact form_nulls (form_ps h)
   ·exact form_tyK (by decide) (by decide)
theorem form_at (t k : Ty) : formT t = true → formT k = true → formT (atT t k) = true := by
 refine two_ind (C := fun t k => formT t = true → formT k = true → formT (atT t k) = true) (fun t k h1 h2 ht hk => ?_) t k
 rw [atT_eq]
 split
 ·exact hk
 split
 ·exact ht
 split
 ·refine form_union fun x hx => ?_
  obtain ⟨p, hp, rfl⟩ := List.mem_map.1 hx
  exact h1 p hp ht (form_ps hk p hp)
 split
 ·refine form_union fun x hx => ?_
  obtain ⟨p, hp, rfl⟩ := List.mem_map.1 hx
  exact h2 p hp (form_ps ht p hp) hk
 split
 ·rename_i h; exact form_field ht h.1 _
 ·exact form_row ht k
theorem cntL_app (l m : List Ty) : cntL (l ++ m) = cntL l + cntL m := by simp [cntL]
theorem cntL_nil : cntL [] = 0 := rfl
theorem cntL_filter (q : Ty → Bool) : ∀ l : List Ty, cntL (l.filter q) ≤ cntL l
 | [] => Nat.le_refl _
 | a :: l => by
  have := cntL_filter q l
  rw [List.filter_cons]
  split
  ·rw [cntL_cons, cntL_cons]; omega
  ·rw [cntL_cons]; omega
theorem cntL_ins (t : Ty) : ∀ l, cntL (insT t l) ≤ cntT t + cntL l
 | [] => by simp [insT, cntL]
 | x :: l => by
  have := cntL_ins t l
  unfold insT
  repeat' split
  all_goals simp only [cntL_cons] at *
  all_goals omega
theorem cntL_sort : ∀ l, cntL (sortT l) ≤ cntL l
 | [] => Nat.le_refl _
 | a :: l => by
  have h1 := cntL_sort l
  have h2 := cntL_ins a (sortT l)
  have e : sortT (a :: l) = insT a (sortT l) := rfl
  rw [e, cntL_cons]; omega
theorem cntL_flat_of : ∀ (l : List Ty), (∀ p ∈ l, cntL (parts1 p) ≤ cntT p) → cntL (flatU l) ≤ cntL l
 | [], _ => Nat.le_refl _
 | a :: l, h => by
  have h1 := h a List.mem_cons_self
  have h2 := cntL_flat_of l fun q hq => h q (List.mem_cons_of_mem _ hq)
  rw [flatU_cons, cntL_app, cntL_cons]; omega
theorem cntL_parts1 (t : Ty) : cntL (parts1 t) ≤ cntT t := by
 refine Ty.ind (C := fun t => cntL (parts1 t) ≤ cntT t) (fun k t n ps fs vs hp _ _ => ?_) t
 rw [parts1_mk]
 split
 ·have := cntL_flat_of ps hp
  rw [cntT_mk]; omega
 ·rw [cntL_cons, cntL_nil]; omega
theorem cntL_flat (l : List Ty) : cntL (flatU l) ≤ cntL l := cntL_flat_of l fun p _ => cntL_parts1 p
theorem cnt_kind (k : Int) : cntT (tyK k) = 1 := by unfold tyK; rw [cntT_mk]; rfl
theorem cnt_union (l : List Ty) : cntT (unionT l) ≤ cntL l + 1 := by
 have h1 := cntL_sort (keptU l)
 have h2 := cntL_filter (keepT (kindsOf (flatU l))) (flatU l)
 have h3 := cntL_flat l
 have h4 : cntL (keptU l) = cntL ((flatU l).filter (keepT (kindsOf (flatU l)))) := rfl
 unfold unionT
 generalize sortT (keptU l) = s at h1
 rcases s with _ | ⟨x, _ | ⟨y, s⟩⟩
 ·show cntT (tyK 1) ≤ _; rw [cnt_kind]; omega
 ·show cntT x ≤ _; rw [cntL_cons, cntL_nil] at h1; omega
 ·show cntT (.mk 15 emptyB 0 (x :: y :: s) [] []) ≤ _
  rw [cntT_mk]
  have e1 : cntF [] = 0 := rfl
  have e2 : cntV [] = 0 := rfl
  omega
theorem cnt_ps (t : Ty) : cntL t.ps + 1 ≤ cntT t := by
 obtain ⟨k, s, n, ps, fs, vs⟩ := t
 rw [cntT_mk]; show cntL ps + 1 ≤ _; omega
theorem cntF_memT : ∀ {l : List (ByteArray × Int × Ty)} {v : ByteArray × Int × Ty}, v ∈ l → cntT v.2.2 ≤ cntF l
 | a :: l, v, h => by
  have e : cntF (a :: l) = cntT a.2.2 + cntF l := by simp [cntF]
  rw [e]
  rcases List.mem_cons.1 h with rfl | h
  ·omega
  ·have := cntF_memT h; omega
theorem cnt_fs {t : Ty} {f : ByteArray × Int × Ty} (h : f ∈ t.fs) : cntT f.2.2 + 1 ≤ cntT t := by
 obtain ⟨k, s, n, ps, fs, vs⟩ := t
 have := cntF_memT h
 rw [cntT_mk]
 have e : (Ty.mk k s n ps fs vs).fs = fs := rfl
 rw [e] at this; omega
theorem cnt_held (f : ByteArray × Int × Ty) : cntT (heldT f) ≤ cntT f.2.2 + 2 := by
 unfold heldT
 split
 ·have := cnt_union [tyK 4, f.2.2]
  rw [cntL_cons, cntL_cons, cntL_nil, cnt_kind] at this; omega
 ·omega
theorem cnt_field (t : Ty) (s : ByteArray) : cntT (fieldT t.fs s) ≤ 2 * cntT t := by
 have hp := cntT_pos t
 unfold fieldT
 split
 ·rw [cnt_kind]; omega
 ·rename_i f hf
  have h1 := cnt_held f
  have h2 := cnt_fs (List.mem_of_find?_eq_some hf)
  have h3 := cntT_pos f.2.2
  omega
theorem cnt_row (t k : Ty) : cntT (rowT t k) ≤ 2 * cntT t := by
 have hp := cntT_pos t
 have h2 := cnt_ps t
 have h1 := cnt_union (tyK 4 :: t.ps)
 rw [cntL_cons, cnt_kind] at h1
 have h4 : cntT (tyK 4) ≤ 2 * cntT t := by rw [cnt_kind]; omega
 have h5 : cntT (tyK 2) ≤ 2 * cntT t := by rw [cnt_kind]; omega
 have hu : cntT (unionT (tyK 4 :: t.ps)) ≤ 2 * cntT t := by omega
 unfold rowT
 split
 ·exact hu
 split
 ·split
  ·exact h4
  rcases e : t.ps[k.n.toNat]? with _ | p
  ·exact h4
  ·have := cntL_mem (List.mem_of_getElem? e)
   show cntT p ≤ _; omega
 split
 ·exact hu
 ·exact h5
theorem cntL_map_le {g : Ty → Ty} {c : Nat} : ∀ {l : List Ty}, (∀ p ∈ l, cntT (g p) ≤ c * cntT p) → cntL (l.map g) ≤ c * cntL l
 | [], _ => Nat.zero_le _
 | a :: l, h => by
  have h1 := h a List.mem_cons_self
  have h2 := cntL_map_le (g := g) (c := c) (l := l) fun q hq => h q (List.mem_cons_of_mem _ hq)
  rw [List.map_cons, cntL_cons, cntL_cons, Nat.mul_add]; omega
theorem mul_up {a b c : Nat} (h : b + 1 ≤ c) (ha : 1 ≤ a) : a * b + 1 ≤ a * c := by
 have h2 : a * (b + 1) ≤ a * c := Nat.mul_le_mul_left a h
 rw [Nat.mul_add, Nat.mul_one] at h2
 omega
theorem cnt_at (t k : Ty) : cntT (atT t k) ≤ 2 * cntT t * cntT k := by
 refine two_ind (C := fun t k => cntT (atT t k) ≤ 2 * cntT t * cntT k) (fun t k h1 h2 => ?_) t k
 have hk := cntT_pos k
 have ht := cntT_pos t
 have e1 : cntT k ≤ 2 * cntT t * cntT k := Nat.le_mul_of_pos_left _ (by omega)
 have e2 : 2 * cntT t ≤ 2 * cntT t * cntT k := Nat.le_mul_of_pos_right _ (by omega)
 rw [atT_eq]
 split
 ·exact e1
 split
 ·omega
 split
 ·have h3 := cnt_union (k.ps.map (atT t))
  have h4 := cntL_map_le (g := atT t) (c := 2 * cntT t) h1
  have h5 := mul_up (a := 2 * cntT t) (cnt_ps k) (by omega)
  omega
 split
 ·have h3 := cnt_union (t.ps.map fun p => atT p k)
  have h4 := cntL_map_le (g := fun p => atT p k) (c := 2 * cntT k) (l := t.ps) fun p hp => by
   have := h2 p hp
   rw [Nat.mul_right_comm] at this; exact this
  have h5 := mul_up (a := 2 * cntT k) (cnt_ps t) (by omega)
  rw [Nat.mul_right_comm]
  omega
 split
 ·exact Nat.le_trans (cnt_field t k.t) e2
 ·exact Nat.le_trans (cnt_row t k) e2
theorem GatP.go {f : Nat} {L : List (ByteArray × Ty)} {q t : Ty} (h : GatP f L q t) {K K' : Nat → Prop} {w0 w wr : World} {m : Nat} {F : ByteArray → Option Rw} {G : List (ByteArray × Ty)} {b o b' o' : Nat} (hm : HoldMid w0 w m F G wr) (hT : AtT K w t b o) (hP : AtT K' w q b' o') (hKT : ∀ x, K x ∨ x = b → x < w.heap.size ∧ ¬ rowB m F x) (hKP : ∀ x, K' x ∨ x = b' → x < w.heap.size ∧ ¬ rowB m F x) (hB : w0.heap.size ≤ w.heap.size)
  (hq : formT q = true) (ht : formT t = true) (hc : cntT q + cntT t ≤ 1000000) (hl : G.length + L.length ≤ 1000000000) :
  Calls Tryz.prog f #[.map (some m), .pointer (some ⟨b, o, none⟩), .pointer (some ⟨b', o', none⟩)] wr fun e w' => e = .returned (.tuple #[]) ∧ HoldMid w0 w m F (G ++ L) w' := by
 have hT2 := hm.at hT hKT
 have hP2 := hm.at hP hKP
 obtain ⟨F', hG, hb, hf⟩ := hm
 have out : ∀ x, x < w.heap.size ∧ ¬ rowB m F x → x < wr.heap.size ∧ ¬ rowB m F' x := fun x hx => ⟨Nat.lt_of_lt_of_le hx.1 hb.size, fun e => (hf x e).elim hx.2 (by omega)⟩
 refine (h K K' w0 wr m F' G b o b' o' hT2 hP2 (fun x hx => out x (hKT x hx)) (fun x hx => out x (hKP x hx)) hG (Nat.le_trans hB hb.size) hq ht hc hl).mono ?_
 rintro e w' ⟨rfl, hm2⟩
 exact ⟨rfl, hm2.comp hb hf (ButG.refl _ _)⟩
theorem flat_part {α β : Type} (g : α → List β) {l : List α} {i : Nat} (h : i < l.length) : ((l.take (i + 1)).map g).flatten = ((l.take i).map g).flatten ++ g l[i] := by
 rw [List.take_succ_eq_append_getElem h, List.map_append, List.flatten_append]
 simp
theorem flat_len_le {α β : Type} (g : α → List β) (l : List α) (i : Nat) : ((l.take i).map g).flatten.length ≤ (l.map g).flatten.length := by
 conv => rhs; rw [← List.take_append_drop i l, List.map_append, List.flatten_append, List.length_append]
 omega
theorem infT_k {p : Ty} (h : p.k = 22) : infT p = true := by
 obtain ⟨k, s, n, ps, fs, vs⟩ := p
 obtain rfl : k = 22 := h
 rw [infT_mk]; rfl
set_option maxRecDepth 100000 in
set_option maxHeartbeats 16000000 in
theorem hold_union {p t : Ty} (hk : p.k = 15) (hinf : infT p = true) (ih : ∀ q ∈ p.ps, HoldP q t) : HoldP p t := by
 intro K K' w0 w m F G b o b' o' hT hP hKT hKP hG hB hfp hft hct hlen
 obtain ⟨k, s, n, ps, fs, vs⟩ := p
 obtain ⟨k2, s2, n2, ps2, fs2, vs2⟩ := t
 obtain rfl : k = 15 := hk
 have hga : gathT (.mk 15 s n ps fs vs) (.mk k2 s2 n2 ps2 fs2 vs2) = (ps.map fun q => gathT q (.mk k2 s2 n2 ps2 fs2 vs2)).flatten := by rw [gathT_eq, if_neg (by rw [hinf]; decide), if_neg (by show ¬ ((15 : Int) = 22); decide), if_pos (show (Ty.mk 15 s n ps fs vs).k = 15 from rfl)]; rfl
 rw [hga] at hlen ⊢
 have ki := inf_any _ K' w b' o' hP
 rw [hinf] at ki
 obtain ⟨A, c, A', c', A'', c'', ⟨x0, x1, x2, x3, x4, x5⟩, -, hLp, -, -⟩ := hP.six
 obtain ⟨A2, c2, B2, d2, C2, e2, ⟨y0, y1, y2, y3, y4, y5⟩, -, hLt, -, -⟩ := hT.six
 have h2 : 2 ≤ ps.length := (form_15 hfp).1
 have hll := hLp.short
 obtain ⟨pb, po, hA, hKb, hat⟩ := hLp.at (by omega)
 subst hA
 have KQ : Hid (∀ i (hi : i < ps.length) wr, HoldMid w0 w m F (G ++ ((ps.take i).map (fun q => gathT q (.mk k2 s2 n2 ps2 fs2 vs2))).flatten) wr → Calls Tryz.prog 40 #[.map (some m), .pointer (some ⟨b, o, none⟩), .pointer (some ⟨pb, po + i * 6, none⟩)] wr fun e w' => e = .returned (.tuple #[]) ∧ HoldMid w0 w m F (G ++ ((ps.take (i + 1)).map (fun q => gathT q (.mk k2 s2 n2 ps2 fs2 vs2))).flatten) w') := Lib.hid fun i hi wr hm => by
  have h3 := flat_len_le (fun q => gathT q (.mk k2 s2 n2 ps2 fs2 vs2)) ps (i + 1)
  rw [flat_part (fun q => gathT q (.mk k2 s2 n2 ps2 fs2 vs2)) hi] at h3 ⊢
  rw [← List.append_assoc]
  rw [List.length_append] at h3
  exact GatP.go (ih _ (List.getElem_mem hi)) hm hT (hat i hi) hKT (fun x hx => hKP x (hx.elim .inl fun e => .inl (by rw [e]; exact hKb))) hB (form_ps hfp _ (List.getElem_mem hi)) hft (by have h1 := cntL_mem (List.getElem_mem hi); have h2 := cnt_ps (.mk 15 s n ps fs vs); simp only [Ty.ps] at h2; omega) (by rw [List.length_append]; omega)
 have hnb := (hKT b (.inr rfl)).2
 have hnb' := (hKP b' (.inr rfl)).2
 have HSW : Hid (∀ wx, HoldMid w0 w m F (G ++ ((ps.take 0).map (fun q => gathT q (.mk k2 s2 n2 ps2 fs2 vs2))).flatten) wx → True) := Lib.hid fun _ _ => trivial
 have HCP : Hid (∀ wx G', HoldMid w0 w m F G' wx → wx.cell? ⟨b', o' + 3, none⟩ = some (.slice (some ⟨pb, po, none⟩) ps.length c)) := Lib.hid fun wx G' hm => by
  obtain ⟨F', _, hb, _⟩ := hm
  exact but_cell hb hnb' x3
 have HST : Hid (HoldMid w0 w m F (G ++ ((ps.take 0).map (fun q => gathT q (.mk k2 s2 n2 ps2 fs2 vs2))).flatten) w) := Lib.hid (by rw [List.take_zero, List.map_nil, List.flatten_nil, List.append_nil]; exact HoldMid.start hG)
 have KI := Lib.hid ki
 clear hT hP hKT hKP hG hB hfp hft hct hlen hga ki hLp hLt hat hKb ih hnb hnb' HSW hinf x1 x2 x4 x5 y1 y2 y4 y5
 generalize (fun q => gathT q (.mk k2 s2 n2 ps2 fs2 vs2)) = gg at KQ HCP HST ⊢
 go_enter Tryz.func40, Tryz.ntmps40
 go_wp2_with fail
 refine KI.out.mono ?_
 rintro e w' ⟨rfl, hw⟩; obtain rfl := hw.symm
 go_wp2_with fail
 go_loopw [40] (fun v wr => ∃ (i : Nat), i ≤ ps.length ∧ v = .int .i64 i ∧ HoldMid w0 w m F (G ++ ((ps.take i).map gg).flatten) wr) (fun v _ => ps.length - (intOf v).toNat)
 case atStart => exact ⟨0, by omega, rfl, HST.out⟩
 case round =>
  obtain ⟨i, hi, rfl, hm⟩ := hrel
  have HMi := Lib.hid hm
  have hc := HCP.out _ _ hm
  clear hm
  by_cases hin : i < ps.length
  ·have t1 : decide ((i : Int) < (ps.length : Int)) = true := by simp; omega
   have wr2 : wrap64 ((i : Int) + 1) = ((i + 1 : Nat) : Int) := wrap_one (by omega)
   have HM := Lib.hid (measI hin)
   have HIn : Hid (i + 1 ≤ ps.length) := Lib.hid hin
   have HN : Hid (i < ps.length) := Lib.hid hin
   have i1 : (0 : Int) ≤ (i : Int) := by omega
   have i2 : (i : Int) < (ps.length : Int) := by omega
   go_wp2_with fail
   refine (KQ.out i HN.out _ HMi.out).mono ?_
   rintro e w' ⟨rfl, hm2⟩
   have HM2 := Lib.hid hm2
   clear hm2
   go_wp2_with fail
   refine ⟨⟨i + 1, HIn.out, by first | rfl | rw [wr2], HM2.out⟩, ?_⟩
   first | exact HM.out | (rw [wr2]; exact HM.out)
  ·have t1 : decide ((i : Int) < (ps.length : Int)) = false := by simp; omega
   have HE : Hid (HoldMid w0 w m F (G ++ (ps.map gg).flatten) _) := Lib.hid (by have h := HMi.out; rw [List.take_of_length_le (by omega)] at h; exact h)
   clear hc hi
   go_wp2_with fail
   exact bodyPost_end (v := .tuple #[]) (by simp [results, Tryz.results40, go_sem]) rfl ⟨rfl, HE.out⟩
set_option maxRecDepth 100000 in
set_option maxHeartbeats 16000000 in
theorem hold_parts {p t : Ty} (hk : t.k = 15) (hinf : infT p = true) (hk22 : ¬ p.k = 22) (hk15 : ¬ p.k = 15) (hcomp : isComp p.k = true) (ih : ∀ q ∈ t.ps, HoldP p q) : HoldP p t := by
 intro K K' w0 w m F G b o b' o' hT hP hKT hKP hG hB hfp hft hct hlen
 obtain ⟨k, s, n, ps, fs, vs⟩ := p
 obtain ⟨k2, s2, n2, ps2, fs2, vs2⟩ := t
 obtain rfl : k2 = 15 := hk
 have hga : gathT (.mk k s n ps fs vs) (.mk 15 s2 n2 ps2 fs2 vs2) = (ps2.map fun q => gathT (.mk k s n ps fs vs) q).flatten := by rw [gathT_eq, if_neg (by rw [hinf]; decide), if_neg hk22, if_neg hk15, if_neg (by rw [hcomp]; decide), if_pos (show (Ty.mk 15 s2 n2 ps2 fs2 vs2).k = 15 from rfl)]; rfl
 rw [hga] at hlen ⊢
 have ki := inf_any _ K' w b' o' hP
 rw [hinf] at ki
 obtain ⟨A, c, A', c', A'', c'', ⟨x0, x1, x2, x3, x4, x5⟩, -, hLp, -, -⟩ := hP.six
 obtain ⟨A2, c2, B2, d2, C2, e2, ⟨y0, y1, y2, y3, y4, y5⟩, -, hLt, -, -⟩ := hT.six
 have h2 : 2 ≤ ps2.length := (form_15 hft).1
 have hll := hLt.short
 obtain ⟨pb, po, hA, hKb, hat⟩ := hLt.at (by omega)
 subst hA
 have KQ : Hid (∀ i (hi : i < ps2.length) wr, HoldMid w0 w m F (G ++ ((ps2.take i).map (fun q => gathT (.mk k s n ps fs vs) q)).flatten) wr → Calls Tryz.prog 40 #[.map (some m), .pointer (some ⟨pb, po + i * 6, none⟩), .pointer (some ⟨b', o', none⟩)] wr fun e w' => e = .returned (.tuple #[]) ∧ HoldMid w0 w m F (G ++ ((ps2.take (i + 1)).map (fun q => gathT (.mk k s n ps fs vs) q)).flatten) w') := Lib.hid fun i hi wr hm => by
  have h3 := flat_len_le (fun q => gathT (.mk k s n ps fs vs) q) ps2 (i + 1)
  rw [flat_part (fun q => gathT (.mk k s n ps fs vs) q) hi] at h3 ⊢
  rw [← List.append_assoc]
  rw [List.length_append] at h3
  exact GatP.go (ih _ (List.getElem_mem hi)) hm (hat i hi) hP (fun x hx => hKT x (hx.elim .inl fun e => .inl (by rw [e]; exact hKb))) hKP hB hfp (form_ps hft _ (List.getElem_mem hi)) (by have h1 := cntL_mem (List.getElem_mem hi); have h2 := cnt_ps (.mk 15 s2 n2 ps2 fs2 vs2); simp only [Ty.ps] at h2; omega) (by rw [List.length_append]; omega)
 have hnb := (hKT b (.inr rfl)).2
 have hnb' := (hKP b' (.inr rfl)).2
 have HSW : Hid (∀ wx, HoldMid w0 w m F (G ++ ((ps2.take 0).map (fun q => gathT (.mk k s n ps fs vs) q)).flatten) wx → True) := Lib.hid fun _ _ => trivial
 have HCP : Hid (∀ wx G', HoldMid w0 w m F G' wx → wx.cell? ⟨b, o + 3, none⟩ = some (.slice (some ⟨pb, po, none⟩) ps2.length c2)) := Lib.hid fun wx G' hm => by
  obtain ⟨F', _, hb, _⟩ := hm
  exact but_cell hb hnb y3
 have HST : Hid (HoldMid w0 w m F (G ++ ((ps2.take 0).map (fun q => gathT (.mk k s n ps fs vs) q)).flatten) w) := Lib.hid (by rw [List.take_zero, List.map_nil, List.flatten_nil, List.append_nil]; exact HoldMid.start hG)
 have KI := Lib.hid ki
 have g22 : decide (k = 22) = false := decide_eq_false hk22
 have g15 : decide (k = 15) = false := decide_eq_false hk15
 have b22 : (k == 22) = false := beq_eq_false_iff_ne.2 hk22
 have b15 : (k == 15) = false := beq_eq_false_iff_ne.2 hk15
 clear hT hP hKT hKP hG hB hfp hft hct hlen hga ki hLp hLt hat hKb ih hnb hnb' HSW hinf x1 x2 x4 x5 y1 y2 y4 y5
 generalize (fun q => gathT (.mk k s n ps fs vs) q) = gg at KQ HCP HST ⊢
 go_enter Tryz.func40, Tryz.ntmps40
 go_wp2_with fail
 refine KI.out.mono ?_
 rintro e w' ⟨rfl, hw⟩; obtain rfl := hw.symm
 have hcc : k = 11 ∨ k = 12 ∨ k = 17 ∨ k = 13 ∨ k = 14 := by
  have h : isComp k = true := hcomp
  unfold isComp at h
  simp only [Bool.or_eq_true, beq_iff_eq] at h
  omega
 clear hcomp hk22 hk15 g22 g15 b22 b15
 rcases hcc with rfl | rfl | rfl | rfl | rfl
 all_goals (
  go_wp2_with fail
  go_loopw [69] (fun v wr => ∃ (i : Nat), i ≤ ps2.length ∧ v = .int .i64 i ∧ HoldMid w0 w m F (G ++ ((ps2.take i).map gg).flatten) wr) (fun v _ => ps2.length - (intOf v).toNat)
  case atStart => exact ⟨0, by omega, rfl, HST.out⟩
  case round =>
   obtain ⟨i, hi, rfl, hm⟩ := hrel
   have HMi := Lib.hid hm
   have hc := HCP.out _ _ hm
   clear hm
   by_cases hin : i < ps2.length
   ·have t1 : decide ((i : Int) < (ps2.length : Int)) = true := by simp; omega
    have wr2 : wrap64 ((i : Int) + 1) = ((i + 1 : Nat) : Int) := wrap_one (by omega)
    have HM := Lib.hid (measI hin)
    have HIn : Hid (i + 1 ≤ ps2.length) := Lib.hid hin
    have HN : Hid (i < ps2.length) := Lib.hid hin
    have i1 : (0 : Int) ≤ (i : Int) := by omega
    have i2 : (i : Int) < (ps2.length : Int) := by omega
    go_wp2_with fail
    refine (KQ.out i HN.out _ HMi.out).mono ?_
    rintro e w' ⟨rfl, hm2⟩
    have HM2 := Lib.hid hm2
    clear hm2
    go_wp2_with fail
    refine ⟨⟨i + 1, HIn.out, by first | rfl | rw [wr2], HM2.out⟩, ?_⟩
    first | exact HM.out | (rw [wr2]; exact HM.out)
   ·have t1 : decide ((i : Int) < (ps2.length : Int)) = false := by simp; omega
    have HE : Hid (HoldMid w0 w m F (G ++ (ps2.map gg).flatten) _) := Lib.hid (by have h := HMi.out; rw [List.take_of_length_le (by omega)] at h; exact h)
    clear hc hi
    go_wp2_with fail
    exact bodyPost_ret (v := .tuple #[]) (by simp [results, Tryz.results40, go_sem]) rfl ⟨rfl, HE.out⟩
 )
end Go.Proofs.YtlooadichhpgeaaGreatDoor
