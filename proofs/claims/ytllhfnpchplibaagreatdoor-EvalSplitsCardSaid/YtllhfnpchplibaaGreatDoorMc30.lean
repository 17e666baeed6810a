import Derived.Test.YtllhfnpchplibaaGreatDoorMc18
import Derived.Test.YtllhfnpchplibaaGreatDoorMc28
namespace Go.Proofs.YtllhfnpchplibaaGreatDoor
open Go.RowKit
theorem emptyL : emptyB.toList = [] := by rw [ByteArray.toList_eq]; rfl
theorem infT_kind {k : Int} (h : k ≠ 22) : infT (tyK k) = false := by
 unfold tyK
 rw [infT_mk]
 have e : (k == 22) = false := by simpa using h
 rw [e]; rfl
theorem plainT_form {t : Ty} (h : formT t = true) : PlainT t := ⟨fun e => by rw [form_kind h e (by decide) (by decide)]; exact infT_kind (by decide), form_leaf h⟩
theorem plainT_flat {l : List Ty} (h : ∀ x ∈ l, formT x = true) : ∀ x ∈ flatU l, PlainT x := fun x hx => plainT_form (flatU_form (List.all_eq_true.2 h) x hx)
theorem form_tyK {k : Int} (h1 : 1 ≤ k) (h8 : k ≤ 8) : formT (tyK k) = true := by
 unfold tyK
 rw [formT_mk]
 have hs : shapeK k = ⟨false, false, false, false, 0, 0, true⟩ := by unfold shapeK; rw [if_pos ⟨h1, h8⟩]
 rw [hs]
 unfold selfB
 rw [if_neg (by omega), if_neg (by omega), if_neg (by omega), if_neg (by omega), if_neg (by omega), if_neg (by omega), if_neg (by omega), if_neg (by omega)]
 unfold fitsB
 simp [emptyL]
theorem form_str (s : ByteArray) : formT (strT s) = true := by
 unfold strT
 rw [formT_mk]
 have hs : shapeK 10 = ⟨true, false, false, false, 0, 0, true⟩ := rfl
 rw [hs]
 unfold selfB
 rw [if_neg (by omega), if_neg (by omega), if_neg (by omega), if_neg (by omega), if_neg (by omega), if_neg (by omega), if_neg (by omega), if_neg (by omega)]
 unfold fitsB
 simp
theorem form_ps {t : Ty} (h : formT t = true) : ∀ p ∈ t.ps, formT p = true := by
 obtain ⟨k, s, n, ps, fs, vs⟩ := t
 rw [formT_mk, Bool.and_eq_true, List.all_eq_true] at h
 exact h.2
theorem form_self {k : Int} {t : ByteArray} {n : Int} {ps : List Ty} {fs : List (ByteArray × Int × Ty)} {vs : List (ByteArray × List Ty)} (h : formT (.mk k t n ps fs vs) = true) : selfB k t n ps (fieldsB (fieldsT fs formT)) (varsB (varsT vs formT)) = true := by
 rw [formT_mk, Bool.and_eq_true, Bool.and_eq_true] at h
 exact h.1.2
theorem form_15 {t : ByteArray} {n : Int} {ps : List Ty} {fs : List (ByteArray × Int × Ty)} {vs : List (ByteArray × List Ty)} (h : formT (.mk 15 t n ps fs vs) = true) : 2 ≤ ps.length ∧ t = emptyB ∧ n = 0 ∧ fs = [] ∧ vs = [] ∧ isUB ps = true := by
 have hf := form_fits h
 have hs : shapeK 15 = ⟨false, false, false, false, 2, -1, true⟩ := rfl
 rw [hs] at hf
 unfold fitsB at hf
 simp only [Bool.and_eq_true, Bool.not_eq_true', Bool.or_eq_false_iff, Bool.or_eq_true, decide_eq_true_eq, beq_iff_eq, Bool.not_false, Bool.true_and, decide_eq_false_iff_not] at hf
 obtain ⟨⟨⟨⟨h1, h2⟩, h3⟩, h4⟩, h5, h6⟩ := hf
 refine ⟨by omega, bytes_ext ?_, by simpa using h2, List.eq_nil_of_length_eq_zero (by omega), List.eq_nil_of_length_eq_zero (by omega), ?_⟩
 ·have : t.toList = [] := by simpa using h1
  rw [ByteArray.toList_eq] at this; rw [this]; rfl
 ·have := form_self h
  unfold selfB at this
  simpa using this
theorem union_of_parts {t : Ty} (h : formT t = true) (hk : t.k = 15) : unionT t.ps = t := by
 obtain ⟨k, s, n, ps, fs, vs⟩ := t
 have hk' : k = 15 := hk
 subst hk'
 obtain ⟨h2, rfl, rfl, rfl, rfl, hu⟩ := form_15 h
 exact (isUB_self h2).1 hu
theorem union_self {t : Ty} (h : formT t = true) : unionT [t] = t := by
 by_cases hk : t.k = 15
 ·refine Eq.trans (union_congr fun x => ?_) (union_of_parts h hk)
  rw [mem_flatU]; simp only [List.mem_singleton, exists_eq_left]
  rw [parts1_15 hk]
 ·have hf : flatU [t] = [t] := flat_self fun x hx => by rw [List.mem_singleton] at hx; subst hx; exact hk
  have one : ∀ {k : Int}, hasK k [t] = decide (t.k = k) := fun {k} => by
   rw [Bool.eq_iff_iff, hasKc, decide_eq_true_eq]; simp
  by_cases h1 : t.k = 1
  ·have e : keptU [t] = [] := by unfold keptU; rw [hf, List.filter_eq_nil_iff]; intro x hx; rw [List.mem_singleton] at hx; subst hx; rw [keepT_1 _ h1]; decide
   unfold unionT; rw [e, form_kind h h1 (by decide) (by decide)]; rfl
  ·have e : keptU [t] = [t] := by
    unfold keptU; rw [hf, List.filter_eq_self]; intro x hx; rw [List.mem_singleton] at hx; subst hx
    by_cases h3 : x.k = 3
    ·exact keepT_3 _ h3
    by_cases h2 : x.k = 2
    ·rw [keepT_2 _ h2 ((plainT_form h).1 h2), a_of, one, decide_eq_false h3]; rfl
    rw [keepT_free _ h3 h1 h2 (by rw [a_of, one, decide_eq_false h3]) (by rw [u_of, one, decide_eq_false h2])]
    by_cases h9 : x.k = 9
    ·rw [if_pos h9, n_of, one, decide_eq_false (by omega)]; rfl
    ·rw [if_neg h9]
     by_cases h10 : x.k = 10
     ·rw [if_pos h10, s_of, one, decide_eq_false (by omega)]; rfl
     ·rw [if_neg h10]
   unfold unionT; rw [e]; rfl
theorem form_union {l : List Ty} (h : ∀ x ∈ l, formT x = true) : formT (unionT l) = true := by
 have hp := parts_union l
 have hu := union_parts l (plainT_flat h)
 have hm : ∀ x ∈ sortT (keptU l), formT x = true := fun x hx => flatU_form (List.all_eq_true.2 h) x (mem_keptU.1 ((mem_sortT x _).1 hx)).1
 rw [hp] at hu
 unfold unionT at hp hu ⊢
 generalize sortT (keptU l) = s at hp hu hm
 rcases s with _ | ⟨x, _ | ⟨y, s⟩⟩
 ·exact form_tyK (by decide) (by decide)
 ·exact hm x (by simp)
 ·show formT (.mk 15 emptyB 0 (x :: y :: s) [] []) = true
  rw [formT_mk]
  have hs : shapeK 15 = ⟨false, false, false, false, 2, -1, true⟩ := rfl
  rw [hs]
  have hb : isUB (x :: y :: s) = true := (isUB_self (by simp)).2 hu
  have hself : selfB 15 emptyB 0 (x :: y :: s) (fieldsB (fieldsT [] formT)) (varsB (varsT [] formT)) = true := by unfold selfB; simpa using hb
  rw [hself, Bool.and_true, Bool.and_eq_true, List.all_eq_true]
  refine ⟨?_, hm⟩
  unfold fitsB
  simp [emptyL]
  omega
theorem form_fields {t : Ty} (h : formT t = true) (hk : t.k = 14) : fieldsB (fieldsT t.fs formT) = true := by
 obtain ⟨k, s, n, ps, fs, vs⟩ := t
 have hk' : k = 14 := hk
 subst hk'
 have := form_self h
 unfold selfB at this
 have h2 : fieldsB (fieldsT fs formT) = true := by simpa using this
 exact h2
theorem fieldsB_at {fs : List (ByteArray × Int × Ty)} (h : fieldsB (fieldsT fs formT) = true) {i : Nat} (hi : i < fs.length) : nameT fs[i].1 = true ∧ 0 ≤ fs[i].2.1 ∧ fs[i].2.1 ≤ 3 ∧ formT fs[i].2.2 = true := by
 unfold fieldsB at h
 rw [range_all] at h
 have := h i (by rw [fieldsT_len]; exact hi)
 rcases i with _ | i
 ·rw [okF_zero hi] at this
  simp only [Bool.and_eq_true, decide_eq_true_eq] at this
  exact ⟨this.1.1.1, this.1.1.2, this.1.2, this.2⟩
 ·rw [okF_succ hi] at this
  simp only [Bool.and_eq_true, decide_eq_true_eq] at this
  exact ⟨this.1.1.1.1, this.1.1.1.2, this.1.1.2, this.1.2⟩
theorem fieldsB_mem {fs : List (ByteArray × Int × Ty)} (h : fieldsB (fieldsT fs formT) = true) {f : ByteArray × Int × Ty} (hf : f ∈ fs) : nameT f.1 = true ∧ 0 ≤ f.2.1 ∧ f.2.1 ≤ 3 ∧ formT f.2.2 = true := by
 obtain ⟨i, hi, rfl⟩ := List.getElem_of_mem hf
 exact fieldsB_at h hi
theorem form_held {f : ByteArray × Int × Ty} (h : formT f.2.2 = true) : formT (heldT f) = true := by
 unfold heldT
 split
 ·refine form_union fun x hx => ?_
  simp only [List.mem_cons, List.not_mem_nil, or_false] at hx
  rcases hx with rfl | rfl
  ·exact form_tyK (by decide) (by decide)
  ·exact h
 ·exact h
theorem form_field {t : Ty} (h : formT t = true) (hk : t.k = 14) (s : ByteArray) : formT (fieldT t.fs s) = true := by
 unfold fieldT
 split
 ·exact form_tyK (by decide) (by decide)
 ·rename_i f hf
  exact form_held (fieldsB_mem (form_fields h hk) (List.mem_of_find?_eq_some hf)).2.2.2
theorem form_nulls {l : List Ty} (h : ∀ p ∈ l, formT p = true) : formT (unionT (tyK 4 :: l)) = true := form_union fun x hx => by
 rcases List.mem_cons.1 hx with rfl | hx
 ·exact form_tyK (by decide) (by decide)
 ·exact h x hx
theorem form_row {t : Ty} (h : formT t = true) (k : Ty) : formT (rowT t k) = true := by
 unfold rowT
 split
 ·exact form_nulls (form_ps h)
 ·split
  ·split
   ·exact form_tyK (by decide) (by decide)
   ·rcases e : t.ps[k.n.toNat]? with _ | p
    ·exact form_tyK (by decide) (by decide)
    ·exact form_ps h p (List.mem_of_getElem? e)
  ·split
   ·exact form_nulls (form_ps h)
   ·exact form_tyK (by decide) (by decide)
theorem form_at (t k : Ty) : formT t = true → formT k = true → formT (atT t k) = true := by
 refine two_ind (C := fun t k => formT t = true → formT k = true → formT (atT t k) = true) (fun t k h1 h2 ht hk => ?_) t k
 rw [atT_eq]
 split
 ·exact hk
 split
 ·exact ht
 split
 ·refine form_union fun x hx => ?_
  obtain ⟨p, hp, rfl⟩ := List.mem_map.1 hx
  exact h1 p hp ht (form_ps hk p hp)
 split
 ·refine form_union fun x hx => ?_
  obtain ⟨p, hp, rfl⟩ := List.mem_map.1 hx
  exact h2 p hp (form_ps ht p hp) hk
 split
 ·rename_i h; exact form_field ht h.1 _
 ·exact form_row ht k
theorem cntL_app (l m : List Ty) : cntL (l ++ m) = cntL l + cntL m := by simp [cntL]
theorem cntL_nil : cntL [] = 0 := rfl
theorem cntL_filter (q : Ty → Bool) : ∀ l : List Ty, cntL (l.filter q) ≤ cntL l
 | [] => Nat.le_refl _
 | a :: l => by
  have := cntL_filter q l
  rw [List.filter_cons]
  split
  ·rw [cntL_cons, cntL_cons]; omega
  ·rw [cntL_cons]; omega
theorem cntL_ins (t : Ty) : ∀ l, cntL (insT t l) ≤ cntT t + cntL l
 | [] => by simp [insT, cntL]
 | x :: l => by
  have := cntL_ins t l
  unfold insT
  repeat' split
  all_goals simp only [cntL_cons] at *
  all_goals omega
theorem cntL_sort : ∀ l, cntL (sortT l) ≤ cntL l
 | [] => Nat.le_refl _
 | a :: l => by
  have h1 := cntL_sort l
  have h2 := cntL_ins a (sortT l)
  have e : sortT (a :: l) = insT a (sortT l) := rfl
  rw [e, cntL_cons]; omega
theorem cntL_flat_of : ∀ (l : List Ty), (∀ p ∈ l, cntL (parts1 p) ≤ cntT p) → cntL (flatU l) ≤ cntL l
 | [], _ => Nat.le_refl _
 | a :: l, h => by
  have h1 := h a List.mem_cons_self
  have h2 := cntL_flat_of l fun q hq => h q (List.mem_cons_of_mem _ hq)
  rw [flatU_cons, cntL_app, cntL_cons]; omega
theorem cntL_parts1 (t : Ty) : cntL (parts1 t) ≤ cntT t := by
 refine Ty.ind (C := fun t => cntL (parts1 t) ≤ cntT t) (fun k t n ps fs vs hp _ _ => ?_) t
 rw [parts1_mk]
 split
 ·have := cntL_flat_of ps hp
  rw [cntT_mk]; omega
 ·rw [cntL_cons, cntL_nil]; omega
theorem cntL_flat (l : List Ty) : cntL (flatU l) ≤ cntL l := cntL_flat_of l fun p _ => cntL_parts1 p
theorem cnt_kind (k : Int) : cntT (tyK k) = 1 := by unfold tyK; rw [cntT_mk]; rfl
theorem cnt_union (l : List Ty) : cntT (unionT l) ≤ cntL l + 1 := by
 have h1 := cntL_sort (keptU l)
 have h2 := cntL_filter (keepT (kindsOf (flatU l))) (flatU l)
 have h3 := cntL_flat l
 have h4 : cntL (keptU l) = cntL ((flatU l).filter (keepT (kindsOf (flatU l)))) := rfl
 unfold unionT
 generalize sortT (keptU l) = s at h1
 rcases s with _ | ⟨x, _ | ⟨y, s⟩⟩
 ·show cntT (tyK 1) ≤ _; rw [cnt_kind]; omega
 ·show cntT x ≤ _; rw [cntL_cons, cntL_nil] at h1; omega
 ·show cntT (.mk 15 emptyB 0 (x :: y :: s) [] []) ≤ _
  rw [cntT_mk]
  have e1 : cntF [] = 0 := rfl
  have e2 : cntV [] = 0 := rfl
  omega
theorem cnt_ps (t : Ty) : cntL t.ps + 1 ≤ cntT t := by
 obtain ⟨k, s, n, ps, fs, vs⟩ := t
 rw [cntT_mk]; show cntL ps + 1 ≤ _; omega
theorem cntF_memT : ∀ {l : List (ByteArray × Int × Ty)} {v : ByteArray × Int × Ty}, v ∈ l → cntT v.2.2 ≤ cntF l
 | a :: l, v, h => by
  have e : cntF (a :: l) = cntT a.2.2 + cntF l := by simp [cntF]
  rw [e]
  rcases List.mem_cons.1 h with rfl | h
  ·omega
  ·have := cntF_memT h; omega
theorem cnt_fs {t : Ty} {f : ByteArray × Int × Ty} (h : f ∈ t.fs) : cntT f.2.2 + 1 ≤ cntT t := by
 obtain ⟨k, s, n, ps, fs, vs⟩ := t
 have := cntF_memT h
 rw [cntT_mk]
 have e : (Ty.mk k s n ps fs vs).fs = fs := rfl
 rw [e] at this; omega
theorem cnt_held (f : ByteArray × Int × Ty) : cntT (heldT f) ≤ cntT f.2.2 + 2 := by
 unfold heldT
 split
 ·have := cnt_union [tyK 4, f.2.2]
  rw [cntL_cons, cntL_cons, cntL_nil, cnt_kind] at this; omega
 ·omega
theorem cnt_field (t : Ty) (s : ByteArray) : cntT (fieldT t.fs s) ≤ 2 * cntT t := by
 have hp := cntT_pos t
 unfold fieldT
 split
 ·rw [cnt_kind]; omega
 ·rename_i f hf
  have h1 := cnt_held f
  have h2 := cnt_fs (List.mem_of_find?_eq_some hf)
  have h3 := cntT_pos f.2.2
  omega
theorem cnt_row (t k : Ty) : cntT (rowT t k) ≤ 2 * cntT t := by
 have hp := cntT_pos t
 have h2 := cnt_ps t
 have h1 := cnt_union (tyK 4 :: t.ps)
 rw [cntL_cons, cnt_kind] at h1
 have h4 : cntT (tyK 4) ≤ 2 * cntT t := by rw [cnt_kind]; omega
 have h5 : cntT (tyK 2) ≤ 2 * cntT t := by rw [cnt_kind]; omega
 have hu : cntT (unionT (tyK 4 :: t.ps)) ≤ 2 * cntT t := by omega
 unfold rowT
 split
 ·exact hu
 split
 ·split
  ·exact h4
  rcases e : t.ps[k.n.toNat]? with _ | p
  ·exact h4
  ·have := cntL_mem (List.mem_of_getElem? e)
   show cntT p ≤ _; omega
 split
 ·exact hu
 ·exact h5
theorem cntL_map_le {g : Ty → Ty} {c : Nat} : ∀ {l : List Ty}, (∀ p ∈ l, cntT (g p) ≤ c * cntT p) → cntL (l.map g) ≤ c * cntL l
 | [], _ => Nat.zero_le _
 | a :: l, h => by
  have h1 := h a List.mem_cons_self
  have h2 := cntL_map_le (g := g) (c := c) (l := l) fun q hq => h q (List.mem_cons_of_mem _ hq)
  rw [List.map_cons, cntL_cons, cntL_cons, Nat.mul_add]; omega
theorem mul_up {a b c : Nat} (h : b + 1 ≤ c) (ha : 1 ≤ a) : a * b + 1 ≤ a * c := by
 have h2 : a * (b + 1) ≤ a * c := Nat.mul_le_mul_left a h
 rw [Nat.mul_add, Nat.mul_one] at h2
 omega
theorem cnt_at (t k : Ty) : cntT (atT t k) ≤ 2 * cntT t * cntT k := by
 refine two_ind (C := fun t k => cntT (atT t k) ≤ 2 * cntT t * cntT k) (fun t k h1 h2 => ?_) t k
 have hk := cntT_pos k
 have ht := cntT_pos t
 have e1 : cntT k ≤ 2 * cntT t * cntT k := Nat.le_mul_of_pos_left _ (by omega)
 have e2 : 2 * cntT t ≤ 2 * cntT t * cntT k := Nat.le_mul_of_pos_right _ (by omega)
 rw [atT_eq]
 split
 ·exact e1
 split
 ·omega
 split
 ·have h3 := cnt_union (k.ps.map (atT t))
  have h4 := cntL_map_le (g := atT t) (c := 2 * cntT t) h1
  have h5 := mul_up (a := 2 * cntT t) (cnt_ps k) (by omega)
  omega
 split
 ·have h3 := cnt_union (t.ps.map fun p => atT p k)
  have h4 := cntL_map_le (g := fun p => atT p k) (c := 2 * cntT k) (l := t.ps) fun p hp => by
   have := h2 p hp
   rw [Nat.mul_right_comm] at this; exact this
  have h5 := mul_up (a := 2 * cntT k) (cnt_ps t) (by omega)
  rw [Nat.mul_right_comm]
  omega
 split
 ·exact Nat.le_trans (cnt_field t k.t) e2
 ·exact Nat.le_trans (cnt_row t k) e2
theorem fl_cases {fl : Int} (h0 : 0 ≤ fl) (h3 : fl ≤ 3) : fl = 0 ∨ fl = 1 ∨ fl = 2 ∨ fl = 3 := by omega
set_option maxRecDepth 100000 in
set_option maxHeartbeats 32000000 in
theorem atfield_any (hU : UnionP) {K : Nat → Prop} {w : World} {t : Ty} {cs : List Value} (hr : RepT K w t cs) (hlo : ∀ b, K b → b < w.heap.size) (hfm : formT t = true) (hk : t.k = 14) (hc : cntT t ≤ 1000000) (name : ByteArray) :
  Calls Tryz.prog 42 #[.agg cs.toArray, .string name] w (TyPost K w (fieldT t.fs name)) := by
 have hfs := form_fields hfm hk
 have hmem : ∀ f ∈ t.fs, (f.2.1 = 0 ∨ f.2.1 = 1 ∨ f.2.1 = 2 ∨ f.2.1 = 3) ∧ (flatU [tyK 4, f.2.2]).length ≤ 1099511627776 := fun f hf => by
  obtain ⟨_, h0, h3, _⟩ := fieldsB_mem hfs hf
  have h1 := (flatU_cnt [tyK 4, f.2.2]).1
  have h2 := cnt_fs hf
  rw [cntL_cons, cntL_cons, cntL_nil, cnt_kind] at h1
  exact ⟨fl_cases h0 h3, by omega⟩
 obtain ⟨k, s, n, ps, fs, vs⟩ := t
 have KF := Lib.hid fun wx (hx : Below w.heap.size w wx) => fieldof_any (hr.later hx) name
 obtain ⟨A, c, A', c', A'', c'', rfl, -⟩ := hr.inv
 simp only [cells6T] at hr KF ⊢
 obtain ⟨w1, hw1⟩ : ∃ x, x = (w.alloc (.cells #[.int .i64 k, .string s, .int .i64 n, .slice A ps.length c, .slice A' fs.length c', .slice A'' vs.length c''] 26)).alloc (.cells #[.int .i64 0, .string ⟨#[]⟩, .int .i64 0, .slice none 0 0, .slice none 0 0, .slice none 0 0] 26) := ⟨_, rfl⟩
 obtain ⟨g, hg⟩ : ∃ g, g = w.heap.size + 1 := ⟨_, rfl⟩
 have hb1 : Below w.heap.size w w1 := by rw [hw1]; exact ((Below.refl _ _).alloc (Nat.le_refl _) _).alloc (by simp) _
 have hs1 : w1.heap.size = w.heap.size + 2 := by rw [hw1]; simp
 have hx0 : w1.heap[w.heap.size]? = some (.cells #[.int .i64 k, .string s, .int .i64 n, .slice A ps.length c, .slice A' fs.length c', .slice A'' vs.length c''] 26 (0, 0)) := by rw [hw1, Below.heap_alloc _ _ _ (by simp)]; exact heap_alloc_new w _
 have hx1 : w1.heap[g]? = some (.cells #[.int .i64 0, .string ⟨#[]⟩, .int .i64 0, .slice none 0 0, .slice none 0 0, .slice none 0 0] 26 (0, 0)) := by
  rw [hw1, hg]
  have h := heap_alloc_new (w.alloc (.cells #[.int .i64 k, .string s, .int .i64 n, .slice A ps.length c, .slice A' fs.length c', .slice A'' vs.length c''] 26)) (.cells #[.int .i64 0, .string ⟨#[]⟩, .int .i64 0, .slice none 0 0, .slice none 0 0, .slice none 0 0] 26)
  rw [World.size_alloc] at h
  exact h
 have HB1 := Lib.hid hb1
 have HS1 := Lib.hid hs1
 have HX0 := Lib.hid hx0
 have HX1 := Lib.hid hx1
 have HW1 := Lib.hid hw1
 have HG := Lib.hid hg
 have HLO := Lib.hid hlo
 have HU := Lib.hid hU
 have HMEM := Lib.hid hmem
 have e0 : Ty.fs (.mk k s n ps fs vs) = fs := rfl
 rw [e0] at KF HMEM ⊢
 have HFT : Hid (fieldT fs name = match fs.find? fun f => decide (f.1 = name) with | none => tyK 2 | some f => heldT f) := Lib.hid rfl
 generalize hu : fieldT fs name = u at HFT ⊢
 have HFF : Hid (∀ f, fs.find? (fun f => decide (f.1 = name)) = some f → f ∈ fs) := Lib.hid fun f h => List.mem_of_find?_eq_some h
 generalize fs.find? (fun f => decide (f.1 = name)) = fd at HFT HFF KF
 obtain ⟨k2, s2, n2, ps2, fs2, vs2⟩ := u
 unfold TyPost
 clear hr hb1 hs1 hx0 hx1 hw1 hg hlo hU hmem hfs hfm hk hc e0 hu
 go_enter Tryz.func42, Tryz.ntmps42
 go_upto_region 1 with fail
 rw [← HW1.out, ← HG.out]
 obtain ⟨x0, x1, x2, x3, x4, x5⟩ := cz6 HX0.out
 go_wp2_with fail
 refine (KF.out _ HB1.out).mono ?_
 rintro e w2 ⟨hm, hb⟩
 have HB2 := Lib.hid hb
 have HBE := Lib.hid (HB1.out.trans (hb.mono HB1.out.size))
 have rb := box_up HB2.out (by have := HG.out; have := HS1.out; omega) HX1.out
 have RB := Lib.hid rb
 clear x0 x1 x2 x3 x4 x5 KF hb rb
 rcases fd with _ | f
 ·have he : e = .returned (.tuple #[.agg #[.string ⟨#[]⟩, .int .i64 0, .int .i64 0, .string ⟨#[]⟩, .int .i64 0, .slice none 0 0, .slice none 0 0, .slice none 0 0], .bool false]) := hm
  have HQ : Hid (Ty.mk k2 s2 n2 ps2 fs2 vs2 = tyK 2) := Lib.hid HFT.out
  subst he
  clear hm HFT HFF HMEM
  go_upto_region 3 with fail
  generalize hW : w2.alloc (.cells #[.string ⟨#[]⟩, .int .i64 0, .int .i64 0, .string ⟨#[]⟩, .int .i64 0, .slice none 0 0, .slice none 0 0, .slice none 0 0] 40) = W
  have hbW : Below w2.heap.size w2 W := by rw [← hW]; exact (Below.refl _ _).alloc (Nat.le_refl _) _
  have HBW := Lib.hid (HBE.out.trans (hbW.mono HBE.out.size))
  have HBX := Lib.hid (HB2.out.trans (hbW.mono HB2.out.size))
  have hsz : w.heap.size + 2 ≤ w2.heap.size := by have := HS1.out; have := HB2.out.size; omega
  have rb := box_up hbW (by have := HG.out; omega) RB.out
  clear hW hbW
  obtain ⟨q0, q1, q2, q3, q4, q5, z0, z1, z2, z3, z4, z5⟩ := qz6 rb
  have RBX := Lib.hid rb
  clear rb
  go_wp2_with fail
  have rs := six_set RBX.out (.int .i64 2) (.string ⟨#[]⟩) (.int .i64 0) (.slice none 0 0) (.slice none 0 0) (.slice none 0 0)
  obtain ⟨r0, r1, r2, r3, r4, r5⟩ := cz6 rs
  clear q0 q1 q2 q3 q4 q5 z0 z1 z2 z3 z4 z5 RBX rs
  refine bodyPost_ret (v := .agg #[.int .i64 2, .string ⟨#[]⟩, .int .i64 0, .slice none 0 0, .slice none 0 0, .slice none 0 0]) (by simp [results, Tryz.results42, go_sem, r0, r1, r2, r3, r4, r5]) rfl ?_
  clear r0 r1 r2 r3 r4 r5
  rw [HQ.out]
  exact ⟨[.int .i64 2, .string ⟨#[]⟩, .int .i64 0, .slice none 0 0, .slice none 0 0, .slice none 0 0], rfl, ret_box (rep_k (fun b => K b ∨ g < b) W 2) (fun b h => by have := HLO.out b h; have := HG.out; omega) (by have := HG.out; omega) _ _ _ _ _ _, set_six_below HBW.out (by have := HG.out; omega) _ _ _ _ _ _⟩
 ·obtain ⟨nm, fl, t2⟩ := f
  obtain ⟨ds, he, hr2⟩ : ∃ ds, e = .returned (.tuple #[.agg (.string nm :: .int .i64 fl :: ds).toArray, .bool true]) ∧ RepT K w1 t2 ds := hm
  have HQ : Hid (Ty.mk k2 s2 n2 ps2 fs2 vs2 = heldT (nm, fl, t2)) := Lib.hid HFT.out
  have HM2 := Lib.hid (HMEM.out _ (HFF.out _ rfl))
  clear HFT HFF HMEM
  have HR2 := Lib.hid hr2
  obtain ⟨k3, s3, n3, ps3, fs3, vs3⟩ := t2
  obtain ⟨A3, c3, B3, d3, C3, e3, rfl, -⟩ := hr2.inv
  simp only [cells6T] at he HR2
  clear hr2
  subst he
  go_upto_region 4 with fail
  generalize hW : w2.alloc (.cells #[.string nm, .int .i64 fl, .int .i64 k3, .string s3, .int .i64 n3, .slice A3 ps3.length c3, .slice B3 fs3.length d3, .slice C3 vs3.length e3] 40) = W
  have hbW : Below w2.heap.size w2 W := by rw [← hW]; exact (Below.refl _ _).alloc (Nat.le_refl _) _
  have HBW := Lib.hid (HBE.out.trans (hbW.mono HBE.out.size))
  have HBX := Lib.hid (HB2.out.trans (hbW.mono HB2.out.size))
  have hsz : w.heap.size + 2 ≤ w2.heap.size := by have := HS1.out; have := HB2.out.size; omega
  have hx5 : W.heap[w2.heap.size]? = some (.cells #[.string nm, .int .i64 fl, .int .i64 k3, .string s3, .int .i64 n3, .slice A3 ps3.length c3, .slice B3 fs3.length d3, .slice C3 vs3.length e3] 40 (0, 0)) := by rw [← hW]; exact heap_alloc_new w2 _
  have rb := box_up hbW (by have := HG.out; omega) RB.out
  have hlW : w2.heap.size < W.heap.size := by rw [← hW]; simp
  have KH := Lib.hid (held_any HU.out (HR2.out.later HBX.out) (fun b h => by have := HLO.out b h; have := HBW.out.size; omega) HM2.out.1 HM2.out.2 (nm := nm))
  have RB2 := Lib.hid (And.intro rb hlW)
  obtain ⟨x0, x1, x2, x3, x4, x5, x6, x7⟩ := cz8 hx5
  clear hW hbW hx5 rb hlW
  go_wp2_with fail
  refine KH.out.mono ?_
  rintro e w5 ⟨rs, rfl, hr5, hb5⟩
  have HB5 := Lib.hid (HBW.out.trans (hb5.mono HBW.out.size))
  have rb := box_up hb5 (by have := HG.out; have := RB2.out.2; omega) RB2.out.1
  have hr6 : RepT (fun b => K b ∨ g < b) w5 (heldT (nm, fl, .mk k3 s3 n3 ps3 fs3 vs3)) rs := hr5.weak fun b h => h.imp id fun h => by have := HG.out; have := RB2.out.2; omega
  clear hr5 hb5 KH x0 x1 x2 x3 x4 x5 x6 x7
  rw [← HQ.out] at hr6
  obtain ⟨Aq, cq, Ag, cg, Ah, ch, rfl, -⟩ := hr6.inv
  have HR6 := Lib.hid hr6
  simp only [cells6T] at HR6 ⊢
  clear hr6
  obtain ⟨q0, q1, q2, q3, q4, q5, z0, z1, z2, z3, z4, z5⟩ := qz6 rb
  have RBX := Lib.hid rb
  clear rb
  go_wp2_with fail
  have rs := six_set RBX.out (.int .i64 k2) (.string s2) (.int .i64 n2) (.slice Aq ps2.length cq) (.slice Ag fs2.length cg) (.slice Ah vs2.length ch)
  obtain ⟨r0, r1, r2, r3, r4, r5⟩ := cz6 rs
  clear q0 q1 q2 q3 q4 q5 z0 z1 z2 z3 z4 z5 RBX rs
  refine bodyPost_ret (v := .agg #[.int .i64 k2, .string s2, .int .i64 n2, .slice Aq ps2.length cq, .slice Ag fs2.length cg, .slice Ah vs2.length ch]) (by simp [results, Tryz.results42, go_sem, r0, r1, r2, r3, r4, r5]) rfl ?_
  clear r0 r1 r2 r3 r4 r5
  exact ⟨[.int .i64 k2, .string s2, .int .i64 n2, .slice Aq ps2.length cq, .slice Ag fs2.length cg, .slice Ah vs2.length ch], rfl, ret_box HR6.out (fun b h => by have := HLO.out b h; have := HG.out; omega) (by have := HG.out; omega) _ _ _ _ _ _, set_six_below HB5.out (by have := HG.out; omega) _ _ _ _ _ _⟩
theorem at_object {t : Ty} (hk : t.k = 14) (s : ByteArray) : atT t (strT s) = fieldT t.fs s := by
 rw [atT_eq, if_neg (by rw [strT_k]; decide), if_neg (by omega), if_neg (by rw [strT_k]; decide), if_neg (by omega), if_pos ⟨hk, strT_k s⟩]
 rfl
theorem at_parts {t k : Ty} (ht : formT t = true) (hk : formT k = true) (h1 : k.k ≠ 1) (h15 : k.k ≠ 15) : atT t k = unionT ((prtsT t).map fun p => atT p k) := by
 by_cases ht15 : t.k = 15
 ·rw [atT_eq, if_neg h1, if_neg (by omega), if_neg h15, if_pos ht15]
  unfold prtsT
  rw [if_pos ht15]
 ·by_cases ht1 : t.k = 1
  ·rw [atT_eq, if_neg h1, if_pos (.inr ht1)]
   unfold prtsT
   rw [if_neg ht15, if_pos ht1, form_kind ht ht1 (by decide) (by decide)]
   rfl
  ·unfold prtsT
   rw [if_neg ht15, if_neg ht1]
   exact (union_self (form_at t k ht hk)).symm
theorem form_parts {t : Ty} (h : formT t = true) : ∀ p ∈ prtsT t, formT p = true := by
 intro p hp
 unfold prtsT at hp
 split at hp
 ·exact form_ps h p hp
 ·split at hp
  ·cases hp
  ·rw [List.mem_singleton] at hp; subst hp; exact h
theorem at_union {a b u : Ty} (k : Ty) (hu : u = unionT [a, b]) (ha : formT a = true) (hb : formT b = true) (hin : ∀ p, p ∈ prtsT a ∨ p ∈ prtsT b → p ∈ prtsT u) (ha3 : a.k ≠ 3) (hb3 : b.k ≠ 3) : formT k = true → atT u k = unionT [atT a k, atT b k] := by
 have hl : ∀ x ∈ [a, b], formT x = true := fun x hx => by
  simp only [List.mem_cons, List.not_mem_nil, or_false] at hx
  rcases hx with rfl | rfl
  ·exact ha
  ·exact hb
 have hfu : formT u = true := by rw [hu]; exact form_union hl
 have p1 : ∀ {t : Ty}, formT t = true → ∀ x, x ∈ parts1 t → x ∈ prtsT t ∨ x.k = 1 := fun {t} ht x hx => by
  by_cases h15 : t.k = 15
  ·left
   have e := union_of_parts ht h15
   rw [parts1_15 h15] at hx
   unfold prtsT
   rw [if_pos h15]
   have hnf : ∀ y ∈ t.ps, y.k ≠ 15 := fun y hy => by
    have h2 : y ∈ prtsT t := by unfold prtsT; rw [if_pos h15]; exact hy
    rw [← e] at h2
    exact kept_no15 (mem_parts_union.1 h2)
   rw [flat_self hnf] at hx
   exact hx
  ·rw [parts1_one h15, List.mem_singleton] at hx
   subst hx
   by_cases h1 : x.k = 1
   ·exact .inr h1
   ·left; unfold prtsT; rw [if_neg h15, if_neg h1]; simp
 have hiff : ∀ p, p ∈ prtsT u ↔ p ∈ prtsT a ++ prtsT b := fun p => by
  rw [List.mem_append]
  refine ⟨fun h => ?_, hin p⟩
  rw [hu, mem_parts_union] at h
  have h1 := kept_no1 h
  obtain ⟨q, hq, hx⟩ := mem_flatU.1 (mem_keptU.1 h).1
  simp only [List.mem_cons, List.not_mem_nil, or_false] at hq
  rcases hq with rfl | rfl
  ·rcases p1 ha p hx with h2 | h2
   ·exact .inl h2
   ·exact absurd h2 h1
  ·rcases p1 hb p hx with h2 | h2
   ·exact .inr h2
   ·exact absurd h2 h1
 have hfa := plainT_flat (l := (prtsT a)) (form_parts ha)
 refine Ty.ind (C := fun k => formT k = true → atT u k = unionT [atT a k, atT b k]) (fun kk s n ps fs vs hp _ _ hk => ?_) k
 by_cases h1 : kk = 1
 ·have e : ∀ t, atT t (.mk kk s n ps fs vs) = .mk kk s n ps fs vs := fun t => by rw [atT_eq, if_pos (show Ty.k (.mk kk s n ps fs vs) = 1 from h1)]
  rw [e, e, e]
  have : unionT [Ty.mk kk s n ps fs vs, Ty.mk kk s n ps fs vs] = unionT [Ty.mk kk s n ps fs vs] := union_same fun x => by simp
  rw [this, union_self hk]
 by_cases h15 : kk = 15
 ·have hps := form_ps hk
  by_cases hu1 : u.k = 3 ∨ u.k = 1
  · -- u is any or never: then both are never
   have e2 : ∀ {t : Ty}, formT t = true → t.k ≠ 3 → (∀ p, p ∈ prtsT t → p ∈ prtsT u) → t.k = 1 := fun {t} ht h3 hi => by
    rcases hu1 with h | h
    ·have hpu : prtsT u = [u] := by unfold prtsT; rw [if_neg (by omega), if_neg (by omega)]
     by_cases ht1 : t.k = 1
     ·exact ht1
     ·by_cases ht15 : t.k = 15
      ·exfalso
       obtain ⟨q, s', n', qs, f', v'⟩ := t
       have hq : q = 15 := ht15
       subst hq
       obtain ⟨h2, _, _, _, _, hu'⟩ := form_15 ht
       have hne := union_of_parts ht rfl
       have hA : Asc qs := by
        have := parts_union (Ty.mk 15 s' n' qs f' v').ps
        rw [hne] at this
        have e : prtsT (.mk 15 s' n' qs f' v') = qs := rfl
        rw [e] at this; rw [this]; exact asc_sortT _
       have hq0 : 0 < qs.length := by omega
       have m0 := hi qs[0] (show qs[0] ∈ qs from List.getElem_mem hq0)
       have hq1 : 1 < qs.length := by omega
       have m1 := hi qs[1] (show qs[1] ∈ qs from List.getElem_mem hq1)
       rw [hpu, List.mem_singleton] at m0 m1
       have := List.pairwise_iff_getElem.1 hA 0 1 (by omega) (by omega) (by omega)
       rw [m0, m1, ordT_zero.2 rfl] at this
       cases this
      ·have := hi t (by unfold prtsT; rw [if_neg ht15, if_neg ht1]; simp)
       rw [hpu, List.mem_singleton] at this
       exact absurd (this ▸ h) h3
    ·have hpu : prtsT u = [] := by unfold prtsT; rw [if_neg (by omega), if_pos h]
     by_cases ht1 : t.k = 1
     ·exact ht1
     ·by_cases ht15 : t.k = 15
      ·exfalso
       obtain ⟨q, s', n', qs, f', v'⟩ := t
       have hq : q = 15 := ht15
       subst hq
       obtain ⟨h2, _⟩ := form_15 ht
       have hq0 : 0 < qs.length := by omega
       have m0 := hi qs[0] (show qs[0] ∈ qs from List.getElem_mem hq0)
       rw [hpu] at m0; cases m0
      ·have := hi t (by unfold prtsT; rw [if_neg ht15, if_neg ht1]; simp)
       rw [hpu] at this; cases this
   have a1 := e2 ha ha3 fun p hp => hin p (.inl hp)
   have b1 := e2 hb hb3 fun p hp => hin p (.inr hp)
   have ea := form_kind ha a1 (by decide) (by decide)
   have eb := form_kind hb b1 (by decide) (by decide)
   have e11 : unionT [tyK 1, tyK 1] = tyK 1 := (union_same (l' := [tyK 1]) fun x => by simp).trans (union_self (form_tyK (by decide) (by decide)))
   have eu : u = tyK 1 := by rw [hu, ea, eb, e11]
   have e : atT (tyK 1) (.mk kk s n ps fs vs) = tyK 1 := by
    rw [atT_eq, if_neg (show ¬ Ty.k (.mk kk s n ps fs vs) = 1 from h1), if_pos (.inr rfl)]
   rw [eu, ea, eb, e, e11]
  · -- the general case, by the key's parts
   have e : ∀ {t : Ty}, formT t = true → t.k ≠ 3 → atT t (.mk kk s n ps fs vs) = unionT (ps.map (atT t)) := fun {t} ht h3 => by
    rw [atT_eq, if_neg (show ¬ Ty.k (.mk kk s n ps fs vs) = 1 from h1)]
    by_cases ht1 : t.k = 1
    ·rw [if_pos (.inr ht1), form_kind ht ht1 (by decide) (by decide)]
     have : unionT (ps.map (atT (tyK 1))) = tyK 1 := by
      have hk0 : keptU (ps.map (atT (tyK 1))) = [] := by
       rcases hq : keptU (ps.map (atT (tyK 1))) with _ | ⟨c, r⟩
       ·rfl
       ·have hc : c ∈ keptU (ps.map (atT (tyK 1))) := by rw [hq]; simp
        exfalso
        have hc1 := kept_no1 hc
        obtain ⟨q, hq, hx⟩ := mem_flatU.1 (mem_keptU.1 hc).1
        obtain ⟨p, hp, rfl⟩ := List.mem_map.1 hq
        rw [atT_eq] at hx
        by_cases hp1 : p.k = 1
        ·rw [if_pos hp1, parts1_one (by omega), List.mem_singleton] at hx
         subst hx; exact hc1 hp1
        ·rw [if_neg hp1, if_pos (.inr rfl), parts1_one (by decide), List.mem_singleton] at hx
         subst hx; exact hc1 rfl
      unfold unionT; rw [hk0]; rfl
     exact this.symm
    ·rw [if_neg (by omega), if_pos (show Ty.k (.mk kk s n ps fs vs) = 15 from h15)]
     rfl
   have hu3 : u.k ≠ 3 := fun h => hu1 (.inl h)
   rw [e hfu hu3, e ha ha3, e hb hb3]
   have hfm : ∀ {t : Ty}, formT t = true → ∀ x ∈ ps.map (atT t), formT x = true := fun {t} ht x hx => by
    obtain ⟨p, hp, rfl⟩ := List.mem_map.1 hx
    exact form_at t p ht (hps p hp)
   rw [union_two _ _ (plainT_flat (hfm ha)) (plainT_flat (hfm hb))]
   have e3 : ps.map (atT u) = (ps.map fun p => [atT a p, atT b p]).map unionT := by
    rw [List.map_map]
    exact List.map_congr_left fun p hp' => hp p hp' (hps p hp')
   rw [e3, union_union]
   ·refine union_same fun x => ?_
    simp only [List.mem_flatten, List.mem_map, List.mem_append]
    constructor
    ·rintro ⟨l, ⟨p, hp, rfl⟩, hx⟩
     simp only [List.mem_cons, List.not_mem_nil, or_false] at hx
     rcases hx with rfl | rfl
     ·exact .inl ⟨p, hp, rfl⟩
     ·exact .inr ⟨p, hp, rfl⟩
    ·rintro (⟨p, hp, rfl⟩ | ⟨p, hp, rfl⟩)
     ·exact ⟨_, ⟨p, hp, rfl⟩, by simp⟩
     ·exact ⟨_, ⟨p, hp, rfl⟩, by simp⟩
   ·intro l hl
    obtain ⟨p, hp, rfl⟩ := List.mem_map.1 hl
    refine plainT_flat fun x hx => ?_
    simp only [List.mem_cons, List.not_mem_nil, or_false] at hx
    rcases hx with rfl | rfl
    ·exact form_at a p ha (hps p hp)
    ·exact form_at b p hb (hps p hp)
 ·have hk1 : Ty.k (.mk kk s n ps fs vs) ≠ 1 := h1
  have hk15 : Ty.k (.mk kk s n ps fs vs) ≠ 15 := h15
  rw [at_parts hfu hk hk1 hk15, at_parts ha hk hk1 hk15, at_parts hb hk hk1 hk15]
  have hfm : ∀ {t : Ty}, formT t = true → ∀ x ∈ (prtsT t).map (fun p => atT p (.mk kk s n ps fs vs)), formT x = true := fun {t} ht x hx => by
   obtain ⟨p, hp, rfl⟩ := List.mem_map.1 hx
   exact form_at p _ (form_parts ht p hp) hk
  rw [union_two _ _ (plainT_flat (hfm ha)) (plainT_flat (hfm hb))]
  refine union_same fun x => ?_
  rw [← List.map_append, List.mem_map, List.mem_map]
  constructor
  ·rintro ⟨p, hp, rfl⟩; exact ⟨p, (hiff p).1 hp, rfl⟩
  ·rintro ⟨p, hp, rfl⟩; exact ⟨p, (hiff p).2 hp, rfl⟩
theorem list_lit2 {K : Nat → Prop} {W : World} {t q : Ty} {c0 c1 c2 c3 c4 c5 d0 d1 d2 d3 d4 d5 : Value} {g : Nat} (ht : RepT K W t [c0, c1, c2, c3, c4, c5]) (hq : RepT K W q [d0, d1, d2, d3, d4, d5]) (hh : W.heap[g]? = some (.cells #[c0, c1, c2, c3, c4, c5, d0, d1, d2, d3, d4, d5] 26 (0, 0))) :
  ListT (fun b => K b ∨ b = g) W [t, q] (some ⟨g, 0, none⟩) 2 := by
 refine ⟨g, 0, ⟨by simp, by simp, (fun h => by cases h), fun _ => ⟨rfl, .inr rfl⟩⟩, fun i hi => ?_⟩
 have hi2 : i = 0 ∨ i = 1 := by simp at hi; omega
 rcases hi2 with rfl | rfl
 ·refine ⟨_, fun j u hj => ?_, ht.weak fun _ h => .inl h⟩
  rw [Lib.cell_of_heap hh]
  rcases j with _ | _ | _ | _ | _ | _ | j
  all_goals first | exact hj | (simp at hj)
 ·refine ⟨_, fun j u hj => ?_, hq.weak fun _ h => .inl h⟩
  rw [Lib.cell_of_heap hh]
  rcases j with _ | _ | _ | _ | _ | _ | j
  all_goals first | exact hj | (simp at hj)
theorem uni2_ref {K : Nat → Prop} {W : World} {t q : Ty} {c0 c1 c2 c3 c4 c5 d0 d1 d2 d3 d4 d5 : Value} {g : Nat} (ht : RepT K W t [c0, c1, c2, c3, c4, c5]) (hq : RepT K W q [d0, d1, d2, d3, d4, d5]) (hh : W.heap[g]? = some (.cells #[c0, c1, c2, c3, c4, c5, d0, d1, d2, d3, d4, d5] 26 (0, 0))) (hft : formT t = true) (hfq : formT q = true) (hct : cntT t ≤ 1000000) (hcq : cntT q ≤ 1000000) :
  Calls Tryz.prog 7 #[.slice (some ⟨g, 0, none⟩) 2 2] W fun e w' => ∃ rs, e = .returned (.agg rs.toArray) ∧ RepT (fun b => K b ∨ b = g ∨ W.heap.size ≤ b) w' (unionT [t, q]) rs ∧ Below W.heap.size W w' := by
 have hl := (list_lit2 ht hq hh).both
 have hfl := flatU_cnt [t, q]
 have hcl : cntL [t, q] ≤ 2000000 := by rw [cntL_cons, cntL_cons, cntL_nil]; omega
 have hall : [t, q].all formT = true := by simp [hft, hfq]
 refine (union_ref hl (fun b h => h.2) (fun x hx => by have h1 := names_cnt x; have h2 := hfl.2 x hx; omega) (by have := hfl.1; omega)).mono ?_
 rintro e w' ⟨rs, rfl, hr, hb⟩
 rw [unionR (plain_form hall)] at hr
 exact ⟨rs, rfl, hr.weak fun b h => by
  rcases h with ⟨h | h, -⟩ | h
  ·exact .inl h
  ·exact .inr (.inl h)
  ·exact .inr (.inr h), hb⟩
theorem uni1_ref {K : Nat → Prop} {W : World} {t : Ty} {c0 c1 c2 c3 c4 c5 : Value} {g : Nat} (ht : RepT K W t [c0, c1, c2, c3, c4, c5]) (hlo : ∀ b, K b → b < W.heap.size) (hh : W.heap[g]? = some (.cells #[c0, c1, c2, c3, c4, c5] 26 (0, 0))) (hft : formT t = true) (hct : cntT t ≤ 10000) :
  Calls Tryz.prog 7 #[.slice (some ⟨g, 0, none⟩) 1 1] W fun e w' => ∃ rs, e = .returned (.agg rs.toArray) ∧ RepT (fun b => K b ∨ b = g ∨ W.heap.size ≤ b) w' (unionT [t]) rs ∧ Below W.heap.size W w' := by
 have hl := (list_lit ht (Below.refl _ _) hlo hh).both
 have hfl := flatU_cnt [t]
 have hcl : cntL [t] ≤ 10000 := by rw [cntL_cons, cntL_nil]; omega
 have hall : [t].all formT = true := by simp [hft]
 refine (union_ref hl (fun b h => h.2) (fun x hx => by have h1 := names_cnt x; have h2 := hfl.2 x hx; omega) (by have := hfl.1; omega)).mono ?_
 rintro e w' ⟨rs, rfl, hr, hb⟩
 rw [unionR (plain_form hall)] at hr
 exact ⟨rs, rfl, hr.weak fun b h => by
  rcases h with ⟨h | h, -⟩ | h
  ·exact .inl h
  ·exact .inr (.inl h)
  ·exact .inr (.inr h), hb⟩
end Go.Proofs.YtllhfnpchplibaaGreatDoor
