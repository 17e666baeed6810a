import Derived.Test.YteakkjhcdpbidaaGreatDoorMk26
namespace Go.Proofs.YteakkjhcdpbidaaGreatDoor
set_option maxRecDepth 100000
set_option maxHeartbeats 64000000
open Go.RowKit
theorem cntL_cons (a : Ty) (l : List Ty) : cntL (a :: l) = cntT a + cntL l := by simp [cntL]
theorem namesP_cnt (k : Int) : ∀ (ps : List Ty) (i : Nat), (∀ p ∈ ps, (namesI p).length ≤ cntT p) → (namesP k i ps).length ≤ cntL ps
 | [], _, _ => by simp [namesP, cntL]
 | p :: l, i, h => by
  have h1 := h p List.mem_cons_self
  have h2 := namesP_cnt k l (i + 1) fun q hq => h q (List.mem_cons_of_mem _ hq)
  rw [namesP, cntL_cons, List.length_append]
  split
  ·simp only [List.length_nil]; omega
  ·omega
theorem namesF_cnt : ∀ (fs : FsT), (∀ f ∈ fs, (namesI f.2.2).length ≤ cntT f.2.2) → (namesF fs).length ≤ cntF fs
 | [], _ => by simp [namesF]
 | f :: l, h => by
  have h1 := h f List.mem_cons_self
  have h2 := namesF_cnt l fun q hq => h q (List.mem_cons_of_mem _ hq)
  have e1 : namesF (f :: l) = namesI f.2.2 ++ namesF l := by simp [namesF]
  have e2 : cntF (f :: l) = cntT f.2.2 + cntF l := by simp [cntF]
  rw [e1, e2, List.length_append]; omega
theorem names_cnt (t : Ty) : (namesI t).length ≤ cntT t := by
 refine Ty.ind (C := fun t => (namesI t).length ≤ cntT t) (fun k t n ps fs vs hp hf _ => ?_) t
 rw [namesI_mk, cntT_mk]
 have h1 := namesP_cnt k ps 0 hp
 have h2 := namesF_cnt fs hf
 split
 ·simp only [List.length_singleton]; omega
 ·rw [List.length_append]; omega
theorem cntT_pos (t : Ty) : 1 ≤ cntT t := by
 obtain ⟨k, s, n, ps, fs, vs⟩ := t
 rw [cntT_mk]; omega
theorem cntL_mem : ∀ {l : List Ty} {x : Ty}, x ∈ l → cntT x ≤ cntL l
 | a :: l, x, h => by
  rw [cntL_cons]
  rcases List.mem_cons.1 h with rfl | h
  ·omega
  ·have := cntL_mem h; omega
theorem flatU_cnt_of : ∀ (l : List Ty), (∀ p ∈ l, (parts1 p).length ≤ cntT p ∧ ∀ x ∈ parts1 p, cntT x ≤ cntT p) → (flatU l).length ≤ cntL l ∧ ∀ x ∈ flatU l, cntT x ≤ cntL l
 | [], _ => ⟨by simp [flatU], fun x h => absurd h (by simp [flatU])⟩
 | a :: l, h => by
  obtain ⟨h1, h2⟩ := h a List.mem_cons_self
  obtain ⟨h3, h4⟩ := flatU_cnt_of l fun q hq => h q (List.mem_cons_of_mem _ hq)
  rw [flatU_cons, cntL_cons, List.length_append]
  refine ⟨by omega, fun x hx => ?_⟩
  rcases List.mem_append.1 hx with hx | hx
  ·have := h2 x hx; omega
  ·have := h4 x hx; omega
theorem parts1_cnt (t : Ty) : (parts1 t).length ≤ cntT t ∧ ∀ x ∈ parts1 t, cntT x ≤ cntT t := by
 refine Ty.ind (C := fun t => (parts1 t).length ≤ cntT t ∧ ∀ x ∈ parts1 t, cntT x ≤ cntT t) (fun k t n ps fs vs hp _ _ => ?_) t
 rw [parts1_mk]
 split
 ·obtain ⟨h1, h2⟩ := flatU_cnt_of ps hp
  rw [cntT_mk]
  exact ⟨by omega, fun x hx => by have := h2 x hx; omega⟩
 ·refine ⟨by have := cntT_pos (.mk k t n ps fs vs); simpa using this, fun x hx => ?_⟩
  rw [List.mem_singleton] at hx
  subst hx; exact Nat.le_refl _
theorem flatU_cnt (l : List Ty) : (flatU l).length ≤ cntL l ∧ ∀ x ∈ flatU l, cntT x ≤ cntL l := flatU_cnt_of l fun p _ => parts1_cnt p
theorem parts1_form (t : Ty) : formT t = true → ∀ x ∈ parts1 t, formT x = true := by
 refine Ty.ind (C := fun t => formT t = true → ∀ x ∈ parts1 t, formT x = true) (fun k t n ps fs vs hp _ _ h x hx => ?_) t
 rw [parts1_mk] at hx
 split at hx
 ·rw [formT_mk, Bool.and_eq_true, List.all_eq_true] at h
  unfold flatU at hx
  rw [List.mem_flatten] at hx
  obtain ⟨m, hm, hx⟩ := hx
  obtain ⟨p, hpm, rfl⟩ := List.mem_map.1 hm
  exact hp p hpm (h.2 p hpm) x hx
 ·rw [List.mem_singleton] at hx
  subst hx; exact h
theorem flatU_form {l : List Ty} (h : l.all formT = true) : ∀ x ∈ flatU l, formT x = true := fun x hx => by
 unfold flatU at hx
 rw [List.mem_flatten] at hx
 obtain ⟨m, hm, hx⟩ := hx
 obtain ⟨p, hpm, rfl⟩ := List.mem_map.1 hm
 exact parts1_form p (List.all_eq_true.1 h p hpm) x hx
theorem fits_none {s : Shp} {t : ByteArray} {n : Int} {np nf nv : Nat} (h : fitsB s t n np nf nv = true) (hs : s.hi = 0) (hf : s.f = false) (hv : s.v = false) : np = 0 ∧ nf = 0 ∧ nv = 0 ∧ (s.t = false → t.toList = []) ∧ (s.n = false → n = 0) := by
 unfold fitsB at h
 rw [hs, hf, hv] at h
 simp only [Bool.and_eq_true, Bool.not_eq_true', Bool.or_eq_false_iff, Bool.or_eq_true, decide_eq_true_eq, beq_iff_eq, Bool.not_false, Bool.true_and, decide_eq_false_iff_not] at h
 obtain ⟨⟨⟨⟨h1, h2⟩, h3⟩, h4⟩, h5, h6⟩ := h
 refine ⟨by omega, by omega, by omega, fun e => ?_, fun e => ?_⟩
 ·rw [e] at h1; simpa using h1
 ·rw [e] at h2; simpa using h2
theorem form_fits {k : Int} {t : ByteArray} {n : Int} {ps : List Ty} {fs : FsT} {vs : VsT} (h : formT (.mk k t n ps fs vs) = true) : fitsB (shapeK k) t n ps.length fs.length vs.length = true := by
 rw [formT_mk, Bool.and_eq_true, Bool.and_eq_true, Bool.and_eq_true] at h
 exact h.1.1.2
theorem form_kind {k : Int} {x : Ty} (hx : formT x = true) (hk : x.k = k) (h1 : 1 ≤ k) (h8 : k ≤ 8) : x = tyK k := by
 obtain ⟨q, t, n, ps, fs, vs⟩ := x
 have e : q = k := hk
 subst e
 have hs : shapeK q = ⟨false, false, false, false, 0, 0, true⟩ := by unfold shapeK; rw [if_pos ⟨h1, h8⟩]
 have hf := form_fits hx
 rw [hs] at hf
 obtain ⟨a, b, c, d, e⟩ := fits_none hf rfl rfl rfl
 have ht : t = emptyB := bytes_ext (by have := d rfl; rw [ByteArray.toList_eq] at this; rw [this]; rfl)
 rw [List.eq_nil_of_length_eq_zero a, List.eq_nil_of_length_eq_zero b, List.eq_nil_of_length_eq_zero c, ht, e rfl]
 rfl
theorem form_leaf {x : Ty} (hx : formT x = true) (hk : x.k = 7 ∨ x.k = 8 ∨ x.k = 9 ∨ x.k = 10) : infT x = false := by
 obtain ⟨q, t, n, ps, fs, vs⟩ := x
 have hk' : q = 7 ∨ q = 8 ∨ q = 9 ∨ q = 10 := hk
 have hf := form_fits hx
 have h0 : ps.length = 0 ∧ fs.length = 0 := by
  rcases hk' with rfl | rfl | rfl | rfl <;> (have := fits_none hf rfl rfl rfl; exact ⟨this.1, this.2.1⟩)
 have e : (q == 22) = false := by rcases hk' with rfl | rfl | rfl | rfl <;> rfl
 rw [infT_mk, List.eq_nil_of_length_eq_zero h0.1, List.eq_nil_of_length_eq_zero h0.2, e]
 rfl
theorem plain_form {l : List Ty} (h : l.all formT = true) : PlainK (flatU l) := fun x hx =>
 have hf := flatU_form h x hx
 ⟨fun e => form_kind hf e (by decide) (by decide), fun e => form_kind hf e (by decide) (by decide), form_leaf hf⟩
theorem ListS.later {w w' : World} {l : List ByteArray} {A : Option Addr} (h : ListS w l A) (hb : Below w.heap.size w w') : ListS w' l A := by
 obtain ⟨b, o, h1, h2, h3⟩ := h
 exact ⟨b, o, h1, h2, fun i hi => cell_stays hb (h3 i hi)⟩
def KeyV (w : World) (x : Option (List ByteArray)) (cs : List Value) : Prop := match x with
 | none => cs = [.bool true, .slice none 0 0]
 | some l => ∃ A c, cs = [.bool false, .slice A l.length c] ∧ ListS w l A
theorem KeyV.later {w w' : World} {x : Option (List ByteArray)} {cs : List Value} (h : KeyV w x cs) (hb : Below w.heap.size w w') : KeyV w' x cs := by
 rcases x with _ | l
 ·exact h
 ·obtain ⟨A, c, e, h1⟩ := h
  exact ⟨A, c, e, h1.later hb⟩
def Kz (x : Option (List ByteArray)) : Prop := ∀ l, x = some l → l.length ≤ 1000000 ∧ ∀ s ∈ l, s.size ≤ 1000000000000000
theorem Kz.common {x y : Option (List ByteArray)} (hx : Kz x) (hy : Kz y) : Kz (commonK x y) := by
 intro l h
 rcases x with _ | a
 ·exact hy l h
 ·rcases y with _ | b
  ·exact hx l h
  ·have e : a.filter (fun x => b.any fun y => decide (y = x)) = l := Option.some.inj h
   rw [← e]
   exact ⟨Nat.le_trans (List.length_filter_le _ _) (hx a rfl).1, fun s hs => (hx a rfl).2 s (List.mem_filter.1 hs).1⟩
def seenS (l : List ByteArray) (i : Nat) : ByteArray → Option Unit := fun s => if (l.take i).any (fun y => decide (y = s)) then some () else none
theorem seenS_next {l : List ByteArray} {i : Nat} (hi : i < l.length) : updF (seenS l i) l[i] () = seenS l (i + 1) := by
 funext s
 unfold updF seenS
 rw [List.take_succ_eq_append_getElem hi, List.any_append]
 by_cases h : l[i] = s
 ·have h2 : decide (l[i] = s) = true := decide_eq_true h
  rw [if_pos h, List.any_cons, h2, Bool.true_or, Bool.or_true, if_pos rfl]
 ·have h2 : decide (l[i] = s) = false := decide_eq_false h
  rw [if_neg h, List.any_cons, h2, List.any_nil, Bool.or_false, Bool.or_false]
theorem seenS_some (l : List ByteArray) (s : ByteArray) : (seenS l l.length s).isSome = l.any fun y => decide (y = s) := by
 unfold seenS
 rw [List.take_length]
 split
 ·rename_i h; rw [h]; rfl
 ·rename_i h; rw [Bool.not_eq_true] at h; rw [h]; rfl
theorem filterB_next {O : ByteArray → Bool} {L : List ByteArray} {i : Nat} (hi : i < L.length) : (L.take (i + 1)).filter O = (L.take i).filter O ++ (if O L[i] then [L[i]] else []) := by
 rw [List.take_succ_eq_append_getElem hi, List.filter_append]
 congr 1
 by_cases h : O L[i] = true
 ·simp [h]
 ·simp [h]
theorem lcommon_l {w : World} (bb : Bool) (A : Option Addr) (n c : Nat) :
  Calls Tryz.prog 47 #[.agg #[.bool true, .slice none 0 0], .agg #[.bool bb, .slice A n c]] w fun e w' => e = .returned (.agg #[.bool bb, .slice A n c]) ∧ Below w.heap.size w w' := by
 obtain ⟨w1, hw1⟩ : ∃ x, x = ((w.alloc (.cells #[.bool true, .slice none 0 0] 49)).alloc (.cells #[.bool bb, .slice A n c] 49)).alloc (.cells #[.bool false, .slice none 0 0] 49) := ⟨_, rfl⟩
 obtain ⟨g, hg⟩ : ∃ g, g = w.heap.size + 2 := ⟨_, rfl⟩
 obtain ⟨wa, hwa⟩ : ∃ x, x = (w.alloc (.cells #[.bool true, .slice none 0 0] 49)).alloc (.cells #[.bool bb, .slice A n c] 49) := ⟨_, rfl⟩
 have hba : Below w.heap.size w wa := by rw [hwa]; exact ((Below.refl _ _).alloc (Nat.le_refl _) _).alloc (by simp) _
 have hsa : wa.heap.size = w.heap.size + 2 := by rw [hwa]; simp
 have hw1a : w1 = wa.alloc (.cells #[.bool false, .slice none 0 0] 49) := by rw [hw1, hwa]
 have hbb : Below wa.heap.size wa w1 := by rw [hw1a]; exact (Below.refl _ _).alloc (Nat.le_refl _) _
 have hb1 := hba.trans (hbb.mono hba.size)
 have hx0 : wa.heap[w.heap.size]? = some (.cells #[.bool true, .slice none 0 0] 49 (0, 0)) := by rw [hwa, Below.heap_alloc _ _ _ (by simp)]; exact heap_alloc_new w _
 have hy0 : wa.heap[w.heap.size + 1]? = some (.cells #[.bool bb, .slice A n c] 49 (0, 0)) := by
  rw [hwa]
  have h := heap_alloc_new (w.alloc (.cells #[.bool true, .slice none 0 0] 49)) (.cells #[.bool bb, .slice A n c] 49)
  rw [World.size_alloc] at h
  exact h
 have hz0 : w1.heap[g]? = some (.cells #[.bool false, .slice none 0 0] 49 (0, 0)) := by
  have h := heap_alloc_new wa (.cells #[.bool false, .slice none 0 0] 49)
  rw [hsa, ← hw1a, ← hg] at h
  exact h
 have HX := Hd (box_up hbb (Array.getElem?_eq_some_iff.1 hx0).1 hx0)
 have HY := Hd (box_up hbb (Array.getElem?_eq_some_iff.1 hy0).1 hy0)
 have HZ := Hd hz0
 have HB1 := Hd hb1
 have HS1 : Hid (w1.heap.size = g + 1) := Hd (by rw [hw1a, World.size_alloc, hsa, hg])
 have HG := Hd hg
 have HW1 := Hd hw1
 clear hw1 hg hwa hba hsa hw1a hbb hb1 hx0 hy0 hz0
 go_enter Tryz.func47, Tryz.ntmps47
 go_upto_region 1 with fail
 rw [← HW1.out, ← HG.out]
 have x0 := Ch HX.out 0
 have x1 := Ch HX.out 1
 have y0 := Ch HY.out 0
 have y1 := Ch HY.out 1
 simp only [List.getElem?_toArray, List.getElem?_cons_zero, List.getElem?_cons_succ] at x0 x1 y0 y1
 have rb := HZ.out
 have RB := Hd rb
 have u0 := Ch rb 0
 have u1 := Ch rb 1
 have z0 := Lib.frozen_of_heap rb 0
 have z1 := Lib.frozen_of_heap rb 1
 simp only [List.getElem?_toArray, List.getElem?_cons_zero, List.getElem?_cons_succ] at u0 u1
 clear rb
 go_wp2_with fail
 have rs := two_set RB.out (.bool bb) (.slice A n c)
 have r0 := Ch rs 0
 have r1 := Ch rs 1
 simp only [List.getElem?_toArray, List.getElem?_cons_zero, List.getElem?_cons_succ] at r0 r1
 refine bodyPost_ret (v := .agg #[.bool bb, .slice A n c]) (by simp [results, Tryz.results47, go_sem, r0, r1]) rfl ?_
 clear r0 r1 u0 u1 z0 z1
 exact ⟨rfl, (HB1.out.setCell (by show w.heap.size ≤ g; have := HG.out; omega) _).setCell (by show w.heap.size ≤ g; have := HG.out; omega) _⟩
theorem lcommon_r {w : World} (A : Option Addr) (n c : Nat) :
  Calls Tryz.prog 47 #[.agg #[.bool false, .slice A n c], .agg #[.bool true, .slice none 0 0]] w fun e w' => e = .returned (.agg #[.bool false, .slice A n c]) ∧ Below w.heap.size w w' := by
 obtain ⟨w1, hw1⟩ : ∃ x, x = ((w.alloc (.cells #[.bool false, .slice A n c] 49)).alloc (.cells #[.bool true, .slice none 0 0] 49)).alloc (.cells #[.bool false, .slice none 0 0] 49) := ⟨_, rfl⟩
 obtain ⟨g, hg⟩ : ∃ g, g = w.heap.size + 2 := ⟨_, rfl⟩
 obtain ⟨wa, hwa⟩ : ∃ x, x = (w.alloc (.cells #[.bool false, .slice A n c] 49)).alloc (.cells #[.bool true, .slice none 0 0] 49) := ⟨_, rfl⟩
 have hba : Below w.heap.size w wa := by rw [hwa]; exact ((Below.refl _ _).alloc (Nat.le_refl _) _).alloc (by simp) _
 have hsa : wa.heap.size = w.heap.size + 2 := by rw [hwa]; simp
 have hw1a : w1 = wa.alloc (.cells #[.bool false, .slice none 0 0] 49) := by rw [hw1, hwa]
 have hbb : Below wa.heap.size wa w1 := by rw [hw1a]; exact (Below.refl _ _).alloc (Nat.le_refl _) _
 have hb1 := hba.trans (hbb.mono hba.size)
 have hx0 : wa.heap[w.heap.size]? = some (.cells #[.bool false, .slice A n c] 49 (0, 0)) := by rw [hwa, Below.heap_alloc _ _ _ (by simp)]; exact heap_alloc_new w _
 have hy0 : wa.heap[w.heap.size + 1]? = some (.cells #[.bool true, .slice none 0 0] 49 (0, 0)) := by
  rw [hwa]
  have h := heap_alloc_new (w.alloc (.cells #[.bool false, .slice A n c] 49)) (.cells #[.bool true, .slice none 0 0] 49)
  rw [World.size_alloc] at h
  exact h
 have hz0 : w1.heap[g]? = some (.cells #[.bool false, .slice none 0 0] 49 (0, 0)) := by
  have h := heap_alloc_new wa (.cells #[.bool false, .slice none 0 0] 49)
  rw [hsa, ← hw1a, ← hg] at h
  exact h
 have HX := Hd (box_up hbb (Array.getElem?_eq_some_iff.1 hx0).1 hx0)
 have HY := Hd (box_up hbb (Array.getElem?_eq_some_iff.1 hy0).1 hy0)
 have HZ := Hd hz0
 have HB1 := Hd hb1
 have HS1 : Hid (w1.heap.size = g + 1) := Hd (by rw [hw1a, World.size_alloc, hsa, hg])
 have HG := Hd hg
 have HW1 := Hd hw1
 clear hw1 hg hwa hba hsa hw1a hbb hb1 hx0 hy0 hz0
 go_enter Tryz.func47, Tryz.ntmps47
 go_upto_region 1 with fail
 rw [← HW1.out, ← HG.out]
 have x0 := Ch HX.out 0
 have x1 := Ch HX.out 1
 have y0 := Ch HY.out 0
 have y1 := Ch HY.out 1
 simp only [List.getElem?_toArray, List.getElem?_cons_zero, List.getElem?_cons_succ] at x0 x1 y0 y1
 have rb := HZ.out
 have RB := Hd rb
 have u0 := Ch rb 0
 have u1 := Ch rb 1
 have z0 := Lib.frozen_of_heap rb 0
 have z1 := Lib.frozen_of_heap rb 1
 simp only [List.getElem?_toArray, List.getElem?_cons_zero, List.getElem?_cons_succ] at u0 u1
 clear rb
 go_wp2_with fail
 have rs := two_set RB.out (.bool false) (.slice A n c)
 have r0 := Ch rs 0
 have r1 := Ch rs 1
 simp only [List.getElem?_toArray, List.getElem?_cons_zero, List.getElem?_cons_succ] at r0 r1
 refine bodyPost_ret (v := .agg #[.bool false, .slice A n c]) (by simp [results, Tryz.results47, go_sem, r0, r1]) rfl ?_
 clear r0 r1 u0 u1 z0 z1
 exact ⟨rfl, (HB1.out.setCell (by show w.heap.size ≤ g; have := HG.out; omega) _).setCell (by show w.heap.size ≤ g; have := HG.out; omega) _⟩
theorem lcommon_b {w : World} (la lb : List ByteArray) (A B : Option Addr) (c d : Nat) (ha : ListS w la A) (hb : ListS w lb B) (hka : Kz (some la)) (hkb : Kz (some lb)) :
  Calls Tryz.prog 47 #[.agg #[.bool false, .slice A la.length c], .agg #[.bool false, .slice B lb.length d]] w (KeyPost w (commonK (some la) (some lb))) := by
 obtain ⟨w1, hw1⟩ : ∃ x, x = ((w.alloc (.cells #[.bool false, .slice A la.length c] 49)).alloc (.cells #[.bool false, .slice B lb.length d] 49)).alloc (.cells #[.bool false, .slice none 0 0] 49) := ⟨_, rfl⟩
 obtain ⟨g, hg⟩ : ∃ g, g = w.heap.size + 2 := ⟨_, rfl⟩
 obtain ⟨wa, hwa⟩ : ∃ x, x = (w.alloc (.cells #[.bool false, .slice A la.length c] 49)).alloc (.cells #[.bool false, .slice B lb.length d] 49) := ⟨_, rfl⟩
 have hba : Below w.heap.size w wa := by rw [hwa]; exact ((Below.refl _ _).alloc (Nat.le_refl _) _).alloc (by simp) _
 have hsa : wa.heap.size = w.heap.size + 2 := by rw [hwa]; simp
 have hw1a : w1 = wa.alloc (.cells #[.bool false, .slice none 0 0] 49) := by rw [hw1, hwa]
 have hbb : Below wa.heap.size wa w1 := by rw [hw1a]; exact (Below.refl _ _).alloc (Nat.le_refl _) _
 have hb1 := hba.trans (hbb.mono hba.size)
 have hx0 : wa.heap[w.heap.size]? = some (.cells #[.bool false, .slice A la.length c] 49 (0, 0)) := by rw [hwa, Below.heap_alloc _ _ _ (by simp)]; exact heap_alloc_new w _
 have hy0 : wa.heap[w.heap.size + 1]? = some (.cells #[.bool false, .slice B lb.length d] 49 (0, 0)) := by
  rw [hwa]
  have h := heap_alloc_new (w.alloc (.cells #[.bool false, .slice A la.length c] 49)) (.cells #[.bool false, .slice B lb.length d] 49)
  rw [World.size_alloc] at h
  exact h
 have hz0 : w1.heap[g]? = some (.cells #[.bool false, .slice none 0 0] 49 (0, 0)) := by
  have h := heap_alloc_new wa (.cells #[.bool false, .slice none 0 0] 49)
  rw [hsa, ← hw1a, ← hg] at h
  exact h
 have HX := Hd (box_up hbb (Array.getElem?_eq_some_iff.1 hx0).1 hx0)
 have HY := Hd (box_up hbb (Array.getElem?_eq_some_iff.1 hy0).1 hy0)
 have HZ := Hd hz0
 have HB1 := Hd hb1
 have HS1 : Hid (w1.heap.size = g + 1) := Hd (by rw [hw1a, World.size_alloc, hsa, hg])
 have HG := Hd hg
 have HW1 := Hd hw1
 clear hw1 hg hwa hba hsa hw1a hbb hb1 hx0 hy0 hz0
 have HLA := Hd (ha.later HB1.out)
 have HLB := Hd (hb.later HB1.out)
 have HKA := Hd (hka la rfl)
 have HKB := Hd (hkb lb rfl)
 obtain ⟨O, hO⟩ : ∃ O : ByteArray → Bool, O = fun x => lb.any fun y => decide (y = x) := ⟨_, rfl⟩
 have HOD : Hid (∀ x, (seenS lb lb.length x).isSome = O x) := Hd fun x => by rw [seenS_some, hO]
 have e0 : commonK (some la) (some lb) = some (la.filter O) := by rw [hO]; rfl
 rw [e0]
 unfold KeyPost
 generalize hFF : la.filter O = LF
 have HFF := Hd hFF
 clear hO e0 hFF
 obtain ⟨m, hm⟩ : ∃ m, m = w1.heap.size := ⟨_, rfl⟩
 obtain ⟨w2, hw2⟩ : ∃ x, x = w1.alloc (.map #[] 0) := ⟨_, rfl⟩
 have hb2 : Below w1.heap.size w1 w2 := by rw [hw2]; exact (Below.refl _ _).alloc (Nat.le_refl _) _
 have hmp : MapIs setMK w2 m 0 (seenS lb 0) := by
  have h := MapIs.new setMK w1
  have e : seenS lb 0 = fun _ => none := by funext s; simp [seenS]
  rw [e, hw2, hm]; exact h
 have HMP := Hd hmp
 have HB12 := Hd hb2
 have HM0 := Hd hm
 have HW2 := Hd hw2
 have HXX : Hid (∀ wx, Below w1.heap.size w1 wx → wx.cell? ⟨w.heap.size, 0, none⟩ = some (.bool false) ∧ wx.cell? ⟨w.heap.size, 1, none⟩ = some (.slice A la.length c)) := Hd fun wx hx => by
  have h := box_up hx (Array.getElem?_eq_some_iff.1 HX.out).1 HX.out
  exact ⟨Ch h 0, Ch h 1⟩
 have hmm := @run_makeMap Tryz.prog
 clear ha hb hka hkb hb2 hmp hm hw2
 go_enter Tryz.func47, Tryz.ntmps47
 go_upto_region 1 with fail
 rw [← HW1.out, ← HG.out]
 have x0 := Ch HX.out 0
 have x1 := Ch HX.out 1
 have y0 := Ch HY.out 0
 have y1 := Ch HY.out 1
 simp only [List.getElem?_toArray, List.getElem?_cons_zero, List.getElem?_cons_succ] at x0 x1 y0 y1
 go_upto_region 6 with fail
 rw [← HW2.out, ← HM0.out]
 clear hmm x0 x1 y0
 have y1' := cell_stays HB12.out y1
 clear y1
 go_wp2_with fail
 clear y1'
 go_loopw [23] (fun v wr => ∃ i : Nat, i ≤ lb.length ∧ v = .int .i64 i ∧ MapIs setMK wr m i (seenS lb i) ∧ Below w1.heap.size w1 wr) (fun v _ => lb.length - (intOf v).toNat)
 case atStart => exact ⟨0, by omega, rfl, HMP.out, HB12.out⟩
 case round =>
  obtain ⟨i, hi, rfl, hmp, hb⟩ := hrel
  have hlb := HKB.out.1
  by_cases hin : i < lb.length
  ·have t1 : decide ((i : Int) < (lb.length : Int)) = true := by simp; omega
   have wr2 : wrap64 ((i : Int) + 1) = ((i + 1 : Nat) : Int) := wrap_one (by omega)
   have HM := Hd (measI hin)
   obtain ⟨tb, tq, hA, -, hat⟩ := HLB.out
   have hA2 := hA (by omega)
   subst hA2
   have z0 := cell_stays hb (hat i hin)
   have hnx := seenS_next hin
   have hsz := HKB.out.2 _ (List.getElem_mem hin)
   generalize lb[i] = nm at z0 hnx hsz
   obtain ⟨w4, hup, hm4, hg4⟩ := hmp.putL (by unfold maxLen; omega) nm (by unfold maxLen; omega) ()
   have hup2 : (Instr.mapUpdate 85 (.map (some m)) (.string nm) (.agg #[])).run Tryz.prog wr = .ok () w4 := hup
   have hb4 : Below w1.heap.size w1 w4 := hb.grown hg4 hb.size (fun k hk => by simp only [Option.some.injEq] at hk; have := HM0.out; omega)
   rw [hnx] at hm4
   have HM4 := Hd hm4
   have HB4 := Hd hb4
   have HIn : Hid (i + 1 ≤ lb.length) := Hd hin
   have i1 : (0 : Int) ≤ (i : Int) := by omega
   have i2 : (i : Int) < (lb.length : Int) := by omega
   clear hi hA hat hup hm4 hg4 hb4 hnx hsz hmp hb hlb
   go_wp2_with fail
   refine ⟨⟨i + 1, HIn.out, by first | rfl | rw [wr2], HM4.out, HB4.out⟩, ?_⟩
   first | exact HM.out | (rw [wr2]; exact HM.out)
  ·have t1 : decide ((i : Int) < (lb.length : Int)) = false := by simp; omega
   obtain rfl : i = lb.length := by omega
   have HMR := Hd hmp
   have HBR := Hd hb
   clear hmp hb hin hi hlb
   obtain ⟨g8, hg8⟩ : ∃ g8, g8 = wr.heap.size := ⟨_, rfl⟩
   obtain ⟨w5, hw5⟩ : ∃ x, x = wr.alloc (.cells #[.bool false, .slice none 0 0] 49) := ⟨_, rfl⟩
   have hb5 : Below wr.heap.size wr w5 := by rw [hw5]; exact (Below.refl _ _).alloc (Nat.le_refl _) _
   have hx5 : w5.heap[g8]? = some (.cells #[.bool false, .slice none 0 0] 49 (0, 0)) := by rw [hw5, hg8]; exact heap_alloc_new wr _
   have HX5 := Hd hx5
   have HB5 := Hd (HBR.out.trans (hb5.mono HBR.out.size))
   have HM5 := Hd (HMR.out.later hb5)
   have HG8 : Hid (g8 = wr.heap.size ∧ m < g8 ∧ w1.heap.size ≤ g8 ∧ g8 < w5.heap.size) := Hd ⟨hg8, by have := HMR.out.lt; omega, by have := HBR.out.size; omega, by rw [hw5, hg8]; simp⟩
   have HW5 := Hd hw5
   clear hb5 hx5 hg8 hw5 HMR
   go_upto_region 12 with fail
   rw [← HW5.out, ← HG8.out.1]
   obtain ⟨-, x1⟩ := HXX.out _ HB5.out
   go_wp2_with fail
   clear x1
   go_loopw [34] (fun v wz => ∃ (i : Nat) (A3 : Option Addr) (c3 : Nat) (wo : World), wo = wz ∧ i ≤ la.length ∧ v = .int .i64 i ∧ OutS (g8 + 1) wo (.slice A3 ((la.take i).filter O).length c3) ((la.take i).filter O) ∧ wo.heap[g8]? = some (.cells #[.bool false, .slice A3 ((la.take i).filter O).length c3] 49 (0, 0)) ∧ MapIs setMK wo m lb.length (seenS lb lb.length) ∧ Below w1.heap.size w1 wo) (fun v _ => la.length - (intOf v).toNat)
   case atStart => exact ⟨0, none, 0, _, rfl, by omega, rfl, World.ownsRow_nil _ _ _ _, HX5.out, HM5.out, HB5.out⟩
   case round =>
    obtain ⟨i, A3, c3, wo, hwz, hi, rfl, ho, hx3, hmp, hb⟩ := hrel
    subst hwz
    have HO := Hd ho
    have HX3 := Hd hx3
    have HB := Hd hb
    have hg8w : g8 < wo.heap.size := (Array.getElem?_eq_some_iff.1 hx3).1
    have hla := HKA.out.1
    clear ho
    by_cases hin : i < la.length
    ·have t1 : decide ((i : Int) < (la.length : Int)) = true := by simp; omega
     have wr2 : wrap64 ((i : Int) + 1) = ((i + 1 : Nat) : Int) := wrap_one (by omega)
     have HM := Hd (measI hin)
     obtain ⟨tb, tq, hA, -, hat⟩ := HLA.out
     have hA2 := hA (by omega)
     subst hA2
     have z0 := cell_stays hb (hat i hin)
     have hnx := filterB_next (O := O) hin
     have hsz := HKA.out.2 _ (List.getElem_mem hin)
     generalize la[i] = nm at z0 hnx hsz
     obtain ⟨W, hW⟩ : ∃ x, x = wo.alloc (.cells #[] 86) := ⟨_, rfl⟩
     have hbW : Below wo.heap.size wo W := by rw [hW]; exact (Below.refl _ _).alloc (Nat.le_refl _) _
     have lk : (Instr.lookup 85 (.map (some m)) (.string nm) true).run Tryz.prog wo = .ok (.tuple #[.agg #[], .bool (O nm)]) wo := by
      rw [← HOD.out]; exact hmp.look2 nm (by unfold maxLen; omega)
     have HIn : Hid (i + 1 ≤ la.length) := Hd hin
     have HNX := Hd hnx
     have HMW := Hd (hmp.later hbW)
     have HBW := Hd (hb.trans (hbW.mono hb.size))
     have HOW := Hd (HO.out.later hbW)
     have HXW := Hd (box_up hbW hg8w hx3)
     have HW := Hd hW
     have HLEN : Hid (((la.take i).filter O).length + 1 ≤ 1099511627776) := Hd (by
      have := List.length_filter_le O (la.take i)
      rw [List.length_take] at this
      omega)
     have i1 : (0 : Int) ≤ (i : Int) := by omega
     have i2 : (i : Int) < (la.length : Int) := by omega
     generalize O nm = ob at lk HNX
     clear hi hA hat hnx hsz hbW hW hmp hb hx3 hla
     go_upto_region 16 with fail
     first | rw [← HW.out] | skip
     clear lk z0
     rcases Bool.eq_false_or_eq_true ob with hob | hob
     ·subst hob
      have q1 := Ch HXW.out 1
      simp only [List.getElem?_toArray, List.getElem?_cons_zero, List.getElem?_cons_succ] at q1
      obtain ⟨W2, hW2⟩ : ∃ x, x = W.alloc (.cells #[.string nm] 9) := ⟨_, rfl⟩
      have hbW2 : Below W.heap.size W W2 := by rw [hW2]; exact (Below.refl _ _).alloc (Nat.le_refl _) _
      have hgW : g8 < W.heap.size := (Array.getElem?_eq_some_iff.1 HXW.out).1
      have HX2 := Hd (box_up hbW2 hgW HXW.out)
      have HOW2 := Hd (HOW.out.later hbW2)
      have HC := Hd (show W2.cell? ⟨W.heap.size, 0, none⟩ = some (.string nm) by rw [hW2, Ch (heap_alloc_new W _)]; rfl)
      have HLT : Hid (g8 + 1 ≤ W2.heap.size) := Hd (by have := hbW2.size; omega)
      have HBW2 := Hd (HBW.out.trans (hbW2.mono HBW.out.size))
      have HMW2 := Hd (HMW.out.later hbW2)
      have HNX2 : Hid ((la.take (i + 1)).filter O = (la.take i).filter O ++ [nm]) := Hd (by rw [HNX.out]; simp)
      have HW2' := Hd hW2
      clear hW2 hbW2 hgW HNX
      go_wp2_with (at_builtin; refine wpList_plain rfl fun Kx hK => ?_; rw [← HW2'.out]; go_loud (refine wp_append_str (B := g8 + 1) (gg := W.heap.size) (s := nm) (l := (la.take i).filter O) _ _ rfl (by rfl) (by rfl) HOW2.out HC.out HLT.out HLEN.out ?_))
      intro v3 w3 ho3 hg3x
      refine hK _ _ ?_
      clear hK Kx q1
      have hown : ∀ k, (Value.slice A3 ((la.take i).filter O).length c3).ownBlock = some k → g8 + 1 ≤ k := fun k hk => (HOW2.out.lt k hk).1
      have hx33 : w3.heap[g8]? = some (.cells #[.bool false, .slice A3 ((la.take i).filter O).length c3] 49 (0, 0)) := (hg3x.block g8 (by have := HLT.out; omega) (fun e => by have := hown g8 e.symm; omega)).trans HX2.out
      have hb3 : Below w1.heap.size w1 w3 := HBW2.out.grown hg3x HBW2.out.size fun k hk => by have := hown k hk; have := HG8.out; omega
      have hm3 : MapIs setMK w3 m lb.length (seenS lb lb.length) := HMW2.out.keep (hg3x.block m HMW2.out.lt (fun e => by have := hown m e.symm; have := HG8.out; omega))
      rw [← HNX2.out] at ho3
      obtain ⟨A4, c4, hv4, -⟩ := OutS.list ho3 (by have h1 := List.length_filter_le O (la.take (i + 1)); rw [List.length_take] at h1; have := HKA.out.1; omega)
      subst hv4
      have r1 := Ch hx33 1
      have r0 := Lib.frozen_of_heap hx33 1
      simp only [List.getElem?_toArray, List.getElem?_cons_zero, List.getElem?_cons_succ] at r1
      have HX33 := Hd hx33
      have HB3 := Hd hb3
      have HM3 := Hd hm3
      have HO3 := Hd ho3
      clear hx33 hb3 ho3 hg3x hm3
      go_wp2_with fail
      have hset := Go.heap_setCell_same _ g8 1 _ _ (Value.slice A4 ((la.take (i + 1)).filter O).length c4) HX33.out
      refine ⟨⟨i + 1, A4, c4, _, rfl, HIn.out, by first | rfl | rw [wr2], ?f1, hset, HM3.out.keep (Below.heap_setCell _ _ _ _ (show m ≠ g8 by have := HG8.out; omega)), HB3.out.setCell (by show w1.heap.size ≤ g8; have := HG8.out; omega) _⟩, ?f2⟩
      case f1 =>
       refine ⟨HO3.out.1, ?_⟩
       rcases HO3.out.2 with hq | ⟨gq, cap, cur, hv, hgq, hh, rq⟩
       ·exact .inl hq
       ·exact .inr ⟨gq, cap, cur, hv, hgq, (Below.heap_setCell _ _ _ _ (show gq ≠ g8 by omega)).trans hh, rq⟩
      case f2 => first | exact HM.out | (rw [wr2]; exact HM.out)
     ·subst hob
      have HNX2 : Hid ((la.take (i + 1)).filter O = (la.take i).filter O) := Hd (by rw [HNX.out]; simp)
      clear HNX
      go_wp2_with fail
      refine ⟨⟨i + 1, A3, c3, _, rfl, HIn.out, by first | rfl | rw [wr2], by rw [HNX2.out]; exact HOW.out, by rw [HNX2.out]; exact HXW.out, HMW.out, HBW.out⟩, ?_⟩
      first | exact HM.out | (rw [wr2]; exact HM.out)
    ·have t1 : decide ((i : Int) < (la.length : Int)) = false := by simp; omega
     obtain rfl : i = la.length := by omega
     have hox := HO.out
     rw [List.take_length, HFF.out] at hox hx3
     have HO2 := Hd hox
     have HFL : Hid (LF.length ≤ 1000000) := Hd (by rw [← HFF.out]; exact Nat.le_trans (List.length_filter_le _ _) hla)
     have hgw : g < w1.heap.size := by have := HS1.out; omega
     have rb := box_up hb hgw HZ.out
     have q0 := Ch hx3 0
     have q1 := Ch hx3 1
     simp only [List.getElem?_toArray, List.getElem?_cons_zero, List.getElem?_cons_succ] at q0 q1
     clear hin hi hla hmp hb hx3 hgw hg8w hox HO HX3
     have RB := Hd rb
     have u0 := Ch rb 0
     have u1 := Ch rb 1
     have z0 := Lib.frozen_of_heap rb 0
     have z1 := Lib.frozen_of_heap rb 1
     simp only [List.getElem?_toArray, List.getElem?_cons_zero, List.getElem?_cons_succ] at u0 u1
     clear rb
     go_wp2_with fail
     have rs := two_set RB.out (.bool false) (.slice A3 LF.length c3)
     have r0 := Ch rs 0
     have r1 := Ch rs 1
     simp only [List.getElem?_toArray, List.getElem?_cons_zero, List.getElem?_cons_succ] at r0 r1
     refine bodyPost_ret (v := .agg #[.bool false, .slice A3 LF.length c3]) (by simp [results, Tryz.results47, go_sem, r0, r1]) rfl ?_
     clear r0 r1 u0 u1 z0 z1
     have hB7 : Below w.heap.size w wo := HB1.out.trans (HB.out.mono HB1.out.size)
     refine ⟨⟨A3, c3, rfl, ?_⟩, (hB7.setCell (by show w.heap.size ≤ g; have := HG.out; omega) _).setCell (by show w.heap.size ≤ g; have := HG.out; omega) _⟩
     rcases HO2.out.of with ⟨hv, hnil⟩ | ⟨gq, cq, hv, hgq, hsi⟩
     ·subst hnil; exact ⟨0, 0, fun h => absurd h (by simp), by simp, fun i h => absurd h (by simp)⟩
     ·injection hv with hv _ _
      subst hv
      have hne : gq ≠ g := by have h1 := HG8.out; have h2 := HS1.out; omega
      exact (hsi.keep ((Below.heap_setCell _ _ _ _ hne).trans (Below.heap_setCell _ _ _ _ hne))).list (by have := HFL.out; omega)
def FormR (t : Ty) : Prop := ∀ (K : Nat → Prop) (w : World) (cs : List Value), RepT K w t cs → cntT t ≤ 1000000 → Calls Tryz.prog 28 #[.agg cs.toArray] w fun e w' => e = .returned (.bool (formT t)) ∧ Below w.heap.size w w'
theorem allF_drop {l : List Ty} {i : Nat} (h : i < l.length) : (l.drop i).all formT = (formT l[i] && (l.drop (i + 1)).all formT) := by rw [List.drop_eq_getElem_cons h]; rfl
theorem all_ref (l : List Ty) (h : ∀ p ∈ l, FormR p) {K : Nat → Prop} {w : World} {A : Option Addr} {c : Nat} (hL : ListT K w l A c) (hc : cntL l ≤ 1000000) :
  Calls Tryz.prog 56 #[.slice A l.length c] w fun e w' => e = .returned (.bool (l.all formT)) ∧ Below w.heap.size w w' := by
 have HL := Hd hL
 have HH := Hd h
 have HC := Hd hc
 have hll := hL.short
 clear hL h hc
 go_enter Tryz.func56, Tryz.ntmps56
 go_wp2_with fail
 go_loopw [3] (fun v wr => ∃ (i : Nat), i ≤ l.length ∧ v = .int .i64 i ∧ l.all formT = (l.drop i).all formT ∧ Below w.heap.size w wr) (fun v _ => l.length - (intOf v).toNat)
 case atStart => exact ⟨0, by omega, rfl, by rw [List.drop_zero], Below.refl _ _⟩
 case round =>
  obtain ⟨i, hi, rfl, he, hb⟩ := hrel
  have HE := Hd he
  have HB := Hd hb
  clear he hb
  by_cases hin : i < l.length
  ·have t1 : decide ((i : Int) < (l.length : Int)) = true := by simp; omega
   have wr2 : wrap64 ((i : Int) + 1) = ((i + 1 : Nat) : Int) := wrap_one (by omega)
   have HM := Hd (measI hin)
   obtain ⟨b, o, hA, _, hat⟩ := HL.out.at (by omega)
   have hti := hat i hin
   have hpi := HH.out _ (List.getElem_mem hin)
   have HS := Hd (allF_drop hin)
   have hci := Nat.le_trans (cntL_mem (List.getElem_mem hin)) HC.out
   have HIn : Hid (i + 1 ≤ l.length) := Hd hin
   subst hA
   generalize l[i] = t at hti hpi HS hci
   obtain ⟨cs, hcs, hrep⟩ := hti
   have KI := Hd (hpi K wr cs (hrep.later HB.out) hci)
   generalize formT t = q at HS KI
   obtain ⟨k2, s2, n2, ps2, fs2, vs2⟩ := t
   obtain ⟨Aq, cq, Ag, cg, Ah, ch, rfl, -⟩ := hrep.inv
   have y0 := cell_stays HB.out (hcs 0 _ rfl)
   have y1 := cell_stays HB.out (hcs 1 _ rfl)
   have y2 := cell_stays HB.out (hcs 2 _ rfl)
   have y3 := cell_stays HB.out (hcs 3 _ rfl)
   have y4 := cell_stays HB.out (hcs 4 _ rfl)
   have y5 := cell_stays HB.out (hcs 5 _ rfl)
   rw [Nat.add_zero] at y0
   simp only [cells6T] at KI
   clear hi hat hpi hcs hrep hci
   go_wp2_with fail
   refine KI.out.mono ?_
   rintro e w2 ⟨rfl, hb2⟩
   have HB2 := Hd (below_then HB.out hb2)
   clear hb2 KI y0 y1 y2 y3 y4 y5
   cases q with
   | true =>
    go_wp2_with fail
    refine ⟨⟨i + 1, HIn.out, by first | rfl | rw [wr2], by rw [HE.out, HS.out]; rfl, HB2.out⟩, ?_⟩
    first | exact HM.out | (rw [wr2]; exact HM.out)
   | false =>
    go_wp2_with fail
    go_ret
    exact ⟨by rw [HE.out, HS.out]; rfl, HB2.out⟩
  ·have t1 : decide ((i : Int) < (l.length : Int)) = false := by simp; omega
   have HE1 : Hid (l.all formT = true) := Hd (by rw [HE.out, List.drop_eq_nil_of_le (by omega)]; rfl)
   clear hi
   go_wp2_with fail
   go_ret
   exact ⟨by rw [HE1.out]; rfl, HB.out⟩
end Go.Proofs.YteakkjhcdpbidaaGreatDoor
