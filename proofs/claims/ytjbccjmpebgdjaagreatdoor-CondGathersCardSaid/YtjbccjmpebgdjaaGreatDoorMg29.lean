import Derived.Test.YtjbccjmpebgdjaaGreatDoorMg27
import Derived.Test.YtjbccjmpebgdjaaGreatDoorMg28
namespace Go.Proofs.YtjbccjmpebgdjaaGreatDoor
set_option maxRecDepth 100000
set_option maxHeartbeats 64000000
open Go.RowKit
theorem emptyL : emptyB.toList = [] := by rw [ByteArray.toList_eq]; rfl
theorem infT_kind {k : Int} (h : k ≠ 22) : infT (tyK k) = false := by
 unfold tyK
 rw [infT_mk]
 have e : (k == 22) = false := by simpa using h
 rw [e]; rfl
theorem plainT_form {t : Ty} (h : formT t = true) : PlainT t := ⟨fun e => by rw [form_kind h e (by decide) (by decide)]; exact infT_kind (by decide), form_leaf h⟩
theorem plainT_flat {l : List Ty} (h : ∀ x ∈ l, formT x = true) : ∀ x ∈ flatU l, PlainT x := fun x hx => plainT_form (flatU_form (List.all_eq_true.2 h) x hx)
theorem form_tyK {k : Int} (h1 : 1 ≤ k) (h8 : k ≤ 8) : formT (tyK k) = true := by
 unfold tyK
 rw [formT_mk]
 have hs : shapeK k = ⟨false, false, false, false, 0, 0, true⟩ := by unfold shapeK; rw [if_pos ⟨h1, h8⟩]
 rw [hs]
 unfold selfB
 rw [if_neg (by omega), if_neg (by omega), if_neg (by omega), if_neg (by omega), if_neg (by omega), if_neg (by omega), if_neg (by omega), if_neg (by omega)]
 unfold fitsB
 simp [emptyL]
theorem form_ps {t : Ty} (h : formT t = true) : ∀ p ∈ t.ps, formT p = true := by
 obtain ⟨k, s, n, ps, fs, vs⟩ := t
 rw [formT_mk, Bool.and_eq_true, List.all_eq_true] at h
 exact h.2
theorem form_self {k : Int} {t : ByteArray} {n : Int} {ps : List Ty} {fs : FsT} {vs : VsT} (h : formT (.mk k t n ps fs vs) = true) : selfB k t n ps (fieldsB (fieldsT fs formT)) (varsB (varsT vs formT)) = true := by
 rw [formT_mk, Bool.and_eq_true, Bool.and_eq_true] at h
 exact h.1.2
theorem form_15 {t : ByteArray} {n : Int} {ps : List Ty} {fs : FsT} {vs : VsT} (h : formT (.mk 15 t n ps fs vs) = true) : 2 ≤ ps.length ∧ t = emptyB ∧ n = 0 ∧ fs = [] ∧ vs = [] ∧ isUB ps = true := by
 have hf := form_fits h
 have hs : shapeK 15 = ⟨false, false, false, false, 2, -1, true⟩ := rfl
 rw [hs] at hf
 unfold fitsB at hf
 simp only [Bool.and_eq_true, Bool.not_eq_true', Bool.or_eq_false_iff, Bool.or_eq_true, decide_eq_true_eq, beq_iff_eq, Bool.not_false, Bool.true_and, decide_eq_false_iff_not] at hf
 obtain ⟨⟨⟨⟨h1, h2⟩, h3⟩, h4⟩, h5, h6⟩ := hf
 refine ⟨by omega, bytes_ext ?_, by simpa using h2, List.eq_nil_of_length_eq_zero (by omega), List.eq_nil_of_length_eq_zero (by omega), ?_⟩
 ·have : t.toList = [] := by simpa using h1
  rw [ByteArray.toList_eq] at this; rw [this]; rfl
 ·have := form_self h
  unfold selfB at this
  simpa using this
theorem union_of_parts {t : Ty} (h : formT t = true) (hk : t.k = 15) : unionT t.ps = t := by
 obtain ⟨k, s, n, ps, fs, vs⟩ := t
 have hk' : k = 15 := hk
 subst hk'
 obtain ⟨h2, rfl, rfl, rfl, rfl, hu⟩ := form_15 h
 exact (isUB_self h2).1 hu
theorem union_self {t : Ty} (h : formT t = true) : unionT [t] = t := by
 by_cases hk : t.k = 15
 ·refine Eq.trans (union_congr fun x => ?_) (union_of_parts h hk)
  rw [mem_flatU]; simp only [List.mem_singleton, exists_eq_left]
  rw [parts1_15 hk]
 ·have hf : flatU [t] = [t] := flat_self fun x hx => by rw [List.mem_singleton] at hx; subst hx; exact hk
  have one : ∀ {k : Int}, hasK k [t] = decide (t.k = k) := fun {k} => by
   rw [Bool.eq_iff_iff, hasKc, decide_eq_true_eq]; simp
  by_cases h1 : t.k = 1
  ·have e : keptU [t] = [] := by unfold keptU; rw [hf, List.filter_eq_nil_iff]; intro x hx; rw [List.mem_singleton] at hx; subst hx; rw [keepT_1 _ h1]; decide
   unfold unionT; rw [e, form_kind h h1 (by decide) (by decide)]; rfl
  ·have e : keptU [t] = [t] := by
    unfold keptU; rw [hf, List.filter_eq_self]; intro x hx; rw [List.mem_singleton] at hx; subst hx
    by_cases h3 : x.k = 3
    ·exact keepT_3 _ h3
    by_cases h2 : x.k = 2
    ·rw [keepT_2 _ h2 ((plainT_form h).1 h2), a_of, one, decide_eq_false h3]; rfl
    rw [keepT_free _ h3 h1 h2 (by rw [a_of, one, decide_eq_false h3]) (by rw [u_of, one, decide_eq_false h2])]
    by_cases h9 : x.k = 9
    ·rw [if_pos h9, n_of, one, decide_eq_false (by omega)]; rfl
    ·rw [if_neg h9]
     by_cases h10 : x.k = 10
     ·rw [if_pos h10, s_of, one, decide_eq_false (by omega)]; rfl
     ·rw [if_neg h10]
   unfold unionT; rw [e]; rfl
theorem form_union {l : List Ty} (h : ∀ x ∈ l, formT x = true) : formT (unionT l) = true := by
 have hp := parts_union l
 have hu := union_parts l (plainT_flat h)
 have hm : ∀ x ∈ sortT (keptU l), formT x = true := fun x hx => flatU_form (List.all_eq_true.2 h) x (mem_keptU.1 ((mem_sortT x _).1 hx)).1
 rw [hp] at hu
 unfold unionT at hp hu ⊢
 generalize sortT (keptU l) = s at hp hu hm
 rcases s with _ | ⟨x, _ | ⟨y, s⟩⟩
 ·exact form_tyK (by decide) (by decide)
 ·exact hm x (by simp)
 ·show formT (.mk 15 emptyB 0 (x :: y :: s) [] []) = true
  rw [formT_mk]
  have hs : shapeK 15 = ⟨false, false, false, false, 2, -1, true⟩ := rfl
  rw [hs]
  have hb : isUB (x :: y :: s) = true := (isUB_self (by simp)).2 hu
  have hself : selfB 15 emptyB 0 (x :: y :: s) (fieldsB (fieldsT [] formT)) (varsB (varsT [] formT)) = true := by unfold selfB; simpa using hb
  rw [hself, Bool.and_true, Bool.and_eq_true, List.all_eq_true]
  refine ⟨?_, hm⟩
  unfold fitsB
  simp [emptyL]
  omega
theorem form_fields {t : Ty} (h : formT t = true) (hk : t.k = 14) : fieldsB (fieldsT t.fs formT) = true := by
 obtain ⟨k, s, n, ps, fs, vs⟩ := t
 have hk' : k = 14 := hk
 subst hk'
 have := form_self h
 unfold selfB at this
 have h2 : fieldsB (fieldsT fs formT) = true := by simpa using this
 exact h2
theorem fieldsB_at {fs : FsT} (h : fieldsB (fieldsT fs formT) = true) {i : Nat} (hi : i < fs.length) : nameT fs[i].1 = true ∧ 0 ≤ fs[i].2.1 ∧ fs[i].2.1 ≤ 3 ∧ formT fs[i].2.2 = true := by
 unfold fieldsB at h
 rw [range_all] at h
 have := h i (by rw [fieldsT_len]; exact hi)
 rcases i with _ | i
 ·rw [okF_zero hi] at this
  simp only [Bool.and_eq_true, decide_eq_true_eq] at this
  exact ⟨this.1.1.1, this.1.1.2, this.1.2, this.2⟩
 ·rw [okF_succ hi] at this
  simp only [Bool.and_eq_true, decide_eq_true_eq] at this
  exact ⟨this.1.1.1.1, this.1.1.1.2, this.1.1.2, this.1.2⟩
theorem fieldsB_mem {fs : FsT} (h : fieldsB (fieldsT fs formT) = true) {f : ByteArray × Int × Ty} (hf : f ∈ fs) : nameT f.1 = true ∧ 0 ≤ f.2.1 ∧ f.2.1 ≤ 3 ∧ formT f.2.2 = true := by
 obtain ⟨i, hi, rfl⟩ := List.getElem_of_mem hf
 exact fieldsB_at h hi
theorem fieldsB_lt {fs : FsT} (h : fieldsB (fieldsT fs formT) = true) {i : Nat} (hi : i + 1 < fs.length) : Go.Op.bytesLess (fs[i]'(by omega)).1.toList fs[i + 1].1.toList = true := by
 unfold fieldsB at h
 rw [range_all] at h
 have := h (i + 1) (by rw [fieldsT_len]; exact hi)
 rw [okF_succ hi] at this
 simp only [Bool.and_eq_true, decide_eq_true_eq] at this
 exact this.2
theorem form_held {f : ByteArray × Int × Ty} (h : formT f.2.2 = true) : formT (heldT f) = true := by
 unfold heldT
 split
 ·refine form_union fun x hx => ?_
  simp only [List.mem_cons, List.not_mem_nil, or_false] at hx
  rcases hx with rfl | rfl
  ·exact form_tyK (by decide) (by decide)
  ·exact h
 ·exact h
theorem cntL_app (l m : List Ty) : cntL (l ++ m) = cntL l + cntL m := by simp [cntL]
theorem cntL_nil : cntL [] = 0 := rfl
theorem cntL_filter (q : Ty → Bool) : ∀ l : List Ty, cntL (l.filter q) ≤ cntL l
 | [] => Nat.le_refl _
 | a :: l => by
  have := cntL_filter q l
  rw [List.filter_cons]
  split
  ·rw [cntL_cons, cntL_cons]; omega
  ·rw [cntL_cons]; omega
theorem cntL_ins (t : Ty) : ∀ l, cntL (insT t l) ≤ cntT t + cntL l
 | [] => by simp [insT, cntL]
 | x :: l => by
  have := cntL_ins t l
  unfold insT
  repeat' split
  all_goals simp only [cntL_cons] at *
  all_goals omega
theorem cntL_sort : ∀ l, cntL (sortT l) ≤ cntL l
 | [] => Nat.le_refl _
 | a :: l => by
  have h1 := cntL_sort l
  have h2 := cntL_ins a (sortT l)
  have e : sortT (a :: l) = insT a (sortT l) := rfl
  rw [e, cntL_cons]; omega
theorem cntL_flat_of : ∀ (l : List Ty), (∀ p ∈ l, cntL (parts1 p) ≤ cntT p) → cntL (flatU l) ≤ cntL l
 | [], _ => Nat.le_refl _
 | a :: l, h => by
  have h1 := h a List.mem_cons_self
  have h2 := cntL_flat_of l fun q hq => h q (List.mem_cons_of_mem _ hq)
  rw [flatU_cons, cntL_app, cntL_cons]; omega
theorem cntL_parts1 (t : Ty) : cntL (parts1 t) ≤ cntT t := by
 refine Ty.ind (C := fun t => cntL (parts1 t) ≤ cntT t) (fun k t n ps fs vs hp _ _ => ?_) t
 rw [parts1_mk]
 split
 ·have := cntL_flat_of ps hp
  rw [cntT_mk]; omega
 ·rw [cntL_cons, cntL_nil]; omega
theorem cntL_flat (l : List Ty) : cntL (flatU l) ≤ cntL l := cntL_flat_of l fun p _ => cntL_parts1 p
theorem cnt_kind (k : Int) : cntT (tyK k) = 1 := by unfold tyK; rw [cntT_mk]; rfl
theorem cnt_union (l : List Ty) : cntT (unionT l) ≤ cntL l + 1 := by
 have h1 := cntL_sort (keptU l)
 have h2 := cntL_filter (keepT (kindsOf (flatU l))) (flatU l)
 have h3 := cntL_flat l
 have h4 : cntL (keptU l) = cntL ((flatU l).filter (keepT (kindsOf (flatU l)))) := rfl
 unfold unionT
 generalize sortT (keptU l) = s at h1
 rcases s with _ | ⟨x, _ | ⟨y, s⟩⟩
 ·show cntT (tyK 1) ≤ _; rw [cnt_kind]; omega
 ·show cntT x ≤ _; rw [cntL_cons, cntL_nil] at h1; omega
 ·show cntT (.mk 15 emptyB 0 (x :: y :: s) [] []) ≤ _
  rw [cntT_mk]
  have e1 : cntF [] = 0 := rfl
  have e2 : cntV [] = 0 := rfl
  omega
theorem cnt_ps (t : Ty) : cntL t.ps + 1 ≤ cntT t := by
 obtain ⟨k, s, n, ps, fs, vs⟩ := t
 rw [cntT_mk]; show cntL ps + 1 ≤ _; omega
theorem cntF_memT : ∀ {l : FsT} {v : ByteArray × Int × Ty}, v ∈ l → cntT v.2.2 ≤ cntF l
 | a :: l, v, h => by
  have e : cntF (a :: l) = cntT a.2.2 + cntF l := by simp [cntF]
  rw [e]
  rcases List.mem_cons.1 h with rfl | h
  ·omega
  ·have := cntF_memT h; omega
theorem cnt_fs {t : Ty} {f : ByteArray × Int × Ty} (h : f ∈ t.fs) : cntT f.2.2 + 1 ≤ cntT t := by
 obtain ⟨k, s, n, ps, fs, vs⟩ := t
 have := cntF_memT h
 rw [cntT_mk]
 have e : (Ty.mk k s n ps fs vs).fs = fs := rfl
 rw [e] at this; omega
theorem cnt_held (f : ByteArray × Int × Ty) : cntT (heldT f) ≤ cntT f.2.2 + 2 := by
 unfold heldT
 split
 ·have := cnt_union [tyK 4, f.2.2]
  rw [cntL_cons, cntL_cons, cntL_nil, cnt_kind] at this; omega
 ·omega
theorem infoFd : (Tryz.prog.info? 38).map (fun i => (i.zero, i.size, i.bytes)) = some (some (.agg #[.string ⟨#[]⟩, .int .i64 0, .string ⟨#[]⟩, .int .i64 0, .slice none 0 0, .slice none 0 0, .slice none 0 0]), 7, 120) := by kernel_rfl
abbrev FdR (B : Nat) (w : World) (v : Value) (G : List (ByteArray × Ty)) : Prop := OwnE FdE 38 7 B w v G
def AgPost (B : Nat) (w : World) (v : Value) (G : List (ByteArray × Ty)) : Ending → World → Prop := fun e w' => ∃ v', e = .returned v' ∧ FdR B w' v' G ∧ Gro v w v' w'
theorem AgPost.from {B : Nat} {w w1 : World} {v v1 : Value} {G : List (ByteArray × Ty)} {e : Ending} {w' : World} (hg : Gro v w v1 w1) (h : AgPost B w1 v1 G e w') : AgPost B w v G e w' := by
 obtain ⟨v', he, ho, h2⟩ := h
 exact ⟨v', he, ho, hg.trans h2⟩
def FnP (f : Nat) (p t : Ty) : Prop := ∀ (K K' : Nat → Prop) (B : Nat) (w : World) (cs ds : List Value) (v : Value) (G : List (ByteArray × Ty)), RepT K w t cs → RepT K' w p ds → Off v w K → Off v w K' → B ≤ w.heap.size → FdR B w v G → formT p = true → formT t = true → cntT p + cntT t ≤ 1000000 → G.length + (gathT p t).length ≤ 1000000000 →
 Calls Tryz.prog f #[.agg cs.toArray, .agg ds.toArray, v] w (AgPost B w v (G ++ gathT p t))
def AgP (p t : Ty) : Prop := FnP 30 p t
structure AgPre (k : Int) (s : ByteArray) (n : Int) (ps : List Ty) (fs : FsT) (vs : VsT) (k2 : Int) (s2 : ByteArray) (n2 : Int) (ps2 : List Ty) (fs2 : FsT) (vs2 : VsT) (K K' : Nat → Prop) (B0 : Nat) (w : World) (v : Value) (G : List (ByteArray × Ty)) (A : Option Addr) (c : Nat) (B : Option Addr) (d : Nat) (C : Option Addr) (e : Nat) (A2 : Option Addr) (c2 : Nat) (B2 : Option Addr) (d2 : Nat) (C2 : Option Addr) (e2 : Nat) (w1 : World) : Prop where
 hr : RepT K w1 (.mk k s n ps fs vs) [.int .i64 k, .string s, .int .i64 n, .slice A ps.length c, .slice B fs.length d, .slice C vs.length e]
 hp : RepT K' w1 (.mk k2 s2 n2 ps2 fs2 vs2) [.int .i64 k2, .string s2, .int .i64 n2, .slice A2 ps2.length c2, .slice B2 fs2.length d2, .slice C2 vs2.length e2]
 hkT : Off v w1 K
 hkP : Off v w1 K'
 hB : B0 ≤ w1.heap.size
 hO : FdR B0 w1 v G
 hfp : formT (.mk k2 s2 n2 ps2 fs2 vs2) = true
 hft : formT (.mk k s n ps fs vs) = true
 hct : cntT (.mk k2 s2 n2 ps2 fs2 vs2) + cntT (.mk k s n ps fs vs) ≤ 1000000
 hlen : G.length + (gathT (.mk k2 s2 n2 ps2 fs2 vs2) (.mk k s n ps fs vs)).length ≤ 1000000000
 hLt : ListT K w1 ps A c
 hLg : ListF K w1 fs B d
 hLp : ListT K' w1 ps2 A2 c2
 hLf : ListF K' w1 fs2 B2 d2
 hown : ∀ b, v.ownBlock = some b → b < w.heap.size
 hb1 : Below w.heap.size w w1
 HBX : Hid (∀ v' wx, Gro v w1 v' wx → (wx.cell? ⟨w.heap.size, 0, none⟩ = some (.int .i64 k) ∧ wx.cell? ⟨w.heap.size, 1, none⟩ = some (.string s) ∧ wx.cell? ⟨w.heap.size, 2, none⟩ = some (.int .i64 n) ∧ wx.cell? ⟨w.heap.size, 3, none⟩ = some (.slice A ps.length c) ∧ wx.cell? ⟨w.heap.size, 4, none⟩ = some (.slice B fs.length d) ∧ wx.cell? ⟨w.heap.size, 5, none⟩ = some (.slice C vs.length e)) ∧ (wx.cell? ⟨w.heap.size + 1, 0, none⟩ = some (.int .i64 k2) ∧ wx.cell? ⟨w.heap.size + 1, 1, none⟩ = some (.string s2) ∧ wx.cell? ⟨w.heap.size + 1, 2, none⟩ = some (.int .i64 n2) ∧ wx.cell? ⟨w.heap.size + 1, 3, none⟩ = some (.slice A2 ps2.length c2) ∧ wx.cell? ⟨w.heap.size + 1, 4, none⟩ = some (.slice B2 fs2.length d2) ∧ wx.cell? ⟨w.heap.size + 1, 5, none⟩ = some (.slice C2 vs2.length e2)))
 HO1 : Hid (FdR B0 w1 v G)
 HG1 : Hid (Gro v w v w1)
 HW1 : Hid (w1 = (w.alloc (.cells #[.int .i64 k, .string s, .int .i64 n, .slice A ps.length c, .slice B fs.length d, .slice C vs.length e] 26)).alloc (.cells #[.int .i64 k2, .string s2, .int .i64 n2, .slice A2 ps2.length c2, .slice B2 fs2.length d2, .slice C2 vs2.length e2] 26))
theorem ag_pre {f : Nat} (k : Int) (s : ByteArray) (n : Int) (ps : List Ty) (fs : FsT) (vs : VsT) (k2 : Int) (s2 : ByteArray) (n2 : Int) (ps2 : List Ty) (fs2 : FsT) (vs2 : VsT) (main : ∀ (K K' : Nat → Prop) (B0 : Nat) (w : World) (v : Value) (G : List (ByteArray × Ty)) (A : Option Addr) (c : Nat) (B : Option Addr) (d : Nat) (C : Option Addr) (e : Nat) (A2 : Option Addr) (c2 : Nat) (B2 : Option Addr) (d2 : Nat) (C2 : Option Addr) (e2 : Nat) (w1 : World), AgPre k s n ps fs vs k2 s2 n2 ps2 fs2 vs2 K K' B0 w v G A c B d C e A2 c2 B2 d2 C2 e2 w1 → Calls Tryz.prog f #[.agg #[.int .i64 k, .string s, .int .i64 n, .slice A ps.length c, .slice B fs.length d, .slice C vs.length e], .agg #[.int .i64 k2, .string s2, .int .i64 n2, .slice A2 ps2.length c2, .slice B2 fs2.length d2, .slice C2 vs2.length e2], v] w (AgPost B0 w v (G ++ gathT (.mk k2 s2 n2 ps2 fs2 vs2) (.mk k s n ps fs vs)))) : FnP f (.mk k2 s2 n2 ps2 fs2 vs2) (.mk k s n ps fs vs) := by
 intro K K' B0 w cs ds v G hr hp hkT hkP hB hO hfp hft hct hlen
 have hrx := hr
 have hpx := hp
 refine two_pre hr hp fun A c B d C e A2 c2 B2 d2 C2 e2 w1 h hcs hds => ?_
 subst hcs
 subst hds
 obtain ⟨HBX, HB1, HW1, -, -⟩ := h
 obtain ⟨Ax, cx, Bx, dx, Cx, ex, e1, -, hLt, hLg, -⟩ := hr.inv
 obtain ⟨Ay, cy, By, dy, Cy, ey, e2, -, hLp, hLf, -⟩ := hp.inv
 simp only [cells6T, List.cons.injEq, Value.slice.injEq, and_true, true_and] at e1 e2
 obtain ⟨⟨rfl, rfl⟩, ⟨rfl, rfl⟩, rfl, rfl⟩ := e1
 obtain ⟨⟨rfl, rfl⟩, ⟨rfl, rfl⟩, rfl, rfl⟩ := e2
 have hb1 := HB1.out
 have hown := fun b (h : v.ownBlock = some b) => (hO.lt h).2
 have hg1 : Gro v w v w1 := Gro.below hb1
 refine main K K' B0 w v G _ _ _ _ _ _ _ _ _ _ _ _ w1 ⟨hr.later hb1, hp.later hb1, hg1.off hkT, hg1.off hkP, Nat.le_trans hB hb1.size, hO.later keepFd hb1, hfp, hft, hct, hlen, hLt.later hb1, hLg.later hb1, hLp.later hb1, hLf.later hb1, hown, hb1, Hd fun v' wx h => ?_, Hd (hO.later keepFd hb1), Hd hg1, HW1⟩
 have hs : w1.heap.size = w.heap.size + 2 := by rw [HW1.out]; simp
 have hn : ∀ b, w.heap.size ≤ b → v.ownBlock ≠ some b := fun b hb e => by have := hown b e; omega
 obtain ⟨⟨x0, x1, x2, x3, x4, x5⟩, ⟨y0, y1, y2, y3, y4, y5⟩⟩ := HBX.out w1 (Below.refl _ _)
 exact ⟨⟨h.cell (hn _ (Nat.le_refl _)) x0, h.cell (hn _ (Nat.le_refl _)) x1, h.cell (hn _ (Nat.le_refl _)) x2, h.cell (hn _ (Nat.le_refl _)) x3, h.cell (hn _ (Nat.le_refl _)) x4, h.cell (hn _ (Nat.le_refl _)) x5⟩, h.cell (hn _ (Nat.le_add_right _ _)) y0, h.cell (hn _ (Nat.le_add_right _ _)) y1, h.cell (hn _ (Nat.le_add_right _ _)) y2, h.cell (hn _ (Nat.le_add_right _ _)) y3, h.cell (hn _ (Nat.le_add_right _ _)) y4, h.cell (hn _ (Nat.le_add_right _ _)) y5⟩
theorem AgP.go {p t : Ty} (h : AgP p t) {K K' : Nat → Prop} {B : Nat} {w wr : World} {cs ds : List Value} {v v' : Value} {G : List (ByteArray × Ty)} (hr : RepT K w t cs) (hp : RepT K' w p ds) (hk : Off v w K) (hk' : Off v w K') (hB : B ≤ w.heap.size) (hg : Gro v w v' wr) (hO : FdR B wr v' G) (hfp : formT p = true) (hft : formT t = true) (hc : cntT p + cntT t ≤ 1000000) (hl : G.length + (gathT p t).length ≤ 1000000000) :
  Calls Tryz.prog 30 #[.agg cs.toArray, .agg ds.toArray, v'] wr (AgPost B w v (G ++ gathT p t)) :=
 (h K K' B wr cs ds v' G (hg.rep hk hr) (hg.rep hk' hp) (hg.off hk) (hg.off hk') (Nat.le_trans hB hg.but.size) hO hfp hft hc hl).mono fun _ _ h2 => h2.from hg
theorem Gro.drew {v v' : Value} {w w' : World} (h : Gro v w v' w') : Gro v w v' w'.drew := h.trans (Gro.below (Below.refl _ _).drew)
theorem FdR.drew {B : Nat} {w : World} {v : Value} {G : List (ByteArray × Ty)} (h : FdR B w v G) : FdR B w.drew v G := h.later keepFd (Below.refl _ _).drew
theorem met_ref {K : Nat → Prop} {B : Nat} {w : World} {t : Ty} {cs : List Value} {v : Value} {G : List (ByteArray × Ty)} (s0 : ByteArray) (hr : RepT K w t cs) (hk : Off v w K) (hB : B ≤ w.heap.size) (hO : FdR B w v G) (hl : G.length + 1 ≤ 1000000000) :
  Calls Tryz.prog 62 #[v, .string s0, .agg cs.toArray] w (AgPost B w v (G ++ [(s0, t)])) := by
 obtain ⟨vs0, hown, hreps⟩ := hO
 obtain ⟨k, s, n, ps, fs, vs⟩ := t
 obtain ⟨A, c, B0, d, C, e, rfl, -⟩ := hr.inv
 have hoc := one_cells hr
 simp only [cells6T] at hr hoc ⊢
 obtain ⟨w1, hw1⟩ : ∃ x, x = w.alloc (.cells #[.int .i64 k, .string s, .int .i64 n, .slice A ps.length c, .slice B0 fs.length d, .slice C vs.length e] 26) := ⟨_, rfl⟩
 obtain ⟨w2, hw2⟩ : ∃ x, x = w1.alloc (.cells #[.string s0, .int .i64 k, .string s, .int .i64 n, .slice A ps.length c, .slice B0 fs.length d, .slice C vs.length e] 38) := ⟨_, rfl⟩
 have hb1 : Below w.heap.size w w1 := by rw [hw1]; exact (Below.refl _ _).alloc (Nat.le_refl _) _
 have hb2 : Below w1.heap.size w1 w2 := by rw [hw2]; exact (Below.refl _ _).alloc (Nat.le_refl _) _
 have hs1 : w1.heap.size = w.heap.size + 1 := by rw [hw1]; simp
 have hb12 : Below w.heap.size w w2 := hb1.trans (hb2.mono hb1.size)
 have hx1 : w1.heap[w.heap.size]? = some (.cells #[.int .i64 k, .string s, .int .i64 n, .slice A ps.length c, .slice B0 fs.length d, .slice C vs.length e] 26 (0, 0)) := by rw [hw1]; exact heap_alloc_new w _
 have hx2 : w2.heap[w1.heap.size]? = some (.cells #[.string s0, .int .i64 k, .string s, .int .i64 n, .slice A ps.length c, .slice B0 fs.length d, .slice C vs.length e] 38 (0, 0)) := by
  have h := heap_alloc_new w1 (.cells #[.string s0, .int .i64 k, .string s, .int .i64 n, .slice A ps.length c, .slice B0 fs.length d, .slice C vs.length e] 38)
  rw [← hw2] at h
  exact h
 have HOWN := Hd (ownsRow_keep hown fun b e => hb12.block b (hown.lt b e).2)
 have HFIN := Hd fun (w' : World) (v' : Value) (ho : w'.ownsRow B 38 7 v' (G.length + 1) (vs0 ++ [.string s0, .int .i64 k, .string s, .int .i64 n, .slice A ps.length c, .slice B0 fs.length d, .slice C vs.length e])) (hg : w2.grownBy w' v.ownBlock) (hob : v'.ownBlock = v.ownBlock ∨ v'.ownBlock = some w2.heap.size) => OwnE.push (a := (s0, Ty.mk k s n ps fs vs)) (cs := [.string s0, .int .i64 k, .string s, .int .i64 n, .slice A ps.length c, .slice B0 fs.length d, .slice C vs.length e]) keepFd hown hreps hb12 ⟨_, rfl, keepTy _ _ _ _ _ _ (fun b hx => ⟨⟨Nat.lt_of_lt_of_le (hk b hx).1 hb12.size, (hk b hx).2⟩, fun hlt => hb12.block b hlt⟩) hr⟩ rfl ho hg hob
 obtain ⟨i0, hi0, hz0, hz1, hz2⟩ := partsT infoFd
 have HX2 := Hd hx2
 have HOC := Hd hoc
 have HW1 := Hd hw1
 have HW2 := Hd hw2
 have HLN := Hd hl
 have HBB : Hid (B ≤ w2.heap.size) := Hd (Nat.le_trans hB hb12.size)
 obtain ⟨x0, x1, x2, x3, x4, x5⟩ : w1.cell? ⟨w.heap.size, 0, none⟩ = some (.int .i64 k) ∧ w1.cell? ⟨w.heap.size, 1, none⟩ = some (.string s) ∧ w1.cell? ⟨w.heap.size, 2, none⟩ = some (.int .i64 n) ∧ w1.cell? ⟨w.heap.size, 3, none⟩ = some (.slice A ps.length c) ∧ w1.cell? ⟨w.heap.size, 4, none⟩ = some (.slice B0 fs.length d) ∧ w1.cell? ⟨w.heap.size, 5, none⟩ = some (.slice C vs.length e) := ⟨Ch hx1 0, Ch hx1 1, Ch hx1 2, Ch hx1 3, Ch hx1 4, Ch hx1 5⟩
 clear hr hk hB hl hoc hown hreps hw1 hw2 hb1 hb2 hs1 hb12 hx1 hx2
 go_enter Tryz.func62, Tryz.ntmps62
 go_upto_region 1 with fail
 rw [← HW1.out]
 go_wp2_with (at_builtin; refine wpList_plain rfl fun Kx hK => ?_; rw [← HW2.out]; go_loud (refine wp_append_own_at _ _ 33 rfl B 38 i0 _ 7 120 Tryz.underlying33 hi0 hz0 hz1 hz2 (by decide) (by decide) _ _ _ rfl HOWN.out ⟨w1.heap.size, 0, none⟩ 1 1 [.string s0, .int .i64 k, .string s, .int .i64 n, .slice A ps.length c, .slice B0 fs.length d, .slice C vs.length e] rfl rfl ?a0 ?a1 ?a2 ?a3 ?a4 ?_))
 case a0 =>
  intro j u hj
  rw [add_zero']
  exact row_cell HX2.out hj
 case a1 =>
  intro u hu
  rcases List.mem_cons.1 hu with rfl | hu
  ·rfl
  ·exact HOC.out u hu
 case a2 => have := HLN.out; unfold maxLen; omega
 case a3 => have := HLN.out; omega
 case a4 => exact HBB.out
 intro v5 w5 hown5 hg5 _ hob5
 refine hK _ _ ?_
 clear hK Kx
 have HF := Hd (HFIN.out w5 v5 hown5 hg5 hob5)
 clear hown5 hg5 hob5 HFIN x0 x1 x2 x3 x4 x5
 go_wp2_with fail
 go_ret
 exact ⟨v5, rfl, HF.out.1, HF.out.2⟩
theorem rparts {K K' : Nat → Prop} {B : Nat} {w : World} {ts qs : List Ty} {A A2 : Option Addr} {c c2 : Nat} {v : Value} {G : List (ByteArray × Ty)} (hLt : ListT K w ts A c) (hLp : ListT K' w qs A2 c2) (hkT : Off v w K) (hkP : Off v w K') (hB : B ≤ w.heap.size) (hO : FdR B w v G) (ih : ∀ q ∈ qs, ∀ u ∈ ts, AgP q u) (hfp : ∀ q ∈ qs, formT q = true) (hft : ∀ u ∈ ts, formT u = true) (hc : cntL qs + cntL ts ≤ 1000000) (hl : G.length + (List.zipWith gathT qs ts).flatten.length ≤ 1000000000) :
  Calls Tryz.prog 63 #[.slice A ts.length c, .slice A2 qs.length c2, v] w (AgPost B w v (G ++ (List.zipWith gathT qs ts).flatten)) := by
 have hlt := hLt.short
 have hlp := hLp.short
 have hzl : (List.zipWith gathT qs ts).length = min qs.length ts.length := by simp
 have KQ0 : Hid (∀ i (hi : i < ts.length) (hj : i < qs.length) cs ds, RepT K w (ts[i]'hi) cs → RepT K' w (qs[i]'hj) ds → ∀ wr v', Gro v w v' wr → FdR B wr v' (G ++ ((List.zipWith gathT qs ts).take i).flatten) → Calls Tryz.prog 30 #[.agg cs.toArray, .agg ds.toArray, v'] wr (AgPost B w v (G ++ ((List.zipWith gathT qs ts).take (i + 1)).flatten))) := Hd fun i hi hj cs ds h1 h2 wr v' hg ho => by
  have e : ((List.zipWith gathT qs ts).take (i + 1)).flatten = ((List.zipWith gathT qs ts).take i).flatten ++ gathT (qs[i]'hj) (ts[i]'hi) := by
   rw [List.take_succ_eq_append_getElem (by rw [hzl]; omega), List.flatten_append, List.getElem_zipWith]
   simp
  have h3 : ((List.zipWith gathT qs ts).take (i + 1)).flatten.length ≤ (List.zipWith gathT qs ts).flatten.length := by
   conv => rhs; rw [← List.take_append_drop (i + 1) (List.zipWith gathT qs ts), List.flatten_append, List.length_append]
   omega
  have h4 := cntL_mem (List.getElem_mem hi)
  have h5 := cntL_mem (List.getElem_mem hj)
  rw [e] at h3 ⊢
  rw [← List.append_assoc]
  rw [List.length_append] at h3
  exact AgP.go (ih _ (List.getElem_mem hj) _ (List.getElem_mem hi)) h1 h2 hkT hkP hB hg ho (hfp _ (List.getElem_mem hj)) (hft _ (List.getElem_mem hi)) (by omega) (by rw [List.length_append]; omega)
 have HLT := Hd hLt
 have HLP := Hd hLp
 have HKT := Hd hkT
 have HKP := Hd hkP
 have HO := Hd hO
 have HZL := Hd hzl
 clear hLt hLp hkT hkP hB hO ih hfp hft hc hl hzl
 generalize List.zipWith gathT qs ts = Z at KQ0 HZL ⊢
 go_enter Tryz.func63, Tryz.ntmps63
 go_wp2_with fail
 go_loopw [2, 7] (fun lv iv wr => ∃ (i : Nat), (i ≤ ts.length ∧ i ≤ qs.length) ∧ iv = .int .i64 i ∧ FdR B wr lv (G ++ (Z.take i).flatten) ∧ Gro v w lv wr) (fun _ iv _ => ts.length - (intOf iv).toNat)
 case atStart => exact ⟨0, ⟨by omega, by omega⟩, rfl, by rw [List.take_zero, List.flatten_nil, List.append_nil]; exact HO.out, Gro.refl _ _⟩
 case round =>
  obtain ⟨i, hi, rfl, hro, hgr⟩ := hrel
  have HRO := Hd hro
  have HGR := Hd hgr
  clear hro hgr
  by_cases hin : i < ts.length
  ·have t1 : decide ((i : Int) < (ts.length : Int)) = true := by simp; omega
   have wr2 : wrap64 ((i : Int) + 1) = ((i + 1 : Nat) : Int) := wrap_one (by omega)
   have HM := Hd (measI hin)
   by_cases hjn : i < qs.length
   ·have t2 : decide ((i : Int) < (qs.length : Int)) = true := by simp; omega
    have HN : Hid (i < ts.length ∧ i < qs.length) := Hd ⟨hin, hjn⟩
    obtain ⟨tb, tq, hA, hKb, hat⟩ := HLT.out.at (by omega)
    obtain ⟨pb, po, hA2, hKb2, hat2⟩ := HLP.out.at (by omega)
    subst hA hA2
    obtain ⟨cs, hcs, hrt⟩ := hat i hin
    obtain ⟨ds, hds, hrp⟩ := hat2 i hjn
    have KQ := Hd (KQ0.out i hin hjn cs ds hrt hrp)
    generalize ts[i] = u at hrt
    generalize qs[i] = q at hrp
    obtain ⟨k3, s3, n3, ps3, fs3, vs3⟩ := u
    obtain ⟨k4, s4, n4, ps4, fs4, vs4⟩ := q
    obtain ⟨A3, c3, B3, d3, C3, e3, rfl, -⟩ := hrt.inv
    obtain ⟨A4, c4, B4, d4, C4, e4, rfl, -⟩ := hrp.inv
    simp only [cells6T] at hcs hds KQ
    have HSW : Hid (∀ v' wx, Gro v w v' wx → (wx.cell? ⟨tb, tq + i * 6, none⟩ = some (.int .i64 k3) ∧ wx.cell? ⟨tb, tq + i * 6 + 1, none⟩ = some (.string s3) ∧ wx.cell? ⟨tb, tq + i * 6 + 2, none⟩ = some (.int .i64 n3) ∧ wx.cell? ⟨tb, tq + i * 6 + 3, none⟩ = some (.slice A3 ps3.length c3) ∧ wx.cell? ⟨tb, tq + i * 6 + 4, none⟩ = some (.slice B3 fs3.length d3) ∧ wx.cell? ⟨tb, tq + i * 6 + 5, none⟩ = some (.slice C3 vs3.length e3)) ∧ (wx.cell? ⟨pb, po + i * 6, none⟩ = some (.int .i64 k4) ∧ wx.cell? ⟨pb, po + i * 6 + 1, none⟩ = some (.string s4) ∧ wx.cell? ⟨pb, po + i * 6 + 2, none⟩ = some (.int .i64 n4) ∧ wx.cell? ⟨pb, po + i * 6 + 3, none⟩ = some (.slice A4 ps4.length c4) ∧ wx.cell? ⟨pb, po + i * 6 + 4, none⟩ = some (.slice B4 fs4.length d4) ∧ wx.cell? ⟨pb, po + i * 6 + 5, none⟩ = some (.slice C4 vs4.length e4))) := Hd fun v' wx hg => ⟨⟨hg.cell (HKT.out _ hKb).2 (hcs 0 _ rfl), hg.cell (HKT.out _ hKb).2 (hcs 1 _ rfl), hg.cell (HKT.out _ hKb).2 (hcs 2 _ rfl), hg.cell (HKT.out _ hKb).2 (hcs 3 _ rfl), hg.cell (HKT.out _ hKb).2 (hcs 4 _ rfl), hg.cell (HKT.out _ hKb).2 (hcs 5 _ rfl)⟩, hg.cell (HKP.out _ hKb2).2 (hds 0 _ rfl), hg.cell (HKP.out _ hKb2).2 (hds 1 _ rfl), hg.cell (HKP.out _ hKb2).2 (hds 2 _ rfl), hg.cell (HKP.out _ hKb2).2 (hds 3 _ rfl), hg.cell (HKP.out _ hKb2).2 (hds 4 _ rfl), hg.cell (HKP.out _ hKb2).2 (hds 5 _ rfl)⟩
    have i1 : (0 : Int) ≤ (i : Int) := by omega
    have i2 : (i : Int) < (ts.length : Int) := by omega
    have i4 : (i : Int) < (qs.length : Int) := by omega
    clear hat hat2 hcs hds hrt hrp hKb hKb2 hi
    go_upto_region 4 with fail
    refine wp_region_held_drew (S := (fun w' => (w'.cell? ⟨tb, tq + i * 6, none⟩ = some (.int .i64 k3) ∧ w'.cell? ⟨tb, tq + i * 6 + 1, none⟩ = some (.string s3) ∧ w'.cell? ⟨tb, tq + i * 6 + 2, none⟩ = some (.int .i64 n3) ∧ w'.cell? ⟨tb, tq + i * 6 + 3, none⟩ = some (.slice A3 ps3.length c3) ∧ w'.cell? ⟨tb, tq + i * 6 + 4, none⟩ = some (.slice B3 fs3.length d3) ∧ w'.cell? ⟨tb, tq + i * 6 + 5, none⟩ = some (.slice C3 vs3.length e3)) ∧ (w'.cell? ⟨pb, po + i * 6, none⟩ = some (.int .i64 k4) ∧ w'.cell? ⟨pb, po + i * 6 + 1, none⟩ = some (.string s4) ∧ w'.cell? ⟨pb, po + i * 6 + 2, none⟩ = some (.int .i64 n4) ∧ w'.cell? ⟨pb, po + i * 6 + 3, none⟩ = some (.slice A4 ps4.length c4) ∧ w'.cell? ⟨pb, po + i * 6 + 4, none⟩ = some (.slice B4 fs4.length d4) ∧ w'.cell? ⟨pb, po + i * 6 + 5, none⟩ = some (.slice C4 vs4.length e4)))) (by kernel_rfl) (HSW.out _ _ HGR.out.drew) (fun hHeld => ?_)
    refine Plan.start [0, 1, 2, 3, 4, 5, 6, 7, 8] ?_
    iterate 9 (refine Plan.tk (so rfl) hHeld ?_; try simp only [Act.put, pz1, pz2, pz3])
    refine Plan.done ?_
    refine wpAnyH_ready (rs := [9]) (by kernel_rfl) (by simp) ?_
    refine AllReadyH.cons (sd (some 29) rfl) (fun Kx hK => ?_) AllReadyH.nil
    go_simp
    refine (KQ.out _ _ HGR.out.drew HRO.out.drew).mono ?_
    rintro e w5 ⟨v5, rfl, hO5, hg5⟩
    have HO5 := Hd hO5
    have HG5 := Hd hg5
    clear hO5 hg5
    go_wp2_with fail
    refine hK.out _ _ (HSW.out _ _ HG5.out) (fun hHeld => ?_)
    clear hK Kx
    try simp only [Act.put, pz1, pz2, pz3]
    refine Plan.start [10] ?_
    refine Plan.tk (so rfl) hHeld ?_
    try simp only [Act.put, pz1, pz2, pz3]
    refine Plan.done ?_
    refine wpAnyH_done (by kernel_rfl) ?_ _
    clear hHeld
    go_wp2_with fail
    refine ⟨⟨i + 1, by have := HN.out; omega, by first | rfl | rw [wr2], HO5.out, HG5.out⟩, ?_⟩
    first | exact HM.out | (rw [wr2]; exact HM.out)
   ·have t2 : decide ((i : Int) < (qs.length : Int)) = false := by simp; omega
    have HE : Hid (FdR B _ _ (G ++ Z.flatten)) := Hd (by have h := HRO.out; rw [List.take_of_length_le (by rw [HZL.out]; omega)] at h; exact h)
    clear hi
    go_wp2_with fail
    go_ret
    exact ⟨_, rfl, HE.out, HGR.out⟩
  ·have t1 : decide ((i : Int) < (ts.length : Int)) = false := by simp; omega
   have HE : Hid (FdR B _ _ (G ++ Z.flatten)) := Hd (by have h := HRO.out; rw [List.take_of_length_le (by rw [HZL.out]; omega)] at h; exact h)
   clear hi
   go_wp2_with fail
   go_ret
   exact ⟨_, rfl, HE.out, HGR.out⟩
end Go.Proofs.YtjbccjmpebgdjaaGreatDoor
