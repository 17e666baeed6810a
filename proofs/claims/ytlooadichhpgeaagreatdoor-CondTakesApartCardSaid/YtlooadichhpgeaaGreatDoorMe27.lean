import Derived.Test.YtlooadichhpgeaaGreatDoorMe25
namespace Go.Proofs.YtlooadichhpgeaaGreatDoor
open Go.RowKit
theorem parts1_no (t : Ty) : ∀ x ∈ parts1 t, x.k ≠ 15 := by
 refine Ty.ind (C := fun t => ∀ x ∈ parts1 t, x.k ≠ 15) (fun k t n ps fs vs hp _ _ x hx => ?_) t
 rw [parts1_mk] at hx
 by_cases h : k = 15
 ·rw [if_pos h] at hx
  unfold flatU at hx
  rw [List.mem_flatten] at hx
  obtain ⟨l, hl, hx⟩ := hx
  obtain ⟨p, hm, rfl⟩ := List.mem_map.1 hl
  exact hp p hm x hx
 ·rw [if_neg h, List.mem_singleton] at hx
  subst hx
  exact h
theorem flatU_no {l : List Ty} {x : Ty} (h : x ∈ flatU l) : x.k ≠ 15 := by
 unfold flatU at h
 rw [List.mem_flatten] at h
 obtain ⟨m, hm, hx⟩ := h
 obtain ⟨p, -, rfl⟩ := List.mem_map.1 hm
 exact parts1_no p x hx
theorem flatU_self : ∀ {l : List Ty}, (∀ x ∈ l, x.k ≠ 15) → flatU l = l
 | [], _ => rfl
 | a :: l, h => by
  obtain ⟨k, t, n, ps, fs, vs⟩ := a
  have hk : ¬ k = 15 := h _ List.mem_cons_self
  rw [flatU_cons, parts1_mk, if_neg hk, flatU_self fun x hx => h x (List.mem_cons_of_mem _ hx)]
  rfl
theorem asc_adj : ∀ {l : List Ty}, (∀ i (h : i + 1 < l.length), ordT (l[i]'(by omega)) l[i + 1] = -1) → Asc l
 | [], _ => List.Pairwise.nil
 | [a], _ => List.pairwise_singleton _ _
 | a :: b :: l, h => by
  have ih : Asc (b :: l) := asc_adj fun i hi => h (i + 1) (by simp at hi ⊢; omega)
  refine List.pairwise_cons.2 ⟨fun x hx => ?_, ih⟩
  have h0 : ordT a b = -1 := h 0 (by simp)
  rcases List.mem_cons.1 hx with rfl | hx
  ·exact h0
  ·exact ordT_trans h0 (List.rel_of_pairwise_cons ih hx)
theorem isUB_self {ps : List Ty} (h2 : 2 ≤ ps.length) : isUB ps = true ↔ unionT ps = .mk 15 emptyB 0 ps [] [] := by
 unfold isUB
 rw [Bool.and_eq_true, range_all, List.all_eq_true]
 constructor
 ·rintro ⟨h, hk⟩
  have hno : ∀ x ∈ ps, x.k ≠ 15 := fun x hx e => by
   obtain ⟨i, hi, rfl⟩ := List.getElem_of_mem hx
   have := h i hi
   unfold okU at this
   rw [List.getElem?_eq_getElem hi] at this
   simp [e] at this
  have hA : Asc ps := asc_adj fun i hi => by
   have := h (i + 1) hi
   unfold okU at this
   rw [List.getElem?_eq_getElem hi] at this
   simp only [List.getElem?_eq_getElem (show i < ps.length by omega), Bool.and_eq_true, decide_eq_true_eq] at this
   rcases ordT_bd (ps[i]'(by omega)) ps[i + 1] with e | e | e
   ·exact e
   ·have h3 := this.2; rw [e] at h3; omega
   ·have h3 := this.2; rw [e] at h3; omega
  have hf := flatU_self hno
  have hkp : keptU ps = ps := by
   unfold keptU
   rw [hf, List.filter_eq_self]
   exact hk
  unfold unionT
  rw [hkp, sortT_self hA]
  rcases ps with _ | ⟨x, _ | ⟨y, l⟩⟩
  ·simp at h2
  ·simp at h2
  ·rfl
 ·intro h
  unfold unionT at h
  have hL : sortT (keptU ps) = ps := by
   generalize hs : sortT (keptU ps) = L at h
   rcases L with _ | ⟨x, _ | ⟨y, l⟩⟩
   ·have := congrArg Ty.k h; exact absurd this (by show ¬ ((1 : Int) = 15); decide)
   ·have hx : x ∈ keptU ps := (mem_sortT x _).1 (by rw [hs]; exact List.mem_cons_self)
    unfold keptU at hx
    have h15 := flatU_no (List.mem_filter.1 hx).1
    have e : x = .mk 15 emptyB 0 ps [] [] := h
    rw [e] at h15
    exact absurd rfl h15
   ·have e : Ty.mk 15 emptyB 0 (x :: y :: l) [] [] = .mk 15 emptyB 0 ps [] [] := h
    injection e with _ _ _ e
  have hmem : ∀ x ∈ ps, x ∈ keptU ps := fun x hx => (mem_sortT x _).1 (by rw [hL]; exact hx)
  have hno : ∀ x ∈ ps, x.k ≠ 15 := fun x hx => flatU_no (List.mem_filter.1 (hmem x hx)).1
  have hf := flatU_self hno
  have hA : Asc ps := by rw [← hL]; exact asc_sortT _
  refine ⟨fun i hi => ?_, fun x hx => ?_⟩
  ·unfold okU
   rw [List.getElem?_eq_getElem hi]
   have h15 := hno _ (List.getElem_mem hi)
   rcases i with _ | i
   ·simpa using h15
   ·have := List.pairwise_iff_getElem.1 hA i (i + 1) (by omega) hi (by omega)
    simp only [List.getElem?_eq_getElem (show i < ps.length by omega), this]
    simpa using h15
  ·have h3 := (List.mem_filter.1 (hmem x hx)).2
   rw [hf] at h3
   exact h3
end Go.Proofs.YtlooadichhpgeaaGreatDoor
