import Derived.Test.YtlooadichhpgeaaGreatDoorMe18
import Derived.Test.YtlooadichhpgeaaGreatDoorMe28
import Derived.Test.YtlooadichhpgeaaGreatDoorMe29
namespace Go.Proofs.YtlooadichhpgeaaGreatDoor
open Go.RowKit
theorem ord_str (a b : ByteArray) : ordT (strT a) (strT b) = cmpB a b := by
 unfold strT
 rw [ord_steps]
 have e1 : cmpZ 10 10 = 0 := rfl
 have e2 : cmpZ 0 0 = 0 := rfl
 have e3 : lexC (flatL []) (flatL []) = 0 := rfl
 have e4 : lexC (flatF []) (flatF []) = 0 := rfl
 have e5 : lexC (flatV []) (flatV []) = 0 := rfl
 rw [e1, e2, e3, e4, e5, or2_zero, or2_zero, or2_zero, or2_zero]
 unfold or2
 split
 ·rfl
 ·rename_i h
  have h2 : cmpB a b = 0 := by simpa using h
  exact h2.symm
theorem keys_object {t : Ty} (h : formT t = true) (hk : t.k = 14) : prtsT (keysT t) = t.fs.map fun f => strT f.1 := by
 have hb := form_fields h hk
 obtain ⟨k, s, n, ps, fs, vs⟩ := t
 have hk' : k = 14 := hk
 subst hk'
 have e : keysT (.mk 14 s n ps fs vs) = unionT ((fs.map fun f => f.1).map strT) := by
  unfold keysT
  rw [keysN_mk, if_neg (by decide), if_pos rfl]
  rfl
 rw [e, parts_union, kept_strs, List.map_map]
 show sortT (fs.map fun f => strT f.1) = fs.map fun f => strT f.1
 refine sortT_self (asc_adj fun i hi => ?_)
 rw [List.length_map] at hi
 rw [List.getElem_map, List.getElem_map, ord_str, cmpB_lt]
 have := fieldsB_lt hb hi
 rw [less_iff, decide_eq_true_eq] at this
 exact this
theorem asc_names {t : Ty} (h : formT t = true) (hk : t.k = 14) {i j : Nat} (hi : i < t.fs.length) (hj : j < t.fs.length) (hij : t.fs[i].1 = t.fs[j].1) : i = j := by
 have hp := keys_object h hk
 have ha : Asc (t.fs.map fun f => strT f.1) := by
  rw [← hp]
  unfold keysT keysU
  rcases keysN t with _ | l
  ·show Asc (prtsT (tyK 8))
   exact List.pairwise_singleton _ _
  ·show Asc (prtsT (unionT (l.map strT)))
   rw [parts_union]
   exact asc_sortT _
 have hA := List.pairwise_iff_getElem.1 ha
 rcases Nat.lt_trichotomy i j with hlt | he | hgt
 ·have := hA i j (by simpa using hi) (by simpa using hj) hlt
  rw [List.getElem_map, List.getElem_map, ord_str, hij, cmpB_self] at this
  cases this
 ·exact he
 ·have := hA j i (by simpa using hj) (by simpa using hi) hgt
  rw [List.getElem_map, List.getElem_map, ord_str, hij, cmpB_self] at this
  cases this
theorem find_first {l : List (ByteArray × Int × Ty)} {i : Nat} (hi : i < l.length) (hu : ∀ j (hj : j < l.length), l[j].1 = l[i].1 → j = i) : l.find? (fun f => decide (f.1 = l[i].1)) = some l[i] := by
 rw [List.find?_eq_some_iff_getElem]
 refine ⟨by simp, i, hi, rfl, fun j hj => ?_⟩
 have hjl : j < l.length := by omega
 have : ¬ l[j].1 = l[i].1 := fun e => by have := hu j hjl e; omega
 simpa using this
theorem field_at {t : Ty} (h : formT t = true) (hk : t.k = 14) {i : Nat} (hi : i < t.fs.length) : fieldT t.fs t.fs[i].1 = heldT t.fs[i] := by
 unfold fieldT
 rw [find_first hi fun j hj e => asc_names h hk hj hi e]
theorem held_want {f : ByteArray × Int × Ty} : heldT f = if f.2.1 % 2 = 1 then unionT [f.2.2, tyK 4] else f.2.2 := by
 unfold heldT
 split
 ·exact union_same fun x => by simp [or_comm]
 ·rfl
theorem at_object {t : Ty} (hk : t.k = 14) (s : ByteArray) : atT t (strT s) = fieldT t.fs s := by
 rw [atT_eq, if_neg (by rw [strT_k]; decide), if_neg (by omega), if_neg (by rw [strT_k]; decide), if_neg (by omega), if_pos ⟨hk, strT_k s⟩]
 rfl
theorem field_none {fs : List (ByteArray × Int × Ty)} {s : ByteArray} (h : ∀ f ∈ fs, f.1 ≠ s) : fieldT fs s = tyK 2 := by
 unfold fieldT
 have e : fs.find? (fun f => decide (f.1 = s)) = none := by
  rw [List.find?_eq_none]
  intro f hf
  simpa using h f hf
 rw [e]
theorem at_parts {t k : Ty} (ht : formT t = true) (hk : formT k = true) (h1 : k.k ≠ 1) (h15 : k.k ≠ 15) : atT t k = unionT ((prtsT t).map fun p => atT p k) := by
 by_cases ht15 : t.k = 15
 ·rw [atT_eq, if_neg h1, if_neg (by omega), if_neg h15, if_pos ht15]
  unfold prtsT
  rw [if_pos ht15]
 ·by_cases ht1 : t.k = 1
  ·rw [atT_eq, if_neg h1, if_pos (.inr ht1)]
   unfold prtsT
   rw [if_neg ht15, if_pos ht1, form_kind ht ht1 (by decide) (by decide)]
   rfl
  ·unfold prtsT
   rw [if_neg ht15, if_neg ht1]
   exact (union_self (form_at t k ht hk)).symm
theorem form_parts {t : Ty} (h : formT t = true) : ∀ p ∈ prtsT t, formT p = true := by
 intro p hp
 unfold prtsT at hp
 split at hp
 ·exact form_ps h p hp
 ·split at hp
  ·cases hp
  ·rw [List.mem_singleton] at hp; subst hp; exact h
theorem at_union {a b u : Ty} (k : Ty) (hu : u = unionT [a, b]) (ha : formT a = true) (hb : formT b = true) (hin : ∀ p, p ∈ prtsT a ∨ p ∈ prtsT b → p ∈ prtsT u) (ha3 : a.k ≠ 3) (hb3 : b.k ≠ 3) : formT k = true → atT u k = unionT [atT a k, atT b k] := by
 have hl : ∀ x ∈ [a, b], formT x = true := fun x hx => by
  simp only [List.mem_cons, List.not_mem_nil, or_false] at hx
  rcases hx with rfl | rfl
  ·exact ha
  ·exact hb
 have hfu : formT u = true := by rw [hu]; exact form_union hl
 have p1 : ∀ {t : Ty}, formT t = true → ∀ x, x ∈ parts1 t → x ∈ prtsT t ∨ x.k = 1 := fun {t} ht x hx => by
  by_cases h15 : t.k = 15
  ·left
   have e := union_of_parts ht h15
   rw [parts1_15 h15] at hx
   unfold prtsT
   rw [if_pos h15]
   have hnf : ∀ y ∈ t.ps, y.k ≠ 15 := fun y hy => by
    have h2 : y ∈ prtsT t := by unfold prtsT; rw [if_pos h15]; exact hy
    rw [← e] at h2
    exact kept_no15 (mem_parts_union.1 h2)
   rw [flat_self hnf] at hx
   exact hx
  ·rw [parts1_one h15, List.mem_singleton] at hx
   subst hx
   by_cases h1 : x.k = 1
   ·exact .inr h1
   ·left; unfold prtsT; rw [if_neg h15, if_neg h1]; simp
 have hiff : ∀ p, p ∈ prtsT u ↔ p ∈ prtsT a ++ prtsT b := fun p => by
  rw [List.mem_append]
  refine ⟨fun h => ?_, hin p⟩
  rw [hu, mem_parts_union] at h
  have h1 := kept_no1 h
  obtain ⟨q, hq, hx⟩ := mem_flatU.1 (mem_keptU.1 h).1
  simp only [List.mem_cons, List.not_mem_nil, or_false] at hq
  rcases hq with rfl | rfl
  ·rcases p1 ha p hx with h2 | h2
   ·exact .inl h2
   ·exact absurd h2 h1
  ·rcases p1 hb p hx with h2 | h2
   ·exact .inr h2
   ·exact absurd h2 h1
 have hfa := plainT_flat (l := (prtsT a)) (form_parts ha)
 refine Ty.ind (C := fun k => formT k = true → atT u k = unionT [atT a k, atT b k]) (fun kk s n ps fs vs hp _ _ hk => ?_) k
 by_cases h1 : kk = 1
 ·have e : ∀ t, atT t (.mk kk s n ps fs vs) = .mk kk s n ps fs vs := fun t => by rw [atT_eq, if_pos (show Ty.k (.mk kk s n ps fs vs) = 1 from h1)]
  rw [e, e, e]
  have : unionT [Ty.mk kk s n ps fs vs, Ty.mk kk s n ps fs vs] = unionT [Ty.mk kk s n ps fs vs] := union_same fun x => by simp
  rw [this, union_self hk]
 by_cases h15 : kk = 15
 ·have hps := form_ps hk
  by_cases hu1 : u.k = 3 ∨ u.k = 1
  · -- u is any or never: then both are never
   have e2 : ∀ {t : Ty}, formT t = true → t.k ≠ 3 → (∀ p, p ∈ prtsT t → p ∈ prtsT u) → t.k = 1 := fun {t} ht h3 hi => by
    rcases hu1 with h | h
    ·have hpu : prtsT u = [u] := by unfold prtsT; rw [if_neg (by omega), if_neg (by omega)]
     by_cases ht1 : t.k = 1
     ·exact ht1
     ·by_cases ht15 : t.k = 15
      ·exfalso
       obtain ⟨q, s', n', qs, f', v'⟩ := t
       have hq : q = 15 := ht15
       subst hq
       obtain ⟨h2, _, _, _, _, hu'⟩ := form_15 ht
       have hne := union_of_parts ht rfl
       have hA : Asc qs := by
        have := parts_union (Ty.mk 15 s' n' qs f' v').ps
        rw [hne] at this
        have e : prtsT (.mk 15 s' n' qs f' v') = qs := rfl
        rw [e] at this; rw [this]; exact asc_sortT _
       have hq0 : 0 < qs.length := by omega
       have m0 := hi qs[0] (show qs[0] ∈ qs from List.getElem_mem hq0)
       have hq1 : 1 < qs.length := by omega
       have m1 := hi qs[1] (show qs[1] ∈ qs from List.getElem_mem hq1)
       rw [hpu, List.mem_singleton] at m0 m1
       have := List.pairwise_iff_getElem.1 hA 0 1 (by omega) (by omega) (by omega)
       rw [m0, m1, ordT_zero.2 rfl] at this
       cases this
      ·have := hi t (by unfold prtsT; rw [if_neg ht15, if_neg ht1]; simp)
       rw [hpu, List.mem_singleton] at this
       exact absurd (this ▸ h) h3
    ·have hpu : prtsT u = [] := by unfold prtsT; rw [if_neg (by omega), if_pos h]
     by_cases ht1 : t.k = 1
     ·exact ht1
     ·by_cases ht15 : t.k = 15
      ·exfalso
       obtain ⟨q, s', n', qs, f', v'⟩ := t
       have hq : q = 15 := ht15
       subst hq
       obtain ⟨h2, _⟩ := form_15 ht
       have hq0 : 0 < qs.length := by omega
       have m0 := hi qs[0] (show qs[0] ∈ qs from List.getElem_mem hq0)
       rw [hpu] at m0; cases m0
      ·have := hi t (by unfold prtsT; rw [if_neg ht15, if_neg ht1]; simp)
       rw [hpu] at this; cases this
   have a1 := e2 ha ha3 fun p hp => hin p (.inl hp)
   have b1 := e2 hb hb3 fun p hp => hin p (.inr hp)
   have ea := form_kind ha a1 (by decide) (by decide)
   have eb := form_kind hb b1 (by decide) (by decide)
   have e11 : unionT [tyK 1, tyK 1] = tyK 1 := (union_same (l' := [tyK 1]) fun x => by simp).trans (union_self (form_tyK (by decide) (by decide)))
   have eu : u = tyK 1 := by rw [hu, ea, eb, e11]
   have e : atT (tyK 1) (.mk kk s n ps fs vs) = tyK 1 := by
    rw [atT_eq, if_neg (show ¬ Ty.k (.mk kk s n ps fs vs) = 1 from h1), if_pos (.inr rfl)]
   rw [eu, ea, eb, e, e11]
  · -- the general case, by the key's parts
   have e : ∀ {t : Ty}, formT t = true → t.k ≠ 3 → atT t (.mk kk s n ps fs vs) = unionT (ps.map (atT t)) := fun {t} ht h3 => by
    rw [atT_eq, if_neg (show ¬ Ty.k (.mk kk s n ps fs vs) = 1 from h1)]
    by_cases ht1 : t.k = 1
    ·rw [if_pos (.inr ht1), form_kind ht ht1 (by decide) (by decide)]
     have : unionT (ps.map (atT (tyK 1))) = tyK 1 := by
      have hk0 : keptU (ps.map (atT (tyK 1))) = [] := by
       rcases hq : keptU (ps.map (atT (tyK 1))) with _ | ⟨c, r⟩
       ·rfl
       ·have hc : c ∈ keptU (ps.map (atT (tyK 1))) := by rw [hq]; simp
        exfalso
        have hc1 := kept_no1 hc
        obtain ⟨q, hq, hx⟩ := mem_flatU.1 (mem_keptU.1 hc).1
        obtain ⟨p, hp, rfl⟩ := List.mem_map.1 hq
        rw [atT_eq] at hx
        by_cases hp1 : p.k = 1
        ·rw [if_pos hp1, parts1_one (by omega), List.mem_singleton] at hx
         subst hx; exact hc1 hp1
        ·rw [if_neg hp1, if_pos (.inr rfl), parts1_one (by decide), List.mem_singleton] at hx
         subst hx; exact hc1 rfl
      unfold unionT; rw [hk0]; rfl
     exact this.symm
    ·rw [if_neg (by omega), if_pos (show Ty.k (.mk kk s n ps fs vs) = 15 from h15)]
     rfl
   have hu3 : u.k ≠ 3 := fun h => hu1 (.inl h)
   rw [e hfu hu3, e ha ha3, e hb hb3]
   have hfm : ∀ {t : Ty}, formT t = true → ∀ x ∈ ps.map (atT t), formT x = true := fun {t} ht x hx => by
    obtain ⟨p, hp, rfl⟩ := List.mem_map.1 hx
    exact form_at t p ht (hps p hp)
   rw [union_two _ _ (plainT_flat (hfm ha)) (plainT_flat (hfm hb))]
   have e3 : ps.map (atT u) = (ps.map fun p => [atT a p, atT b p]).map unionT := by
    rw [List.map_map]
    exact List.map_congr_left fun p hp' => hp p hp' (hps p hp')
   rw [e3, union_union]
   ·refine union_same fun x => ?_
    simp only [List.mem_flatten, List.mem_map, List.mem_append]
    constructor
    ·rintro ⟨l, ⟨p, hp, rfl⟩, hx⟩
     simp only [List.mem_cons, List.not_mem_nil, or_false] at hx
     rcases hx with rfl | rfl
     ·exact .inl ⟨p, hp, rfl⟩
     ·exact .inr ⟨p, hp, rfl⟩
    ·rintro (⟨p, hp, rfl⟩ | ⟨p, hp, rfl⟩)
     ·exact ⟨_, ⟨p, hp, rfl⟩, by simp⟩
     ·exact ⟨_, ⟨p, hp, rfl⟩, by simp⟩
   ·intro l hl
    obtain ⟨p, hp, rfl⟩ := List.mem_map.1 hl
    refine plainT_flat fun x hx => ?_
    simp only [List.mem_cons, List.not_mem_nil, or_false] at hx
    rcases hx with rfl | rfl
    ·exact form_at a p ha (hps p hp)
    ·exact form_at b p hb (hps p hp)
 ·have hk1 : Ty.k (.mk kk s n ps fs vs) ≠ 1 := h1
  have hk15 : Ty.k (.mk kk s n ps fs vs) ≠ 15 := h15
  rw [at_parts hfu hk hk1 hk15, at_parts ha hk hk1 hk15, at_parts hb hk hk1 hk15]
  have hfm : ∀ {t : Ty}, formT t = true → ∀ x ∈ (prtsT t).map (fun p => atT p (.mk kk s n ps fs vs)), formT x = true := fun {t} ht x hx => by
   obtain ⟨p, hp, rfl⟩ := List.mem_map.1 hx
   exact form_at p _ (form_parts ht p hp) hk
  rw [union_two _ _ (plainT_flat (hfm ha)) (plainT_flat (hfm hb))]
  refine union_same fun x => ?_
  rw [← List.map_append, List.mem_map, List.mem_map]
  constructor
  ·rintro ⟨p, hp, rfl⟩; exact ⟨p, (hiff p).1 hp, rfl⟩
  ·rintro ⟨p, hp, rfl⟩; exact ⟨p, (hiff p).2 hp, rfl⟩
theorem part_self {l : List Ty} (h : ∀ x ∈ l, formT x = true) {p : Ty} (hp : p ∈ prtsT (unionT l)) : unionT [p] = p := union_self (form_parts (form_union h) p hp)
theorem list_lit2 {K : Nat → Prop} {W : World} {t q : Ty} {c0 c1 c2 c3 c4 c5 d0 d1 d2 d3 d4 d5 : Value} {g : Nat} (ht : RepT K W t [c0, c1, c2, c3, c4, c5]) (hq : RepT K W q [d0, d1, d2, d3, d4, d5]) (hh : W.heap[g]? = some (.cells #[c0, c1, c2, c3, c4, c5, d0, d1, d2, d3, d4, d5] 26 (0, 0))) :
  ListT (fun b => K b ∨ b = g) W [t, q] (some ⟨g, 0, none⟩) 2 := by
 refine ⟨g, 0, ⟨by simp, by simp, (fun h => by cases h), fun _ => ⟨rfl, .inr rfl⟩⟩, fun i hi => ?_⟩
 have hi2 : i = 0 ∨ i = 1 := by simp at hi; omega
 rcases hi2 with rfl | rfl
 ·refine ⟨_, fun j u hj => ?_, ht.weak fun _ h => .inl h⟩
  rw [Lib.cell_of_heap hh]
  rcases j with _ | _ | _ | _ | _ | _ | j
  all_goals first | exact hj | (simp at hj)
 ·refine ⟨_, fun j u hj => ?_, hq.weak fun _ h => .inl h⟩
  rw [Lib.cell_of_heap hh]
  rcases j with _ | _ | _ | _ | _ | _ | j
  all_goals first | exact hj | (simp at hj)
theorem uni2_ref {K : Nat → Prop} {W : World} {t q : Ty} {c0 c1 c2 c3 c4 c5 d0 d1 d2 d3 d4 d5 : Value} {g : Nat} (ht : RepT K W t [c0, c1, c2, c3, c4, c5]) (hq : RepT K W q [d0, d1, d2, d3, d4, d5]) (hh : W.heap[g]? = some (.cells #[c0, c1, c2, c3, c4, c5, d0, d1, d2, d3, d4, d5] 26 (0, 0))) (hft : formT t = true) (hfq : formT q = true) (hct : cntT t ≤ 1000000) (hcq : cntT q ≤ 1000000) :
  Calls Tryz.prog 13 #[.slice (some ⟨g, 0, none⟩) 2 2] W fun e w' => ∃ rs, e = .returned (.agg rs.toArray) ∧ RepT (fun b => K b ∨ b = g ∨ W.heap.size ≤ b) w' (unionT [t, q]) rs ∧ Below W.heap.size W w' := by
 have hl := (list_lit2 ht hq hh).both
 have hfl := flatU_cnt [t, q]
 have hcl : cntL [t, q] ≤ 2000000 := by rw [cntL_cons, cntL_cons, cntL_nil]; omega
 have hall : [t, q].all formT = true := by simp [hft, hfq]
 refine (union_ref hl (fun b h => h.2) (fun x hx => by have h1 := names_cnt x; have h2 := hfl.2 x hx; omega) (by have := hfl.1; omega)).mono ?_
 rintro e w' ⟨rs, rfl, hr, hb⟩
 rw [unionR (plain_form hall)] at hr
 exact ⟨rs, rfl, hr.weak fun b h => by
  rcases h with ⟨h | h, -⟩ | h
  ·exact .inl h
  ·exact .inr (.inl h)
  ·exact .inr (.inr h), hb⟩
theorem uni1_ref {K : Nat → Prop} {W : World} {t : Ty} {c0 c1 c2 c3 c4 c5 : Value} {g : Nat} (ht : RepT K W t [c0, c1, c2, c3, c4, c5]) (hlo : ∀ b, K b → b < W.heap.size) (hh : W.heap[g]? = some (.cells #[c0, c1, c2, c3, c4, c5] 26 (0, 0))) (hft : formT t = true) (hct : cntT t ≤ 10000) :
  Calls Tryz.prog 13 #[.slice (some ⟨g, 0, none⟩) 1 1] W fun e w' => ∃ rs, e = .returned (.agg rs.toArray) ∧ RepT (fun b => K b ∨ b = g ∨ W.heap.size ≤ b) w' (unionT [t]) rs ∧ Below W.heap.size W w' := by
 have hl := (list_lit ht (Below.refl _ _) hlo hh).both
 have hfl := flatU_cnt [t]
 have hcl : cntL [t] ≤ 10000 := by rw [cntL_cons, cntL_nil]; omega
 have hall : [t].all formT = true := by simp [hft]
 refine (union_ref hl (fun b h => h.2) (fun x hx => by have h1 := names_cnt x; have h2 := hfl.2 x hx; omega) (by have := hfl.1; omega)).mono ?_
 rintro e w' ⟨rs, rfl, hr, hb⟩
 rw [unionR (plain_form hall)] at hr
 exact ⟨rs, rfl, hr.weak fun b h => by
  rcases h with ⟨h | h, -⟩ | h
  ·exact .inl h
  ·exact .inr (.inl h)
  ·exact .inr (.inr h), hb⟩
def InsP (p t : Ty) : Prop := GatP 57 (gathT p t) p t
set_option maxRecDepth 100000 in
set_option maxHeartbeats 16000000 in
theorem hold_comp {p t : Ty} (hinf : infT p = true) (hcomp : isComp p.k = true) (ht : ¬ t.k = 15) (ih : InsP p t) : HoldP p t := by
 intro K K' w0 w m F G b o b' o' hT hP hKT hKP hG hB hfp hft hct hlen
 obtain ⟨k, s, n, ps, fs, vs⟩ := p
 obtain ⟨k2, s2, n2, ps2, fs2, vs2⟩ := t
 obtain ⟨A, c, A', c', A'', c'', ⟨x0, x1, x2, x3, x4, x5⟩, -, hLp, hLf, hLv⟩ := hP.six
 obtain ⟨A2, c2, B2, d2, C2, e2, ⟨y0, y1, y2, y3, y4, y5⟩, -, hLt, hLg, hLu⟩ := hT.six
 have ki := inf_any _ K' w b' o' hP
 rw [hinf] at ki
 have hcall := ih K K' w0 w m F G b o b' o' hT hP hKT hKP hG hB hfp hft hct hlen
 have KI := Lib.hid ki
 have KC := Lib.hid hcall
 have b15 : (k2 == 15) = false := beq_eq_false_iff_ne.2 ht
 have g15 : decide (k2 = 15) = false := decide_eq_false ht
 have hcc : k = 11 ∨ k = 12 ∨ k = 17 ∨ k = 13 ∨ k = 14 := by
  have h : isComp k = true := hcomp
  unfold isComp at h
  simp only [Bool.or_eq_true, beq_iff_eq] at h
  omega
 clear hT hP hKT hKP hG hB hfp hft hct hlen ki hcall hinf hcomp ih hLp hLf hLv hLt hLg hLu x1 x2 x3 x4 x5 y1 y2 y3 y4 y5
 generalize gathT (.mk k s n ps fs vs) (.mk k2 s2 n2 ps2 fs2 vs2) = gg at KC ⊢
 rcases hcc with rfl | rfl | rfl | rfl | rfl
 ·go_enter Tryz.func40, Tryz.ntmps40
  go_wp2_with fail
  refine KI.out.mono ?_
  rintro e w' ⟨rfl, hw⟩; obtain rfl := hw.symm
  go_wp2_with fail
  refine KC.out.mono ?_
  rintro e w' ⟨rfl, hm⟩
  have HM := Lib.hid hm
  clear hm
  go_wp2_with fail
  exact bodyPost_end (v := .tuple #[]) (by simp [results, Tryz.results40, go_sem]) rfl ⟨rfl, HM.out⟩
 ·go_enter Tryz.func40, Tryz.ntmps40
  go_wp2_with fail
  refine KI.out.mono ?_
  rintro e w' ⟨rfl, hw⟩; obtain rfl := hw.symm
  go_wp2_with fail
  refine KC.out.mono ?_
  rintro e w' ⟨rfl, hm⟩
  have HM := Lib.hid hm
  clear hm
  go_wp2_with fail
  exact bodyPost_end (v := .tuple #[]) (by simp [results, Tryz.results40, go_sem]) rfl ⟨rfl, HM.out⟩
 ·go_enter Tryz.func40, Tryz.ntmps40
  go_wp2_with fail
  refine KI.out.mono ?_
  rintro e w' ⟨rfl, hw⟩; obtain rfl := hw.symm
  go_wp2_with fail
  refine KC.out.mono ?_
  rintro e w' ⟨rfl, hm⟩
  have HM := Lib.hid hm
  clear hm
  go_wp2_with fail
  exact bodyPost_end (v := .tuple #[]) (by simp [results, Tryz.results40, go_sem]) rfl ⟨rfl, HM.out⟩
 ·go_enter Tryz.func40, Tryz.ntmps40
  go_wp2_with fail
  refine KI.out.mono ?_
  rintro e w' ⟨rfl, hw⟩; obtain rfl := hw.symm
  go_wp2_with fail
  refine KC.out.mono ?_
  rintro e w' ⟨rfl, hm⟩
  have HM := Lib.hid hm
  clear hm
  go_wp2_with fail
  exact bodyPost_end (v := .tuple #[]) (by simp [results, Tryz.results40, go_sem]) rfl ⟨rfl, HM.out⟩
 ·go_enter Tryz.func40, Tryz.ntmps40
  go_wp2_with fail
  refine KI.out.mono ?_
  rintro e w' ⟨rfl, hw⟩; obtain rfl := hw.symm
  go_wp2_with fail
  refine KC.out.mono ?_
  rintro e w' ⟨rfl, hm⟩
  have HM := Lib.hid hm
  clear hm
  go_wp2_with fail
  exact bodyPost_end (v := .tuple #[]) (by simp [results, Tryz.results40, go_sem]) rfl ⟨rfl, HM.out⟩
theorem zip_part {α β γ : Type} (g : α → β → List γ) {l : List α} {l' : List β} {i : Nat} (h : i < l.length) (h' : i < l'.length) : ((List.zipWith g l l').take (i + 1)).flatten = ((List.zipWith g l l').take i).flatten ++ g l[i] l'[i] := by
 rw [List.take_succ_eq_append_getElem (by simp; omega), List.flatten_append, List.getElem_zipWith]
 simp
theorem take_flat_le {β : Type} (l : List (List β)) (i : Nat) : (l.take i).flatten.length ≤ l.flatten.length := by
 conv => rhs; rw [← List.take_append_drop i l, List.flatten_append, List.length_append]
 omega
theorem HoldMid.drew {w0 w wr : World} {m : Nat} {F : ByteArray → Option Rw} {G : List (ByteArray × Ty)} (h : HoldMid w0 w m F G wr) : HoldMid w0 w m F G wr.drew := by
 obtain ⟨F', hG, hb, hf⟩ := h
 exact ⟨F', hG.later (Below.refl _ _).drew, hb.trans (ButG.of_below (O := fun _ => False) (Below.refl _ _).drew) (fun _ h => h.elim), hf⟩
set_option maxRecDepth 100000 in
set_option maxHeartbeats 16000000 in
theorem parts_same {p t : Ty} (hl : t.ps.length = p.ps.length) (h0 : 0 < p.ps.length) (ih : ∀ q u, q ∈ p.ps → u ∈ t.ps → HoldP q u) : GatP 74 (List.zipWith gathT p.ps t.ps).flatten p t := by
 intro K K' w0 w m F G b o b' o' hT hP hKT hKP hG hB hfp hft hct hlen
 obtain ⟨k, s, n, ps, fs, vs⟩ := p
 obtain ⟨k2, s2, n2, ps2, fs2, vs2⟩ := t
 simp only [Ty.ps] at hl h0 ih hlen ⊢
 obtain ⟨A, c, A', c', A'', c'', ⟨x0, x1, x2, x3, x4, x5⟩, -, hLp, hLf, hLv⟩ := hP.six
 obtain ⟨A2, c2, B2, d2, C2, e2, ⟨y0, y1, y2, y3, y4, y5⟩, -, hLt, hLg, hLu⟩ := hT.six
 have hll := hLp.short
 obtain ⟨pb, po, hA, hKb, hat⟩ := hLp.at (by omega)
 subst hA
 obtain ⟨qb, qo, hA2, hKb2, hat2⟩ := hLt.at (by omega)
 subst hA2
 rw [hl] at y3
 have hnb := (hKT b (.inr rfl)).2
 have hnb' := (hKP b' (.inr rfl)).2
 have HSW : Hid (∀ wx G', HoldMid w0 w m F G' wx → (wx.cell? ⟨b', o', none⟩ = some (.int .i64 k) ∧ wx.cell? ⟨b', o' + 3, none⟩ = some (.slice (some ⟨pb, po, none⟩) ps.length c)) ∧ (wx.cell? ⟨b, o, none⟩ = some (.int .i64 k2) ∧ wx.cell? ⟨b, o + 3, none⟩ = some (.slice (some ⟨qb, qo, none⟩) ps.length c2))) := Lib.hid fun wx G' hm => by
  obtain ⟨F', _, hb, _⟩ := hm
  exact ⟨⟨but_cell hb hnb' x0, but_cell hb hnb' x3⟩, but_cell hb hnb y0, but_cell hb hnb y3⟩
 have KQ : Hid (∀ i (hi : i < ps.length) wr, HoldMid w0 w m F (G ++ ((List.zipWith gathT ps ps2).take i).flatten) wr → Calls Tryz.prog 40 #[.map (some m), .pointer (some ⟨qb, qo + i * 6, none⟩), .pointer (some ⟨pb, po + i * 6, none⟩)] wr fun e w' => e = .returned (.tuple #[]) ∧ HoldMid w0 w m F (G ++ ((List.zipWith gathT ps ps2).take (i + 1)).flatten) w') := Lib.hid fun i hi wr hm => by
  have h3 := take_flat_le (List.zipWith gathT ps ps2) (i + 1)
  have hi2 : i < ps2.length := by omega
  rw [zip_part gathT hi hi2] at h3 ⊢
  rw [← List.append_assoc]
  rw [List.length_append] at h3
  exact GatP.go (ih _ _ (List.getElem_mem hi) (List.getElem_mem hi2)) hm (hat2 i hi2) (hat i hi) (fun x hx => hKT x (hx.elim .inl fun e => .inl (by rw [e]; exact hKb2))) (fun x hx => hKP x (hx.elim .inl fun e => .inl (by rw [e]; exact hKb))) hB (form_ps hfp _ (List.getElem_mem hi)) (form_ps hft _ (List.getElem_mem hi2)) (by have h1 := cntL_mem (List.getElem_mem hi); have h2 := cnt_ps (.mk k s n ps fs vs); have h3 := cntL_mem (List.getElem_mem hi2); have h4 := cnt_ps (.mk k2 s2 n2 ps2 fs2 vs2); simp only [Ty.ps] at h2 h4; omega) (by rw [List.length_append]; omega)
 have HST2 : Hid (HoldMid w0 w m F (G ++ ((List.zipWith gathT ps ps2).take 0).flatten) w.drew) := Lib.hid (by rw [List.take_zero, List.flatten_nil, List.append_nil]; exact (HoldMid.start hG).drew)
 have HST := Lib.hid (HoldMid.start hG).drew
 have HGZ : Hid ((List.zipWith gathT ps ps2).length ≤ ps.length) := Lib.hid (by rw [List.length_zipWith]; omega)
 clear hT hP hKT hKP hG hB hfp hft hct hlen hLp hLf hLv hLt hLg hLu hat hat2 hKb hKb2 ih hnb hnb' x0 x1 x2 x3 x4 x5 y0 y1 y2 y3 y4 y5
 generalize (List.zipWith gathT ps ps2) = gz at KQ HST2 HGZ ⊢
 clear hl
 go_enter Tryz.func74, Tryz.ntmps74
 go_upto_region 0 with fail
 refine wp_region_held_drew (S := (fun w' => (w'.cell? ⟨b', o', none⟩ = some (.int .i64 k) ∧ w'.cell? ⟨b', o' + 3, none⟩ = some (.slice (some ⟨pb, po, none⟩) ps.length c)) ∧ (w'.cell? ⟨b, o, none⟩ = some (.int .i64 k2) ∧ w'.cell? ⟨b, o + 3, none⟩ = some (.slice (some ⟨qb, qo, none⟩) ps.length c2)))) (by kernel_rfl) (HSW.out _ _ HST.out) (fun hHeld => ?_)
 refine Plan.start [0, 1, 2, 3, 4, 5, 6, 7, 8, 9, 10] ?_
 iterate 11 ((refine Plan.take (v := ?_) (so rfl) (by kernel_rfl) (by kernel_rfl) (by kernel_rfl) (fun _ _ _ h => h) (Or.inl ⟨by rfl, ?_⟩) hHeld ?_; rotate_left; focus (intro w' hSw; (try dsimp only at hSw); go_simp; try with_reducible rfl)); try simp only [Act.put, List.setIfInBounds_toArray, List.set_cons_zero, List.set_cons_succ])
 refine Plan.done ?_
 refine wpAnyH_done (by kernel_rfl) ?_ _
 clear hHeld
 obtain ⟨⟨z0, z3⟩, -⟩ := HSW.out _ _ HST.out
 go_wp2_with fail
 clear z0 z3
 go_loopw [23] (fun v wr => ∃ (i : Nat), i ≤ ps.length ∧ v = .int .i64 i ∧ HoldMid w0 w m F (G ++ (gz.take i).flatten) wr) (fun v _ => ps.length - (intOf v).toNat)
 case atStart => exact ⟨0, by omega, rfl, HST2.out⟩
 case round =>
  obtain ⟨i, hi, rfl, hm⟩ := hrel
  have HMi := Lib.hid hm
  clear hm
  by_cases hin : i < ps.length
  ·have t1 : decide ((i : Int) < (ps.length : Int)) = true := by simp; omega
   have wr2 : wrap64 ((i : Int) + 1) = ((i + 1 : Nat) : Int) := wrap_one (by omega)
   have HM := Lib.hid (measI hin)
   have HIn : Hid (i + 1 ≤ ps.length) := Lib.hid hin
   have HN : Hid (i < ps.length) := Lib.hid hin
   have i1 : (0 : Int) ≤ (i : Int) := by omega
   have i2 : (i : Int) < (ps.length : Int) := by omega
   go_upto_region 4 with fail
   have HMd := Lib.hid HMi.out.drew
   refine wp_region_held_drew (S := (fun w' => (w'.cell? ⟨b', o', none⟩ = some (.int .i64 k) ∧ w'.cell? ⟨b', o' + 3, none⟩ = some (.slice (some ⟨pb, po, none⟩) ps.length c)) ∧ (w'.cell? ⟨b, o, none⟩ = some (.int .i64 k2) ∧ w'.cell? ⟨b, o + 3, none⟩ = some (.slice (some ⟨qb, qo, none⟩) ps.length c2)))) (by kernel_rfl) (HSW.out _ _ HMd.out) (fun hHeld => ?_)
   refine Plan.start [0, 1, 2, 3, 4, 5, 6, 7, 8, 9, 10, 11, 12] ?_
   iterate 13 ((refine Plan.take (v := ?_) (so rfl) (by kernel_rfl) (by kernel_rfl) (by kernel_rfl) (fun _ _ _ h => h) (Or.inl ⟨by rfl, ?_⟩) hHeld ?_; rotate_left; focus (intro w' hSw; (try dsimp only at hSw); go_simp; try with_reducible rfl)); try simp only [Act.put, List.setIfInBounds_toArray, List.set_cons_zero, List.set_cons_succ])
   refine Plan.done ?_
   refine wpAnyH_ready (rs := [13]) (by kernel_rfl) (by simp) ?_
   refine AllReadyH.cons (sd (some 39) rfl) (fun Kx hK => ?_) AllReadyH.nil
   go_simp
   refine (KQ.out i HN.out _ HMd.out).mono ?_
   rintro e w9 ⟨rfl, hm2⟩
   have HM2 := Lib.hid hm2
   clear hm2
   go_wp2_with fail
   refine hK.out _ _ (HSW.out _ _ HM2.out) (fun hHeld => ?_)
   clear hK Kx
   try simp only [Act.put, List.setIfInBounds_toArray, List.set_cons_zero, List.set_cons_succ]
   refine wpAnyH_done (by kernel_rfl) ?_ _
   clear hHeld
   go_wp2_with fail
   refine ⟨⟨i + 1, HIn.out, by first | rfl | rw [wr2], HM2.out⟩, ?_⟩
   first | exact HM.out | (rw [wr2]; exact HM.out)
  ·have t1 : decide ((i : Int) < (ps.length : Int)) = false := by simp; omega
   have HE : Hid (HoldMid w0 w m F (G ++ gz.flatten) _) := Lib.hid (by have h := HMi.out; rw [List.take_of_length_le (by have := HGZ.out; omega)] at h; exact h)
   clear hi
   go_wp2_with fail
   exact bodyPost_end (v := .tuple #[]) (by simp [results, Tryz.results74, go_sem]) rfl ⟨rfl, HE.out⟩
structure FPre (k : Int) (t : ByteArray) (n : Int) (ps : List Ty) (fs : List (ByteArray × Int × Ty)) (vs : List (ByteArray × List Ty)) (K : Nat → Prop) (w : World) (A : Option Addr) (c : Nat) (A' : Option Addr) (c' : Nat) (A'' : Option Addr) (c'' : Nat) (w1 : World) : Prop where
 HXC : Hid (∀ wx, Below w1.heap.size w1 wx → wx.cell? ⟨w.heap.size, 0, none⟩ = some (.int .i64 k) ∧ wx.cell? ⟨w.heap.size, 1, none⟩ = some (.string t) ∧ wx.cell? ⟨w.heap.size, 2, none⟩ = some (.int .i64 n) ∧ wx.cell? ⟨w.heap.size, 3, none⟩ = some (.slice A ps.length c) ∧ wx.cell? ⟨w.heap.size, 4, none⟩ = some (.slice A' fs.length c') ∧ wx.cell? ⟨w.heap.size, 5, none⟩ = some (.slice A'' vs.length c''))
 KAll : Hid (∀ wx, Below w1.heap.size w1 wx → Calls Tryz.prog 30 #[.slice A ps.length c] wx fun e w' => e = .returned (.bool (ps.all formT)) ∧ Below wx.heap.size wx w')
 KPl : Hid (∀ wx, Calls Tryz.prog 31 #[.agg #[.int .i64 k, .string t, .int .i64 n, .slice A ps.length c, .slice A' fs.length c', .slice A'' vs.length c'']] wx fun e w' => e = .returned (.bool (t.toList == [] && n == 0)) ∧ Below wx.heap.size wx w')
 KNm : Hid (∀ wx, Calls Tryz.prog 9 #[.string t] wx fun e w' => e = .returned (.bool (nameT t)) ∧ Below wx.heap.size wx w')
 KOb : Hid (∀ wx, Below w1.heap.size w1 wx → Calls Tryz.prog 33 #[.slice A' fs.length c'] wx fun e w' => e = .returned (.bool (fieldsB (fieldsT fs formT))) ∧ Below wx.heap.size wx w')
 KBi : Hid (∀ wx, Below w1.heap.size w1 wx → Calls Tryz.prog 32 #[.slice A'' vs.length c''] wx fun e w' => e = .returned (.bool (varsB (varsT vs formT))) ∧ Below wx.heap.size wx w')
 KOv : Hid (∀ wx, Below w1.heap.size w1 wx → Calls Tryz.prog 34 #[.slice A ps.length c] wx fun e w' => e = .returned (.bool (overT ps)) ∧ w' = wx)
 HREP : Hid (RepT K w (.mk k t n ps fs vs) [.int .i64 k, .string t, .int .i64 n, .slice A ps.length c, .slice A' fs.length c', .slice A'' vs.length c''])
 HCN : Hid (1 + (cntL ps + (cntF fs + cntV vs)) ≤ 1000000)
 HBZ : Hid (Below w.heap.size w w1)
 HB : Hid (Below w1.heap.size w1 w1)
 HS1 : Hid (w1.heap.size = w.heap.size + 1)
 HX0 : Hid (w1.heap[w.heap.size]? = some (.cells #[.int .i64 k, .string t, .int .i64 n, .slice A ps.length c, .slice A' fs.length c', .slice A'' vs.length c''] 26 (0, 0)))
 HW1 : Hid (w1 = w.alloc (.cells #[.int .i64 k, .string t, .int .i64 n, .slice A ps.length c, .slice A' fs.length c', .slice A'' vs.length c''] 26))
 hlp : ps.length ≤ 1000000000000000
 hlf : fs.length ≤ 1000000000000000
 hlv : vs.length ≤ 1000000000000000
theorem form_pre (k : Int) (t : ByteArray) (n : Int) (ps : List Ty) (fs : List (ByteArray × Int × Ty)) (vs : List (ByteArray × List Ty)) (hp : ∀ p ∈ ps, FormR p) (hf : ∀ f ∈ fs, FormR f.2.2) (hv : ∀ v ∈ vs, ∀ b ∈ v.2, FormR b)
  (main : ∀ (K : Nat → Prop) (w : World) (A : Option Addr) (c : Nat) (A' : Option Addr) (c' : Nat) (A'' : Option Addr) (c'' : Nat) (w1 : World), FPre k t n ps fs vs K w A c A' c' A'' c'' w1 →
   Calls Tryz.prog 18 #[.agg #[.int .i64 k, .string t, .int .i64 n, .slice A ps.length c, .slice A' fs.length c', .slice A'' vs.length c'']] w fun e w' => e = .returned (.bool (formT (.mk k t n ps fs vs))) ∧ Below w.heap.size w w') : FormR (.mk k t n ps fs vs) := by
 intro K w cs hrep hc
 obtain ⟨A, c, A', c', A'', c'', rfl, hts, hL, hF, hV⟩ := hrep.inv
 simp only [cells6T]
 obtain ⟨w1, hw1⟩ : ∃ x, x = w.alloc (.cells #[.int .i64 k, .string t, .int .i64 n, .slice A ps.length c, .slice A' fs.length c', .slice A'' vs.length c''] 26) := ⟨_, rfl⟩
 have hb1 : Below w.heap.size w w1 := by rw [hw1]; exact (Below.refl _ _).alloc (Nat.le_refl _) _
 have hs1 : w1.heap.size = w.heap.size + 1 := by rw [hw1]; simp
 have hx0 : w1.heap[w.heap.size]? = some (.cells #[.int .i64 k, .string t, .int .i64 n, .slice A ps.length c, .slice A' fs.length c', .slice A'' vs.length c''] 26 (0, 0)) := by rw [hw1]; exact heap_alloc_new w _
 have HXC : Hid (∀ wx, Below w1.heap.size w1 wx → wx.cell? ⟨w.heap.size, 0, none⟩ = some (.int .i64 k) ∧ wx.cell? ⟨w.heap.size, 1, none⟩ = some (.string t) ∧ wx.cell? ⟨w.heap.size, 2, none⟩ = some (.int .i64 n) ∧ wx.cell? ⟨w.heap.size, 3, none⟩ = some (.slice A ps.length c) ∧ wx.cell? ⟨w.heap.size, 4, none⟩ = some (.slice A' fs.length c') ∧ wx.cell? ⟨w.heap.size, 5, none⟩ = some (.slice A'' vs.length c'')) := Lib.hid fun wx hx => by
  have h := box_up hx (by omega) hx0
  exact ⟨Lib.cell_of_heap h 0, Lib.cell_of_heap h 1, Lib.cell_of_heap h 2, Lib.cell_of_heap h 3, Lib.cell_of_heap h 4, Lib.cell_of_heap h 5⟩
 have hcn : 1 + (cntL ps + (cntF fs + cntV vs)) ≤ 1000000 := by rw [← cntT_mk k t n ps fs vs]; exact hc
 have KAll := Lib.hid fun wx (hx : Below w1.heap.size w1 wx) => all_ref ps hp (hL.later (hb1.trans (hx.mono hb1.size))) (by omega)
 have KPl := Lib.hid fun wx => plain_ref (w := wx) k t n A ps.length c A' fs.length c' A'' vs.length c''
 have KNm := Lib.hid fun wx => name_ref t wx hts
 have KOb := Lib.hid fun wx (hx : Below w1.heap.size w1 wx) => object_ref fs hf (hF.later (hb1.trans (hx.mono hb1.size))) (by omega)
 have hlv : vs.length ≤ 1000000000000000 := by obtain ⟨_, _, hr, _⟩ := hV; exact hr.big
 have KBi := Lib.hid fun wx (hx : Below w1.heap.size w1 wx) => binds_ref vs hv (hV.later (hb1.trans (hx.mono hb1.size))) hlv (by omega)
 have KOv := Lib.hid fun wx (hx : Below w1.heap.size w1 wx) => over_ref (hL.later (hb1.trans (hx.mono hb1.size)))
 have HREP := Lib.hid hrep
 have HL := Lib.hid hL
 have HCN := Lib.hid hcn
 have HBZ := Lib.hid hb1
 have HB : Hid (Below w1.heap.size w1 w1) := Lib.hid (Below.refl _ _)
 have HS1 := Lib.hid hs1
 have HX0 := Lib.hid hx0
 have HW1 := Lib.hid hw1
 have hlp := hL.short
 have hlf := hF.shortF
 have HP := Lib.hid hp
 have HF' := Lib.hid hf
 have HV' := Lib.hid hv
 exact main K w A c A' c' A'' c'' w1 ⟨HXC, KAll, KPl, KNm, KOb, KBi, KOv, HREP, HCN, HBZ, HB, HS1, HX0, HW1, hlp, hlf, hlv⟩
end Go.Proofs.YtlooadichhpgeaaGreatDoor
