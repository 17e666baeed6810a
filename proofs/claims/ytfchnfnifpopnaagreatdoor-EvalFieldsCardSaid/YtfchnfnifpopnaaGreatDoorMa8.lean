import Derived.Test.YtfchnfnifpopnaaGreatDoorMa0
import Derived.Test.YtfchnfnifpopnaaGreatDoorMa7
import Derived.Deep.CutBlock
set_option maxRecDepth 100000
set_option maxHeartbeats 64000000
namespace Go.Proofs.YtfchnfnifpopnaaGreatDoor
open Go.RowKit
theorem ornull_any (hU : UnionP) {K : Nat → Prop} {w : World} {l : List Ty} {A : Option Addr} {c : Nat} (hL : ListT K w l A c) (hlo : ∀ b, K b → b < w.heap.size) (hn : (flatU (tyK 4 :: l)).length ≤ 1099511627776) (hl : 1 + l.length ≤ 1099511627776) :
  Calls Tryz.prog 39 #[.slice A l.length c] w (TyPost K w (unionT (tyK 4 :: l))) := by
 obtain ⟨w1, hw1⟩ : ∃ x, x = w.alloc (.cells #[.int .i64 0, .string ⟨#[]⟩, .int .i64 0, .slice none 0 0, .slice none 0 0, .slice none 0 0] 26) := ⟨_, rfl⟩
 have hb1 : Below w.heap.size w w1 := by rw [hw1]; exact (Below.refl _ _).alloc (Nat.le_refl _) _
 have hs1 : w1.heap.size = w.heap.size + 1 := by rw [hw1]; simp
 have hx1 : w1.heap[w.heap.size]? = some (.cells #[.int .i64 0, .string ⟨#[]⟩, .int .i64 0, .slice none 0 0, .slice none 0 0, .slice none 0 0] 26 (0, 0)) := by rw [hw1]; exact heap_alloc_new w _
 have HL := Lib.hid (hL.later hb1)
 have HLO := Lib.hid hlo
 have HN := Lib.hid hn
 have HS := Lib.hid hl
 have HB1 := Lib.hid hb1
 have HS1 := Lib.hid hs1
 have HX1 := Lib.hid hx1
 have HU := Lib.hid hU
 obtain ⟨w2, hw2⟩ : ∃ x, x = w1.alloc (.cells #[.int .i64 4, .string ⟨#[]⟩, .int .i64 0, .slice none 0 0, .slice none 0 0, .slice none 0 0] 26) := ⟨_, rfl⟩
 have HO2 : Hid (OutT K w1 w2 (.slice (some ⟨w.heap.size + 1, 0, none⟩) 1 1) [tyK 4] ∧ Below w1.heap.size w1 w2) := Lib.hid (by
  rw [← hs1, hw2]
  exact ⟨OutT.lit (rep_k K w1 4) (Nat.le_refl _) (heap_alloc_new w1 _), (Below.refl _ _).alloc (Nat.le_refl _) _⟩)
 generalize hu : unionT (tyK 4 :: l) = u
 obtain ⟨k2, s2, n2, ps2, fs2, vs2⟩ := u
 have HUE := Lib.hid hu
 unfold TyPost
 have HW1 := Lib.hid hw1
 have HW2 := Lib.hid hw2
 clear hL hlo hn hl hb1 hs1 hx1 hU hw1 hw2 hu
 go_enter Tryz.func39, Tryz.ntmps39
 go_wp2_with (at_builtin; refine wpList_plain rfl fun Kx hK => ?_; rw [← HW1.out, ← HW2.out]; go_loud (refine wp_append_many (w0 := w1) (ts := [tyK 4]) (l := l) _ _ rfl (by rfl) (by rfl) HO2.out.1 HL.out HO2.out.2 (by simpa using HS.out) ?_))
 intro v3 w3 ho3 hb3 _
 refine hK _ _ ?_
 have KU := Lib.hid (union_own HU.out ho3 (fun b h => by have := HLO.out b h; have := HS1.out; omega) hb3 HN.out (by have := HS.out; simp only [List.length_cons]; omega))
 have HB3 := Lib.hid hb3
 clear hK Kx HW1 HW2 HO2 ho3 hb3
 go_wp2_with fail
 refine KU.out.mono ?_
 rintro e w4 ⟨rs, rfl, hr, hb4⟩
 have HB4 := Lib.hid (HB3.out.trans (hb4.mono HB3.out.size))
 have HBE := Lib.hid (HB1.out.trans (HB4.out.mono HB1.out.size))
 have rb := (HB4.out.block w.heap.size (by have := HS1.out; omega)).trans HX1.out
 have hr' : RepT (fun b => K b ∨ w.heap.size < b) w4 (unionT (tyK 4 :: l)) rs := hr.weak fun b h => h.imp id fun h => by have := HS1.out; omega
 clear hr hb4 KU
 rw [HUE.out] at hr'
 obtain ⟨Aq, cq, Ag, cg, Ah, ch, rfl, -⟩ := hr'.inv
 have HR := Lib.hid hr'
 simp only [cells6T] at HR ⊢
 clear hr'
 obtain ⟨q0, q1, q2, q3, q4, q5, z0, z1, z2, z3, z4, z5⟩ := qz6 rb
 have RBX := Lib.hid rb
 clear rb
 go_wp2_with fail
 have rs := six_set RBX.out (.int .i64 k2) (.string s2) (.int .i64 n2) (.slice Aq ps2.length cq) (.slice Ag fs2.length cg) (.slice Ah vs2.length ch)
 obtain ⟨r0, r1, r2, r3, r4, r5⟩ := cz6 rs
 clear q0 q1 q2 q3 q4 q5 z0 z1 z2 z3 z4 z5 RBX rs
 refine bodyPost_ret (v := .agg #[.int .i64 k2, .string s2, .int .i64 n2, .slice Aq ps2.length cq, .slice Ag fs2.length cg, .slice Ah vs2.length ch]) (by simp [results, Tryz.results39, go_sem, r0, r1, r2, r3, r4, r5]) rfl ?_
 clear r0 r1 r2 r3 r4 r5
 exact ⟨[.int .i64 k2, .string s2, .int .i64 n2, .slice Aq ps2.length cq, .slice Ag fs2.length cg, .slice Ah vs2.length ch], rfl, ret_box HR.out HLO.out (Nat.le_refl _) _ _ _ _ _ _, set_six_below HBE.out (Nat.le_refl _) _ _ _ _ _ _⟩
theorem mem_flatU {l : List Ty} {x : Ty} : x ∈ flatU l ↔ ∃ p ∈ l, x ∈ parts1 p := by
 unfold flatU
 rw [List.mem_flatten]
 constructor
 ·rintro ⟨m, hm, hx⟩
  obtain ⟨p, hp, rfl⟩ := List.mem_map.1 hm
  exact ⟨p, hp, hx⟩
 ·rintro ⟨p, hp, hx⟩
  exact ⟨_, List.mem_map.2 ⟨p, hp, rfl⟩, hx⟩
theorem mem_keptU {l : List Ty} {x : Ty} : x ∈ keptU l ↔ x ∈ flatU l ∧ keepT (kindsOf (flatU l)) x = true := List.mem_filter
theorem hasKc {k : Int} {l : List Ty} : hasK k l = true ↔ ∃ t ∈ l, t.k = k := by
 unfold hasK
 rw [List.any_eq_true]
 simp
theorem hasK_congr {k : Int} {l l' : List Ty} (h : ∀ x, x ∈ l ↔ x ∈ l') : hasK k l = hasK k l' := by
 rw [Bool.eq_iff_iff, hasKc, hasKc]
 constructor
 ·rintro ⟨t, a, b⟩; exact ⟨t, (h t).1 a, b⟩
 ·rintro ⟨t, a, b⟩; exact ⟨t, (h t).2 a, b⟩
theorem kinds_congr {l l' : List Ty} (h : ∀ x, x ∈ l ↔ x ∈ l') : kindsOf l = kindsOf l' := by
 unfold kindsOf
 rw [hasK_congr h, hasK_congr h, hasK_congr h, hasK_congr h]
theorem sort_congr {l l' : List Ty} (h : ∀ x, x ∈ l ↔ x ∈ l') : sortT l = sortT l' :=
 asc_unique (asc_sortT _) (asc_sortT _) fun x => by rw [mem_sortT, mem_sortT]; exact h x
theorem union_of {l l' : List Ty} (h : ∀ x, x ∈ keptU l ↔ x ∈ keptU l') : unionT l = unionT l' := by
 unfold unionT
 rw [sort_congr h]
theorem union_congr {l l' : List Ty} (h : ∀ x, x ∈ flatU l ↔ x ∈ flatU l') : unionT l = unionT l' :=
 union_of fun x => by rw [mem_keptU, mem_keptU, kinds_congr h, h x]
theorem union_same {l l' : List Ty} (h : ∀ x, x ∈ l ↔ x ∈ l') : unionT l = unionT l' :=
 union_congr fun x => by
  rw [mem_flatU, mem_flatU]
  constructor
  ·rintro ⟨p, a, b⟩; exact ⟨p, (h p).1 a, b⟩
  ·rintro ⟨p, a, b⟩; exact ⟨p, (h p).2 a, b⟩
theorem parts1_not15 (t : Ty) : ∀ x ∈ parts1 t, x.k ≠ 15 := by
 refine Ty.ind (C := fun t => ∀ x ∈ parts1 t, x.k ≠ 15) (fun k t n ps fs vs hp _ _ x hx => ?_) t
 rw [parts1_mk] at hx
 by_cases h : k = 15
 ·rw [if_pos h, mem_flatU] at hx
  obtain ⟨p, hm, hx⟩ := hx
  exact hp p hm x hx
 ·rw [if_neg h, List.mem_singleton] at hx
  subst hx
  exact h
theorem kept_no15 {l : List Ty} {x : Ty} (h : x ∈ keptU l) : x.k ≠ 15 := by
 obtain ⟨p, _, hx⟩ := mem_flatU.1 (mem_keptU.1 h).1
 exact parts1_not15 p x hx
theorem kept_no1 {l : List Ty} {x : Ty} (h : x ∈ keptU l) : x.k ≠ 1 := by
 intro e
 have := (mem_keptU.1 h).2
 unfold keepT at this
 rw [if_pos e] at this
 cases this
def prtsT (t : Ty) : List Ty := if t.k = 15 then t.ps else if t.k = 1 then [] else [t]
theorem parts_shut : ∀ {s : List Ty}, (∀ x ∈ s, x.k ≠ 15 ∧ x.k ≠ 1) → prtsT (shutU s) = s
 | [], _ => rfl
 | [x], h => by
  obtain ⟨h1, h2⟩ := h x (by simp)
  show (if x.k = 15 then x.ps else if x.k = 1 then [] else [x]) = [x]
  rw [if_neg h1, if_neg h2]
 | x :: y :: l, _ => rfl
theorem parts_union (l : List Ty) : prtsT (unionT l) = sortT (keptU l) :=
 parts_shut fun x hx => ⟨kept_no15 ((mem_sortT x _).1 hx), kept_no1 ((mem_sortT x _).1 hx)⟩
theorem mem_parts_union {l : List Ty} {x : Ty} : x ∈ prtsT (unionT l) ↔ x ∈ keptU l := by rw [parts_union, mem_sortT]
theorem parts1_one {t : Ty} (h : t.k ≠ 15) : parts1 t = [t] := by
 obtain ⟨k, s, n, ps, fs, vs⟩ := t
 have h' : ¬ k = 15 := h
 rw [parts1_mk, if_neg h']
theorem flat_self : ∀ {l : List Ty}, (∀ x ∈ l, x.k ≠ 15) → flatU l = l
 | [], _ => rfl
 | a :: l, h => by
  rw [flatU_cons, parts1_one (h a List.mem_cons_self), flat_self fun x hx => h x (List.mem_cons_of_mem _ hx)]
  rfl
theorem parts1_15 {t : Ty} (h : t.k = 15) : parts1 t = flatU t.ps := by
 obtain ⟨k, s, n, ps, fs, vs⟩ := t
 have h' : k = 15 := h
 rw [parts1_mk, if_pos h']
 rfl
theorem parts1_union (l : List Ty) : ∀ x, x ∈ parts1 (unionT l) ↔ x ∈ keptU l ∨ (keptU l = [] ∧ x = tyK 1) := by
 have hs := parts_union l
 intro x
 unfold unionT at hs ⊢
 have hm : ∀ y, y ∈ sortT (keptU l) ↔ y ∈ keptU l := fun y => mem_sortT y _
 generalize hg : sortT (keptU l) = s at hs hm
 rcases s with _ | ⟨a, _ | ⟨b, s⟩⟩
 ·have h0 : keptU l = [] := by
   rcases hk : keptU l with _ | ⟨c, r⟩
   ·rfl
   ·have := (hm c).2 (by rw [hk]; simp); cases this
  have e : parts1 (shutU []) = [tyK 1] := parts1_one (by decide)
  rw [e, h0]; simp
 ·have ha : a ∈ keptU l := (hm a).1 (by simp)
  have e : parts1 (shutU [a]) = [a] := parts1_one (kept_no15 ha)
  rw [e, ← hm x]
  constructor
  ·exact .inl
  ·rintro (h | ⟨h, -⟩)
   ·exact h
   ·rw [h] at ha; cases ha
 ·have e : parts1 (shutU (a :: b :: s)) = flatU (a :: b :: s) := parts1_15 rfl
  rw [e, flat_self fun y hy => kept_no15 ((hm y).1 hy), ← hm x]
  constructor
  ·exact .inl
  ·rintro (h | ⟨h, -⟩)
   ·exact h
   ·have := (hm a).1 (by simp); rw [h] at this; cases this
def PlainT (t : Ty) : Prop := (t.k = 2 → infT t = false) ∧ (t.k = 7 ∨ t.k = 8 ∨ t.k = 9 ∨ t.k = 10 → infT t = false)
theorem keepT_lead (h : Kinds) {t : Ty} (h3 : t.k ≠ 3) (h1 : t.k ≠ 1) (h2 : t.k ≠ 2) (ha : h.a = true ∨ h.u = true) : keepT h t = infT t := by
 unfold keepT
 rw [if_neg h1, if_neg h3, if_neg (fun e => h2 e.1), if_pos ha]
theorem keepT_free (h : Kinds) {t : Ty} (h3 : t.k ≠ 3) (h1 : t.k ≠ 1) (h2 : t.k ≠ 2) (ha : h.a = false) (hu : h.u = false) : keepT h t = (if t.k = 9 then !h.n else if t.k = 10 then !h.s else true) := by
 unfold keepT
 rw [if_neg h1, if_neg h3, if_neg (fun e => h2 e.1), if_neg (by rw [ha, hu]; simp)]
theorem keepT_1 (h : Kinds) {t : Ty} (h1 : t.k = 1) : keepT h t = false := by unfold keepT; rw [if_pos h1]
theorem keepT_3 (h : Kinds) {t : Ty} (h1 : t.k = 3) : keepT h t = true := by unfold keepT; rw [if_neg (by omega), if_pos h1]
theorem keepT_2 (h : Kinds) {t : Ty} (h1 : t.k = 2) (hi : infT t = false) : keepT h t = !h.a := by
 unfold keepT
 rw [if_neg (by omega), if_neg (by omega)]
 cases ha : h.a
 ·rw [if_pos ⟨h1, rfl⟩]; rfl
 ·rw [if_neg (by simp), if_pos (.inl rfl), hi]; rfl
theorem a_of (l : List Ty) : (kindsOf l).a = hasK 3 l := rfl
theorem u_of (l : List Ty) : (kindsOf l).u = hasK 2 l := rfl
theorem n_of (l : List Ty) : (kindsOf l).n = hasK 7 l := rfl
theorem s_of (l : List Ty) : (kindsOf l).s = hasK 8 l := rfl
theorem hasK_in {k : Int} {l l' : List Ty} (h : ∀ x ∈ l, x ∈ l') (hk : hasK k l = true) : hasK k l' = true := by
 obtain ⟨t, a, b⟩ := hasKc.1 hk
 exact hasKc.2 ⟨t, h t a, b⟩
theorem hasK_not {k : Int} {l l' : List Ty} (h : ∀ x ∈ l, x ∈ l') (hk : hasK k l' = false) : hasK k l = false := by
 cases e : hasK k l
 ·rfl
 ·rw [hasK_in h e] at hk; cases hk
theorem union_union (ls : List (List Ty)) (hP : ∀ l ∈ ls, ∀ x ∈ flatU l, PlainT x) : unionT (ls.map unionT) = unionT ls.flatten := by
 have hF : ∀ x, x ∈ flatU ls.flatten ↔ ∃ l ∈ ls, x ∈ flatU l := fun x => by
  rw [mem_flatU]
  constructor
  ·rintro ⟨p, hp, hx⟩
   obtain ⟨l, hl, hp⟩ := List.mem_flatten.1 hp
   exact ⟨l, hl, mem_flatU.2 ⟨p, hp, hx⟩⟩
  ·rintro ⟨l, hl, hx⟩
   obtain ⟨p, hp, hx⟩ := mem_flatU.1 hx
   exact ⟨p, List.mem_flatten.2 ⟨l, hl, hp⟩, hx⟩
 have hG : ∀ x, x ∈ flatU (ls.map unionT) ↔ ∃ l ∈ ls, x ∈ keptU l ∨ (keptU l = [] ∧ x = tyK 1) := fun x => by
  rw [mem_flatU]
  constructor
  ·rintro ⟨p, hp, hx⟩
   obtain ⟨l, hl, rfl⟩ := List.mem_map.1 hp
   exact ⟨l, hl, (parts1_union l x).1 hx⟩
  ·rintro ⟨l, hl, hx⟩
   exact ⟨_, List.mem_map.2 ⟨l, hl, rfl⟩, (parts1_union l x).2 hx⟩
 have hPF : ∀ x ∈ flatU ls.flatten, PlainT x := fun x hx => by
  obtain ⟨l, hl, hx⟩ := (hF x).1 hx
  exact hP l hl x hx
 refine union_of fun x => ?_
 rw [mem_keptU, mem_keptU]
 generalize flatU ls.flatten = F at hF hPF ⊢
 generalize flatU (ls.map unionT) = G at hG ⊢
 have lF : ∀ l ∈ ls, ∀ x ∈ flatU l, x ∈ F := fun l hl x hx => (hF x).2 ⟨l, hl, hx⟩
 have GF : ∀ {k : Int}, k ≠ 1 → hasK k G = true → hasK k F = true := fun hk h => by
  obtain ⟨t, ht, e⟩ := hasKc.1 h
  obtain ⟨l, hl, hx | ⟨_, rfl⟩⟩ := (hG t).1 ht
  ·exact hasKc.2 ⟨t, lF l hl t (mem_keptU.1 hx).1, e⟩
  ·exact absurd (show _ = (1 : Int) from e.symm) hk
 have ga : hasK 3 G = hasK 3 F := by
  rw [Bool.eq_iff_iff]
  refine ⟨GF (by decide), fun h => ?_⟩
  obtain ⟨t, ht, e⟩ := hasKc.1 h
  obtain ⟨l, hl, hx⟩ := (hF t).1 ht
  exact hasKc.2 ⟨t, (hG t).2 ⟨l, hl, .inl (mem_keptU.2 ⟨hx, keepT_3 _ e⟩)⟩, e⟩
 have gu : hasK 3 F = false → hasK 2 G = hasK 2 F := fun h3 => by
  rw [Bool.eq_iff_iff]
  refine ⟨GF (by decide), fun h => ?_⟩
  obtain ⟨t, ht, e⟩ := hasKc.1 h
  obtain ⟨l, hl, hx⟩ := (hF t).1 ht
  refine hasKc.2 ⟨t, (hG t).2 ⟨l, hl, .inl (mem_keptU.2 ⟨hx, ?_⟩)⟩, e⟩
  rw [keepT_2 _ e ((hPF t ht).1 e), a_of, hasK_not (lF l hl) h3]; rfl
 have gn : ∀ {k : Int}, k = 7 ∨ k = 8 → hasK 3 F = false → hasK 2 F = false → hasK k G = hasK k F := fun {k} hk h3 h2 => by
  rw [Bool.eq_iff_iff]
  refine ⟨GF (by omega), fun h => ?_⟩
  obtain ⟨t, ht, e⟩ := hasKc.1 h
  obtain ⟨l, hl, hx⟩ := (hF t).1 ht
  refine hasKc.2 ⟨t, (hG t).2 ⟨l, hl, .inl (mem_keptU.2 ⟨hx, ?_⟩)⟩, e⟩
  rw [keepT_free _ (by omega) (by omega) (by omega) (by rw [a_of]; exact hasK_not (lF l hl) h3) (by rw [u_of]; exact hasK_not (lF l hl) h2), if_neg (by omega), if_neg (by omega)]
 have key : x ∈ F → x.k ≠ 1 → keepT (kindsOf G) x = keepT (kindsOf F) x := fun hx h1 => by
  by_cases h3 : x.k = 3
  ·rw [keepT_3 _ h3, keepT_3 _ h3]
  by_cases h2 : x.k = 2
  ·rw [keepT_2 _ h2 ((hPF x hx).1 h2), keepT_2 _ h2 ((hPF x hx).1 h2), a_of, a_of, ga]
  cases ha : hasK 3 F
  ·have hu := gu ha
   cases hu2 : hasK 2 F
   ·rw [hu2] at hu
    rw [keepT_free _ h3 h1 h2 (by rw [a_of, ga, ha]) (by rw [u_of, hu]), keepT_free _ h3 h1 h2 (by rw [a_of, ha]) (by rw [u_of, hu2]), n_of, n_of, s_of, s_of, gn (.inl rfl) ha hu2, gn (.inr rfl) ha hu2]
   ·rw [hu2] at hu
    rw [keepT_lead _ h3 h1 h2 (.inr (by rw [u_of, hu])), keepT_lead _ h3 h1 h2 (.inr (by rw [u_of, hu2]))]
  ·rw [keepT_lead _ h3 h1 h2 (.inl (by rw [a_of, ga, ha])), keepT_lead _ h3 h1 h2 (.inl (by rw [a_of, ha]))]
 constructor
 ·rintro ⟨hx, hk⟩
  have h1 : x.k ≠ 1 := fun e => by rw [keepT_1 _ e] at hk; cases hk
  obtain ⟨l, hl, h | ⟨_, rfl⟩⟩ := (hG x).1 hx
  ·have hxF := lF l hl x (mem_keptU.1 h).1
   exact ⟨hxF, by rw [← key hxF h1]; exact hk⟩
  ·exact absurd rfl h1
 ·rintro ⟨hx, hk⟩
  have h1 : x.k ≠ 1 := fun e => by rw [keepT_1 _ e] at hk; cases hk
  refine ⟨?_, by rw [key hx h1]; exact hk⟩
  obtain ⟨l, hl, hxl⟩ := (hF x).1 hx
  refine (hG x).2 ⟨l, hl, .inl (mem_keptU.2 ⟨hxl, ?_⟩)⟩
  by_cases h3 : x.k = 3
  ·exact keepT_3 _ h3
  by_cases h2 : x.k = 2
  ·rw [keepT_2 _ h2 ((hPF x hx).1 h2), a_of] at hk ⊢
   rw [hasK_not (lF l hl) (by simpa using hk)]; rfl
  have hfree : infT x = true → (x.k ≠ 9 ∧ x.k ≠ 10) := fun hi => by
   have := (hPF x hx).2
   constructor <;> intro e <;> rw [this (by omega)] at hi <;> cases hi
  by_cases hau : (kindsOf F).a = true ∨ (kindsOf F).u = true
  ·rw [keepT_lead _ h3 h1 h2 hau] at hk
   by_cases hal : (kindsOf (flatU l)).a = true ∨ (kindsOf (flatU l)).u = true
   ·rw [keepT_lead _ h3 h1 h2 hal]; exact hk
   ·rw [keepT_free _ h3 h1 h2 (by simpa using fun e => hal (.inl e)) (by simpa using fun e => hal (.inr e)), if_neg (hfree hk).1, if_neg (hfree hk).2]
  ·have a0 : hasK 3 F = false := by simpa [a_of] using fun e => hau (.inl e)
   have u0 : hasK 2 F = false := by simpa [u_of] using fun e => hau (.inr e)
   rw [keepT_free _ h3 h1 h2 a0 u0] at hk
   rw [keepT_free _ h3 h1 h2 (hasK_not (lF l hl) a0) (hasK_not (lF l hl) u0)]
   by_cases h9 : x.k = 9
   ·rw [if_pos h9] at hk ⊢
    rw [n_of] at hk ⊢
    rw [hasK_not (lF l hl) (by simpa using hk)]; rfl
   ·rw [if_neg h9] at hk ⊢
    by_cases h10 : x.k = 10
    ·rw [if_pos h10] at hk ⊢
     rw [s_of] at hk ⊢
     rw [hasK_not (lF l hl) (by simpa using hk)]; rfl
    ·rw [if_neg h10]
theorem union_one (l : List Ty) (hP : ∀ x ∈ flatU l, PlainT x) : unionT [unionT l] = unionT l := by
 have := union_union [l] (fun m hm => by rw [List.mem_singleton] at hm; subst hm; exact hP)
 simpa using this
theorem union_parts (l : List Ty) (hP : ∀ x ∈ flatU l, PlainT x) : unionT (prtsT (unionT l)) = unionT l := by
 refine Eq.trans (union_of fun x => ?_) (union_one l hP)
 have h1 : ∀ y ∈ prtsT (unionT l), y.k ≠ 15 := fun y hy => kept_no15 (mem_parts_union.1 hy)
 have e : ∀ y, y ∈ flatU (prtsT (unionT l)) ↔ y ∈ keptU l := fun y => by rw [flat_self h1, mem_parts_union]
 have e2 : ∀ y, y ∈ flatU [unionT l] ↔ y ∈ keptU l ∨ (keptU l = [] ∧ y = tyK 1) := fun y => by
  rw [mem_flatU]; simp only [List.mem_singleton, exists_eq_left]; exact parts1_union l y
 by_cases h0 : keptU l = []
 ·rw [mem_keptU, mem_keptU, e, e2, h0]
  constructor
  ·rintro ⟨h, -⟩; cases h
  ·rintro ⟨h | ⟨-, rfl⟩, h2⟩
   ·cases h
   ·rw [keepT_1 _ rfl] at h2; cases h2
 ·have e3 : ∀ y, y ∈ flatU (prtsT (unionT l)) ↔ y ∈ flatU [unionT l] := fun y => by rw [e, e2]; simp [h0]
  rw [mem_keptU, mem_keptU, kinds_congr e3, e3 x]
def strT (s : ByteArray) : Ty := .mk 10 s 0 [] [] []
theorem strT_k (s : ByteArray) : (strT s).k = 10 := rfl
def commonK : Option (List ByteArray) → Option (List ByteArray) → Option (List ByteArray)
 | none, b => b
 | some a, none => some a
 | some a, some b => some (a.filter fun x => b.any fun y => decide (y = x))
def keysN : Ty → Option (List ByteArray)
 | .mk k _ _ ps fs _ => if k = 3 ∨ k = 1 then none else if k = 14 then some (fs.map fun f => f.1) else if k = 15 then (ps.attach.map fun ⟨p, _⟩ => keysN p).foldl commonK none else some []
termination_by t => SizeOf.sizeOf t
decreasing_by exact ty_lt_p ‹_›
theorem keysN_mk (k t n ps fs vs) : keysN (.mk k t n ps fs vs) = if k = 3 ∨ k = 1 then none else if k = 14 then some (fs.map fun f => f.1) else if k = 15 then (ps.map keysN).foldl commonK none else some [] := by
 rw [keysN]
 simp only [List.map_attach_eq_pmap, List.pmap_eq_map]
def keysU : Option (List ByteArray) → Ty
 | none => tyK 8
 | some l => unionT (l.map strT)
def keysT (t : Ty) : Ty := keysU (keysN t)
theorem flat_strs (l : List ByteArray) : flatU (l.map strT) = l.map strT := flat_self fun x hx => by
 obtain ⟨s, _, rfl⟩ := List.mem_map.1 hx
 rw [strT_k]; decide
theorem hasK_strs (l : List ByteArray) {k : Int} (h : k ≠ 10) : hasK k (l.map strT) = false := by
 cases e : hasK k (l.map strT)
 ·rfl
 ·obtain ⟨t, ht, hk⟩ := hasKc.1 e
  obtain ⟨s, _, rfl⟩ := List.mem_map.1 ht
  exact absurd (show k = 10 from hk.symm) h
theorem kept_strs (l : List ByteArray) : keptU (l.map strT) = l.map strT := by
 unfold keptU
 rw [flat_strs, List.filter_eq_self]
 intro x hx
 obtain ⟨s, _, rfl⟩ := List.mem_map.1 hx
 rw [keepT_free _ (by rw [strT_k]; decide) (by rw [strT_k]; decide) (by rw [strT_k]; decide) (by rw [a_of]; exact hasK_strs l (by decide)) (by rw [u_of]; exact hasK_strs l (by decide)), if_neg (by rw [strT_k]; decide), if_pos (strT_k s), s_of, hasK_strs l (by decide)]
 rfl
def heldT (f : ByteArray × Int × Ty) : Ty := if f.2.1 % 2 = 1 then unionT [tyK 4, f.2.2] else f.2.2
def fieldT (fs : List (ByteArray × Int × Ty)) (s : ByteArray) : Ty := match fs.find? fun f => decide (f.1 = s) with
 | none => tyK 2
 | some f => heldT f
def rowT (t k : Ty) : Ty :=
 if t.k = 11 ∧ (k.k = 7 ∨ k.k = 9) then unionT (tyK 4 :: t.ps)
 else if t.k = 12 ∧ k.k = 9 then (if k.n < 0 then tyK 4 else (t.ps[k.n.toNat]?).getD (tyK 4))
 else if t.k = 12 ∧ k.k = 7 then unionT (tyK 4 :: t.ps) else tyK 2
theorem lt_ps {t p : Ty} (h : p ∈ t.ps) : SizeOf.sizeOf p < SizeOf.sizeOf t := by
 obtain ⟨k, s, n, ps, fs, vs⟩ := t
 exact ty_lt_p h
def atT (t k : Ty) : Ty := if k.k = 1 then k else if t.k = 3 ∨ t.k = 1 then t else if k.k = 15 then unionT (k.ps.attach.map fun ⟨p, _⟩ => atT t p) else if t.k = 15 then unionT (t.ps.attach.map fun ⟨p, _⟩ => atT p k) else if t.k = 14 ∧ k.k = 10 then fieldT t.fs k.t else rowT t k
termination_by SizeOf.sizeOf t + SizeOf.sizeOf k
decreasing_by
 ·have := lt_ps ‹_›; omega
 ·have := lt_ps ‹_›; omega
theorem atT_eq (t k : Ty) : atT t k = if k.k = 1 then k else if t.k = 3 ∨ t.k = 1 then t else if k.k = 15 then unionT (k.ps.map (atT t)) else if t.k = 15 then unionT (t.ps.map fun p => atT p k) else if t.k = 14 ∧ k.k = 10 then fieldT t.fs k.t else rowT t k := by
 rw [atT]
 simp only [List.map_attach_eq_pmap, List.pmap_eq_map]
theorem two_ind {C : Ty → Ty → Prop} (step : ∀ t k, (∀ p ∈ k.ps, C t p) → (∀ p ∈ t.ps, C p k) → C t k) (t k : Ty) : C t k := by
 have key : ∀ s (t k : Ty), SizeOf.sizeOf t + SizeOf.sizeOf k = s → C t k := by
  intro s
  induction s using Nat.strongRecOn with
  | _ s ih =>
   intro t k hs
   exact step t k (fun p hp => ih _ (by have := lt_ps hp; omega) _ _ rfl) (fun p hp => ih _ (by have := lt_ps hp; omega) _ _ rfl)
 exact key _ t k rfl
theorem list_lit {K : Nat → Prop} {w W : World} {t : Ty} {cs : List Value} {g : Nat} (ht : RepT K w t cs) (hb : Below w.heap.size w W) (hlo : ∀ b, K b → b < w.heap.size) (hh : W.heap[g]? = some (.cells cs.toArray 26 (0, 0))) : ListT (fun b => K b ∨ b = g) W [t] (some ⟨g, 0, none⟩) 1 := by
 refine ⟨g, 0, ⟨by simp, by simp, (fun h => by cases h), fun _ => ⟨rfl, .inr rfl⟩⟩, fun i hi => ?_⟩
 have : i = 0 := by simpa using hi
 subst this
 refine ⟨cs, fun j u hj => ?_, RepT.keep (fun _ h => .inl h) (fun b o v hk hc => (World.cell?_of_block (hb.block b (hlo b hk))).trans hc) _ _ ht⟩
 rw [Lib.cell_of_heap hh]; simpa using hj
theorem held_any (hU : UnionP) {K : Nat → Prop} {w : World} {nm : ByteArray} {fl : Int} {t : Ty} {cs : List Value} (hr : RepT K w t cs) (hlo : ∀ b, K b → b < w.heap.size) (hfl : fl = 0 ∨ fl = 1 ∨ fl = 2 ∨ fl = 3) (hn : (flatU [tyK 4, t]).length ≤ 1099511627776) :
  Calls Tryz.prog 60 #[.agg (.string nm :: .int .i64 fl :: cs).toArray] w (TyPost K w (heldT (nm, fl, t))) := by
 obtain ⟨k, s, n, ps, fs, vs⟩ := t
 obtain ⟨A, c, A', c', A'', c'', rfl, -⟩ := hr.inv
 simp only [cells6T] at hr ⊢
 obtain ⟨w1, hw1⟩ : ∃ x, x = (w.alloc (.cells #[.string nm, .int .i64 fl, .int .i64 k, .string s, .int .i64 n, .slice A ps.length c, .slice A' fs.length c', .slice A'' vs.length c''] 34)).alloc (.cells #[.int .i64 0, .string ⟨#[]⟩, .int .i64 0, .slice none 0 0, .slice none 0 0, .slice none 0 0] 26) := ⟨_, rfl⟩
 have hb1 : Below w.heap.size w w1 := by rw [hw1]; exact ((Below.refl _ _).alloc (Nat.le_refl _) _).alloc (by simp) _
 have hs1 : w1.heap.size = w.heap.size + 2 := by rw [hw1]; simp
 have hx0 : w1.heap[w.heap.size]? = some (.cells #[.string nm, .int .i64 fl, .int .i64 k, .string s, .int .i64 n, .slice A ps.length c, .slice A' fs.length c', .slice A'' vs.length c''] 34 (0, 0)) := by rw [hw1, Below.heap_alloc _ _ _ (by simp)]; exact heap_alloc_new w _
 have hx1 : w1.heap[w.heap.size + 1]? = some (.cells #[.int .i64 0, .string ⟨#[]⟩, .int .i64 0, .slice none 0 0, .slice none 0 0, .slice none 0 0] 26 (0, 0)) := by
  rw [hw1]
  have h := heap_alloc_new (w.alloc (.cells #[.string nm, .int .i64 fl, .int .i64 k, .string s, .int .i64 n, .slice A ps.length c, .slice A' fs.length c', .slice A'' vs.length c''] 34)) (.cells #[.int .i64 0, .string ⟨#[]⟩, .int .i64 0, .slice none 0 0, .slice none 0 0, .slice none 0 0] 26)
  rw [World.size_alloc] at h
  exact h
 have HLO := Lib.hid hlo
 have HR := Lib.hid hr
 have HB1 := Lib.hid hb1
 have HS1 := Lib.hid hs1
 have HX1 := Lib.hid hx1
 have HW1 := Lib.hid hw1
 obtain ⟨g, hg⟩ : ∃ g, g = w.heap.size + 1 := ⟨_, rfl⟩
 have HG := Lib.hid hg
 have HL : Hid (ListT (fun b => K b ∨ b = w.heap.size + 2) (w1.alloc (.cells #[.int .i64 k, .string s, .int .i64 n, .slice A ps.length c, .slice A' fs.length c', .slice A'' vs.length c''] 26)) [.mk k s n ps fs vs] (some ⟨w.heap.size + 2, 0, none⟩) 1) := Lib.hid (list_lit hr (hb1.alloc hb1.size _) hlo (by rw [← hs1]; exact heap_alloc_new w1 _))
 have kn := ornull_any hU HL.out.both (fun b h => h.2) hn (by simp)
 simp only [List.length_singleton] at kn
 have KN := Lib.hid kn
 clear kn
 have e2 : (w1.alloc (.cells #[.int .i64 k, .string s, .int .i64 n, .slice A ps.length c, .slice A' fs.length c', .slice A'' vs.length c''] 26)).heap.size = w.heap.size + 3 := by rw [World.size_alloc, hs1]
 have HE2 := Lib.hid e2
 rcases hfl with rfl | rfl | rfl | rfl
 ·rw [show heldT (nm, 0, .mk k s n ps fs vs) = .mk k s n ps fs vs from rfl]
  unfold TyPost
  obtain ⟨x0, x1, x2, x3, x4, x5, x6, x7⟩ := cz8 hx0
  clear hr hlo hb1 hs1 hx0 hx1 e2 hg hw1
  go_enter Tryz.func60, Tryz.ntmps60
  go_upto_region 1 with fail
  rw [← HW1.out, ← HG.out]
  clear HW1
  go_upto_region 3 with fail
  have rb := HX1.out
  rw [← HG.out] at rb
  have HBE := Lib.hid HB1.out
  have hr' : RepT (fun b => K b ∨ g < b) _ (.mk k s n ps fs vs) [.int .i64 k, .string s, .int .i64 n, .slice A ps.length c, .slice A' fs.length c', .slice A'' vs.length c''] := (HR.out.later HB1.out).weak fun b h => Or.inl h
  have HR4 := Lib.hid hr'
  clear hr'
  obtain ⟨q0, q1, q2, q3, q4, q5, z0, z1, z2, z3, z4, z5⟩ := qz6 rb
  have RBX := Lib.hid rb
  clear rb
  go_wp2_with fail
  have rs := six_set RBX.out (.int .i64 k) (.string s) (.int .i64 n) (.slice A ps.length c) (.slice A' fs.length c') (.slice A'' vs.length c'')
  obtain ⟨r0, r1, r2, r3, r4, r5⟩ := cz6 rs
  clear q0 q1 q2 q3 q4 q5 z0 z1 z2 z3 z4 z5 RBX rs
  refine bodyPost_ret (v := .agg #[.int .i64 k, .string s, .int .i64 n, .slice A ps.length c, .slice A' fs.length c', .slice A'' vs.length c'']) (by simp [results, Tryz.results60, go_sem, r0, r1, r2, r3, r4, r5]) rfl ?_
  clear r0 r1 r2 r3 r4 r5
  exact ⟨[.int .i64 k, .string s, .int .i64 n, .slice A ps.length c, .slice A' fs.length c', .slice A'' vs.length c''], rfl, ret_box HR4.out (fun b h => by have := HLO.out b h; have := HG.out; omega) (by have := HG.out; omega) _ _ _ _ _ _, set_six_below HBE.out (by have := HG.out; omega) _ _ _ _ _ _⟩
 ·generalize hu : heldT (nm, 1, .mk k s n ps fs vs) = u
  obtain ⟨k2, s2, n2, ps2, fs2, vs2⟩ := u
  have HUE : Hid (unionT [tyK 4, .mk k s n ps fs vs] = .mk k2 s2 n2 ps2 fs2 vs2) := Lib.hid (by rw [← hu]; rfl)
  unfold TyPost
  clear HW1
  subst hw1
  obtain ⟨x0, x1, x2, x3, x4, x5, x6, x7⟩ := cz8 hx0
  clear hr hlo hb1 hs1 hx0 hx1 e2 hg hu
  go_enter Tryz.func60, Tryz.ntmps60
  go_wp2_with fail
  refine KN.out.mono ?_
  rintro e w4 ⟨rs, rfl, hr4, hb4⟩
  have hbl : Below _ _ w4 := (((Below.refl _ _).alloc (Nat.le_refl _) _).trans (hb4.mono (by simp)))
  have HBE := Lib.hid (HB1.out.trans (hbl.mono HB1.out.size))
  have rb := (hbl.block (w.heap.size + 1) (by have := HS1.out; omega)).trans HX1.out
  have hr' : RepT (fun b => K b ∨ w.heap.size + 1 < b) w4 (unionT [tyK 4, .mk k s n ps fs vs]) rs := hr4.weak fun b h => by
   rcases h with ⟨h | h, -⟩ | h
   ·exact .inl h
   ·exact .inr (by omega)
   ·exact .inr (by have := HE2.out; omega)
  clear hr4 hb4 KN hbl x0 x1 x2 x3 x4 x5 x6 x7
  rw [HUE.out] at hr'
  obtain ⟨Aq, cq, Ag, cg, Ah, ch, rfl, -⟩ := hr'.inv
  have HR4 := Lib.hid hr'
  simp only [cells6T] at HR4 ⊢
  clear hr'
  obtain ⟨q0, q1, q2, q3, q4, q5, z0, z1, z2, z3, z4, z5⟩ := qz6 rb
  have RBX := Lib.hid rb
  clear rb
  go_wp2_with fail
  have rs := six_set RBX.out (.int .i64 k2) (.string s2) (.int .i64 n2) (.slice Aq ps2.length cq) (.slice Ag fs2.length cg) (.slice Ah vs2.length ch)
  obtain ⟨r0, r1, r2, r3, r4, r5⟩ := cz6 rs
  clear q0 q1 q2 q3 q4 q5 z0 z1 z2 z3 z4 z5 RBX rs
  refine bodyPost_ret (v := .agg #[.int .i64 k2, .string s2, .int .i64 n2, .slice Aq ps2.length cq, .slice Ag fs2.length cg, .slice Ah vs2.length ch]) (by simp [results, Tryz.results60, go_sem, r0, r1, r2, r3, r4, r5]) rfl ?_
  clear r0 r1 r2 r3 r4 r5
  exact ⟨[.int .i64 k2, .string s2, .int .i64 n2, .slice Aq ps2.length cq, .slice Ag fs2.length cg, .slice Ah vs2.length ch], rfl, ret_box HR4.out (fun b h => by have := HLO.out b h; omega) (Nat.le_succ _) _ _ _ _ _ _, set_six_below HBE.out (Nat.le_succ _) _ _ _ _ _ _⟩
 ·rw [show heldT (nm, 2, .mk k s n ps fs vs) = .mk k s n ps fs vs from rfl]
  unfold TyPost
  obtain ⟨x0, x1, x2, x3, x4, x5, x6, x7⟩ := cz8 hx0
  clear hr hlo hb1 hs1 hx0 hx1 e2 hg hw1
  go_enter Tryz.func60, Tryz.ntmps60
  go_upto_region 1 with fail
  rw [← HW1.out, ← HG.out]
  clear HW1
  go_upto_region 3 with fail
  have rb := HX1.out
  rw [← HG.out] at rb
  have HBE := Lib.hid HB1.out
  have hr' : RepT (fun b => K b ∨ g < b) _ (.mk k s n ps fs vs) [.int .i64 k, .string s, .int .i64 n, .slice A ps.length c, .slice A' fs.length c', .slice A'' vs.length c''] := (HR.out.later HB1.out).weak fun b h => Or.inl h
  have HR4 := Lib.hid hr'
  clear hr'
  obtain ⟨q0, q1, q2, q3, q4, q5, z0, z1, z2, z3, z4, z5⟩ := qz6 rb
  have RBX := Lib.hid rb
  clear rb
  go_wp2_with fail
  have rs := six_set RBX.out (.int .i64 k) (.string s) (.int .i64 n) (.slice A ps.length c) (.slice A' fs.length c') (.slice A'' vs.length c'')
  obtain ⟨r0, r1, r2, r3, r4, r5⟩ := cz6 rs
  clear q0 q1 q2 q3 q4 q5 z0 z1 z2 z3 z4 z5 RBX rs
  refine bodyPost_ret (v := .agg #[.int .i64 k, .string s, .int .i64 n, .slice A ps.length c, .slice A' fs.length c', .slice A'' vs.length c'']) (by simp [results, Tryz.results60, go_sem, r0, r1, r2, r3, r4, r5]) rfl ?_
  clear r0 r1 r2 r3 r4 r5
  exact ⟨[.int .i64 k, .string s, .int .i64 n, .slice A ps.length c, .slice A' fs.length c', .slice A'' vs.length c''], rfl, ret_box HR4.out (fun b h => by have := HLO.out b h; have := HG.out; omega) (by have := HG.out; omega) _ _ _ _ _ _, set_six_below HBE.out (by have := HG.out; omega) _ _ _ _ _ _⟩
 ·generalize hu : heldT (nm, 3, .mk k s n ps fs vs) = u
  obtain ⟨k2, s2, n2, ps2, fs2, vs2⟩ := u
  have HUE : Hid (unionT [tyK 4, .mk k s n ps fs vs] = .mk k2 s2 n2 ps2 fs2 vs2) := Lib.hid (by rw [← hu]; rfl)
  unfold TyPost
  clear HW1
  subst hw1
  obtain ⟨x0, x1, x2, x3, x4, x5, x6, x7⟩ := cz8 hx0
  clear hr hlo hb1 hs1 hx0 hx1 e2 hg hu
  go_enter Tryz.func60, Tryz.ntmps60
  go_wp2_with fail
  refine KN.out.mono ?_
  rintro e w4 ⟨rs, rfl, hr4, hb4⟩
  have hbl : Below _ _ w4 := (((Below.refl _ _).alloc (Nat.le_refl _) _).trans (hb4.mono (by simp)))
  have HBE := Lib.hid (HB1.out.trans (hbl.mono HB1.out.size))
  have rb := (hbl.block (w.heap.size + 1) (by have := HS1.out; omega)).trans HX1.out
  have hr' : RepT (fun b => K b ∨ w.heap.size + 1 < b) w4 (unionT [tyK 4, .mk k s n ps fs vs]) rs := hr4.weak fun b h => by
   rcases h with ⟨h | h, -⟩ | h
   ·exact .inl h
   ·exact .inr (by omega)
   ·exact .inr (by have := HE2.out; omega)
  clear hr4 hb4 KN hbl x0 x1 x2 x3 x4 x5 x6 x7
  rw [HUE.out] at hr'
  obtain ⟨Aq, cq, Ag, cg, Ah, ch, rfl, -⟩ := hr'.inv
  have HR4 := Lib.hid hr'
  simp only [cells6T] at HR4 ⊢
  clear hr'
  obtain ⟨q0, q1, q2, q3, q4, q5, z0, z1, z2, z3, z4, z5⟩ := qz6 rb
  have RBX := Lib.hid rb
  clear rb
  go_wp2_with fail
  have rs := six_set RBX.out (.int .i64 k2) (.string s2) (.int .i64 n2) (.slice Aq ps2.length cq) (.slice Ag fs2.length cg) (.slice Ah vs2.length ch)
  obtain ⟨r0, r1, r2, r3, r4, r5⟩ := cz6 rs
  clear q0 q1 q2 q3 q4 q5 z0 z1 z2 z3 z4 z5 RBX rs
  refine bodyPost_ret (v := .agg #[.int .i64 k2, .string s2, .int .i64 n2, .slice Aq ps2.length cq, .slice Ag fs2.length cg, .slice Ah vs2.length ch]) (by simp [results, Tryz.results60, go_sem, r0, r1, r2, r3, r4, r5]) rfl ?_
  clear r0 r1 r2 r3 r4 r5
  exact ⟨[.int .i64 k2, .string s2, .int .i64 n2, .slice Aq ps2.length cq, .slice Ag fs2.length cg, .slice Ah vs2.length ch], rfl, ret_box HR4.out (fun b h => by have := HLO.out b h; omega) (Nat.le_succ _) _ _ _ _ _ _, set_six_below HBE.out (Nat.le_succ _) _ _ _ _ _ _⟩
end Go.Proofs.YtfchnfnifpopnaaGreatDoor
