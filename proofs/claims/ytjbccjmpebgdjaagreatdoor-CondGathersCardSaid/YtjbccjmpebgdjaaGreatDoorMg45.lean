import Derived.Test.YtjbccjmpebgdjaaGreatDoorMg42
import Derived.Test.YtjbccjmpebgdjaaGreatDoorMg44
namespace Go.Proofs.YtjbccjmpebgdjaaGreatDoor
open Go.RowKit
set_option maxRecDepth 100000
set_option maxHeartbeats 64000000
theorem gatN_take (s : ByteArray) (G : List (ByteArray × Ty)) (k : Nat) (hk : k < G.length) : gatN s (G.take (k + 1)) = gatN s (G.take k) ++ if G[k].1 = s then [G[k].2] else [] := by
 rw [List.take_succ_eq_append_getElem hk, gatN_app]
 congr 1
 exact gatN_one G[k].1 G[k].2 s
theorem gatN_len (s : ByteArray) (G : List (ByteArray × Ty)) : (gatN s G).length ≤ G.length := by
 unfold gatN
 rw [List.length_map]
 exact List.length_filter_le _ _
theorem mem_gatN {s : ByteArray} {G : List (ByteArray × Ty)} {t : Ty} (h : t ∈ gatN s G) : ∃ x ∈ G, x.2 = t := by
 unfold gatN at h
 obtain ⟨y, hy, rfl⟩ := List.mem_map.1 h
 exact ⟨y, (List.mem_filter.1 hy).1, rfl⟩
theorem all_ite {α : Type} {P : α → Prop} {c : Prop} [Decidable c] {a b : List α} (h1 : c → ∀ x ∈ a, P x) (h2 : ¬ c → ∀ x ∈ b, P x) : ∀ x ∈ (if c then a else b), P x := by
 by_cases h : c
 ·rw [if_pos h]; exact h1 h
 ·rw [if_neg h]; exact h2 h
theorem mem_head {β : Type} {l : List (List β)} {x : β} (h : x ∈ l.headD []) : ∃ y ∈ l, x ∈ y := by
 cases l with
 | nil => cases h
 | cons a l => exact ⟨a, List.mem_cons_self, h⟩
theorem mem_zip : ∀ (ps ts : List Ty) (y : List (ByteArray × Ty)), y ∈ List.zipWith gathT ps ts → ∃ q ∈ ps, ∃ u ∈ ts, y = gathT q u
 | [], _, _, h => by simp at h
 | _ :: _, [], _, h => by simp at h
 | a :: l, b :: m, y, h => by
  rw [List.zipWith_cons_cons] at h
  rcases List.mem_cons.1 h with rfl | h
  ·exact ⟨a, List.mem_cons_self, b, List.mem_cons_self, rfl⟩
  ·obtain ⟨q, hq, u, hu, e⟩ := mem_zip l m y h
   exact ⟨q, List.mem_cons_of_mem _ hq, u, List.mem_cons_of_mem _ hu, e⟩
theorem gath_form (p t : Ty) (hp : formT p = true) (ht : formT t = true) : ∀ x ∈ gathT p t, formT x.2 = true ∧ cntT x.2 ≤ cntT p + cntT t := by
 have hc := cnt_ps p
 have hw := cnt_ps t
 have hcu := cnt_union t.ps
 have ih1 : ∀ q ∈ p.ps, ∀ u, formT u = true → cntT u ≤ cntT t + 1 → ∀ x ∈ gathT q u, formT x.2 = true ∧ cntT x.2 ≤ cntT p + cntT t := fun q hq u hu hcx x hx => by
  have h1 := gath_form q u (form_ps hp q hq) hu x hx
  have h2 := cntL_mem hq
  exact ⟨h1.1, by omega⟩
 have ih2 : ∀ u ∈ t.ps, ∀ x ∈ gathT p u, formT x.2 = true ∧ cntT x.2 ≤ cntT p + cntT t := fun u hu x hx => by
  have h1 := gath_form p u hp (form_ps ht u hu) x hx
  have h2 := cntL_mem hu
  exact ⟨h1.1, by omega⟩
 have ih3 : ∀ f ∈ p.fs, ∀ u, formT u = true → cntT u ≤ cntT t + 1 → ∀ x ∈ gathT f.2.2 u, formT x.2 = true ∧ cntT x.2 ≤ cntT p + cntT t := fun f hf u hu hcx x hx => by
  have h1 := gath_form f.2.2 u (form_fs hp f hf) hu x hx
  have h2 := cnt_fs hf
  exact ⟨h1.1, by omega⟩
 have zip : ∀ ps ts : List Ty, (∀ q ∈ ps, q ∈ p.ps) → (∀ u ∈ ts, u ∈ t.ps) → ∀ y ∈ List.zipWith gathT ps ts, ∀ x ∈ y, formT x.2 = true ∧ cntT x.2 ≤ cntT p + cntT t := fun ps ts h1 h2 y hy x hx => by
  obtain ⟨q, hq, u, hu, rfl⟩ := mem_zip ps ts y hy
  have h3 := cntL_mem (h2 u hu)
  exact ih1 q (h1 q hq) u (form_ps ht u (h2 u hu)) (by omega) x hx
 rw [gathT_eq]
 refine all_ite (fun _ _ h => by cases h) fun _ => all_ite (fun _ x hx => ?_) fun _ => all_ite (fun _ x hx => ?_) fun _ => all_ite (fun _ _ h => by cases h) fun _ => all_ite (fun _ x hx => ?_) fun _ => all_ite (fun _ x hx => ?_) fun _ => all_ite (fun _ _ h => by cases h) fun _ => all_ite (fun _ x hx => ?_) fun _ => all_ite (fun _ => all_ite (fun _ x hx => ?_) fun _ _ h => by cases h) fun _ => all_ite (fun _ x hx => ?_) fun _ => all_ite (fun _ x hx => ?_) fun _ _ h => by cases h
 ·rw [List.mem_singleton] at hx
  subst hx
  exact ⟨ht, by show cntT t ≤ _; omega⟩
 ·obtain ⟨y, hy, hx⟩ := List.mem_flatten.1 hx
  obtain ⟨q, hq, rfl⟩ := List.mem_map.1 hy
  exact ih1 q hq t ht (by omega) x hx
 ·obtain ⟨y, hy, hx⟩ := List.mem_flatten.1 hx
  obtain ⟨u, hu, rfl⟩ := List.mem_map.1 hy
  exact ih2 u hu x hx
 ·obtain ⟨y, hy, hx⟩ := mem_head hx
  obtain ⟨q, hq, rfl⟩ := List.mem_map.1 hy
  exact ih1 q hq _ (form_union (form_ps ht)) (by omega) x hx
 ·obtain ⟨y, hy, hx⟩ := mem_head hx
  exact zip p.ps t.ps (fun _ h => h) (fun _ h => h) y hy x hx
 ·obtain ⟨y, hy, hx⟩ := List.mem_flatten.1 hx
  exact zip p.ps t.ps (fun _ h => h) (fun _ h => h) y hy x hx
 ·rcases List.mem_append.1 hx with hx | hx
  ·obtain ⟨y, hy, hx⟩ := List.mem_flatten.1 hx
   exact zip _ _ (fun _ h => mem_dropLast h) (fun _ h => mem_dropLast h) y hy x hx
  ·cases hq : p.ps.getLast? with
   | none => rw [hq] at hx; cases hx
   | some q =>
    cases hu : t.ps.getLast? with
    | none => rw [hq, hu] at hx; cases hx
    | some u =>
     rw [hq, hu] at hx
     have hm := List.mem_of_getLast? hu
     have h3 := cntL_mem hm
     exact ih1 q (List.mem_of_getLast? hq) u (form_ps ht u hm) (by omega) x hx
 ·obtain ⟨y, hy, hx⟩ := List.mem_flatten.1 hx
  obtain ⟨f, hf, rfl⟩ := List.mem_map.1 hy
  cases hg : t.fs.find? fun g => decide (g.1 = f.1) with
  | none => rw [hg] at hx; cases hx
  | some g =>
   rw [hg] at hx
   have hm := List.mem_of_find?_eq_some hg
   have h3 := cnt_fs hm
   have h4 := cnt_held g
   exact ih3 f hf _ (form_held (form_fs ht g hm)) (by omega) x hx
termination_by (SizeOf.sizeOf p, SizeOf.sizeOf t)
decreasing_by
 all_goals first
  | exact Prod.Lex.left _ _ (lt_ps ‹_›)
  | exact Prod.Lex.right _ (lt_ps ‹_›)
  | exact Prod.Lex.left _ _ (lt_fs ‹_›)
theorem cntL_bound (c : Nat) : ∀ l : List Ty, (∀ x ∈ l, cntT x ≤ c) → cntL l ≤ l.length * c
 | [], _ => Nat.zero_le _
 | a :: l, h => by
  have h1 := h a List.mem_cons_self
  have h2 := cntL_bound c l fun q hq => h q (List.mem_cons_of_mem _ hq)
  rw [cntL_cons, List.length_cons, Nat.succ_mul]; omega
theorem gath_small {p t : Ty} (h : cntT p + cntT t ≤ 1000) : (gathT p t).length ≤ 3000000 := by
 have h1 := gath_len p t
 have h2 := w_cnt t
 have h3 : cntT p * wT t ≤ 1000 * 3000 := Nat.mul_le_mul (by omega) (by omega)
 omega
theorem gat_ok {p t : Ty} (hp : formT p = true) (ht : formT t = true) (h : cntT p + cntT t ≤ 1000) (s : ByteArray) : (gatN s (gathT p t)).all formT = true ∧ cntL (gatN s (gathT p t)) ≤ 3000000000 ∧ (gatN s (gathT p t)).length ≤ 3000000 := by
 have h1 := Nat.le_trans (gatN_len s (gathT p t)) (gath_small h)
 refine ⟨?_, ?_, h1⟩
 ·rw [List.all_eq_true]
  intro x hx
  obtain ⟨y, hy, rfl⟩ := mem_gatN hx
  exact (gath_form p t hp ht y hy).1
 ·refine Nat.le_trans (cntL_bound 1000 _ fun x hx => ?_) (Nat.le_trans (Nat.mul_le_mul h1 (Nat.le_refl _)) (by decide))
  obtain ⟨y, hy, rfl⟩ := mem_gatN hx
  have := (gath_form p t hp ht y hy).2
  omega
structure OutB (K : Nat → Prop) (w0 w : World) (B : Nat) (v : Value) (ts : List Ty) : Prop where
 ex : ∃ vs, w.ownsRow B 26 6 v ts.length vs ∧ ∀ i (h : i < ts.length), ∃ cs, RepT K w0 ts[i] cs ∧ ∀ j u, cs[j]? = some u → vs[i * 6 + j]? = some u
theorem OutB.nil (K : Nat → Prop) (w0 w : World) (B : Nat) : OutB K w0 w B (.slice none 0 0) [] := ⟨[], ⟨by simp, .inl ⟨rfl, rfl⟩⟩, fun i h => absurd h (by simp)⟩
theorem OutB.later {K : Nat → Prop} {w0 w w' : World} {B : Nat} {v : Value} {ts : List Ty} (h : OutB K w0 w B v ts) (hb : Below w.heap.size w w') : OutB K w0 w' B v ts := by
 obtain ⟨vs, h1, h2⟩ := h
 exact ⟨vs, ownsRow_keep h1 fun b e => hb.block b (h1.lt b e).2, h2⟩
theorem OutB.push {K : Nat → Prop} {w0 w' : World} {B : Nat} {v' : Value} {ts : List Ty} {t : Ty} {vs cs : List Value} (hl : vs.length = ts.length * 6) (h : ∀ i (h : i < ts.length), ∃ cs, RepT K w0 ts[i] cs ∧ ∀ j u, cs[j]? = some u → vs[i * 6 + j]? = some u)
  (ht : RepT K w0 t cs) (ho : w'.ownsRow B 26 6 v' (ts.length + 1) (vs ++ cs)) : OutB K w0 w' B v' (ts ++ [t]) := by
 refine ⟨⟨vs ++ cs, by rw [List.length_append]; exact ho, fun i hi => ?_⟩⟩
 rw [List.length_append, List.length_singleton] at hi
 by_cases hlt : i < ts.length
 ·obtain ⟨cs', h1, h2⟩ := h i hlt
  refine ⟨cs', by rw [List.getElem_append_left hlt]; exact h1, fun j u hj => ?_⟩
  have h3 := h2 j u hj
  rw [List.getElem?_append_left (List.getElem?_eq_some_iff.1 h3).1]
  exact h3
 ·obtain rfl : i = ts.length := by omega
  refine ⟨cs, by rw [List.getElem_append_right (by omega)]; simpa using ht, fun j u hj => ?_⟩
  rw [List.getElem?_append_right (by omega), show ts.length * 6 + j - vs.length = j from by omega]
  exact hj
theorem OutB.list {K : Nat → Prop} {w0 w : World} {B : Nat} {v : Value} {ts : List Ty} (h : OutB K w0 w B v ts) (hlo : ∀ b, K b → b < w0.heap.size) (hb : Below w0.heap.size w0 w) (hl : ts.length ≤ 1000000000000000) : ∃ A c, v = .slice A ts.length c ∧ ListT (fun b => K b ∨ B ≤ b) w ts A c := by
 obtain ⟨vs, h1, h2⟩ := h
 rcases h1.2 with ⟨hv, hn⟩ | ⟨g, cap, cur, hv, hg, hh, hle, hmax, hsz, htk⟩
 ·have hts := List.eq_nil_of_length_eq_zero hn
  subst hts
  exact ⟨none, 0, hv, ⟨0, 0, ⟨by simp, by simp, fun _ => rfl, fun h => absurd h (by simp)⟩, fun i h => absurd h (by simp)⟩⟩
 ·refine ⟨_, cap, hv, ⟨g, 0, ⟨hle, hl, (fun h => by cases h), fun _ => ⟨rfl, .inr hg⟩⟩, fun i hi => ?_⟩⟩
  obtain ⟨cs, h4, h5⟩ := h2 i hi
  refine ⟨cs, fun j u hj => ?_, RepT.keep (fun _ h => .inl h) (fun b o v hk hc => (World.cell?_of_block (hb.block b (hlo b hk))).trans hc) _ _ h4⟩
  have h6 := h5 j u hj
  rw [← htk, List.getElem?_take] at h6
  split at h6
  ·rw [Nat.zero_add, Ch hh]; simpa using h6
  ·cases h6
theorem OwnE.spread {α : Type} {E : (Nat → Prop) → World → α → List Value → Prop} {T : TypeId} {z B : Nat} {w : World} {v : Value} {l : List α} (h : OwnE E T z B w v l) : ∃ A c g o, v = .slice A l.length c ∧ (0 < l.length → A = some ⟨g, o, none⟩ ∧ B ≤ g ∧ g < w.heap.size) ∧ ∀ i (h : i < l.length), ∃ cs, E (fun b => b < w.heap.size ∧ b ≠ g) w l[i] cs ∧ cs.length = z ∧ ∀ j u, cs[j]? = some u → w.cell? ⟨g, o + i * z + j, none⟩ = some u := by
 obtain ⟨A, c, hv, hA, hat⟩ := h.slice
 rcases hA with ⟨hl, -, -⟩ | ⟨g, hg, hB, hlt⟩
 ·subst hl
  exact ⟨A, c, 0, 0, hv, fun h => absurd h (by simp), fun i h => absurd h (by simp)⟩
 ·refine ⟨A, c, g, 0, hv, fun _ => ⟨hg, hB, hlt⟩, fun i hi => ?_⟩
  obtain ⟨g', cs, h1, h2, h3, h4⟩ := hat i hi
  rw [hg] at h1
  injection h1 with h1
  injection h1 with h1
  subst h1
  exact ⟨cs, h2, h3, fun j u hj => by rw [Nat.zero_add]; exact h4 j u hj⟩
theorem OwnE.base {α : Type} {E : (Nat → Prop) → World → α → List Value → Prop} {T : TypeId} {z B B' : Nat} {w : World} {v : Value} {l : List α} (h : OwnE E T z B w v l) (hB : B' ≤ B) : OwnE E T z B' w v l := by
 obtain ⟨vs, h1, h2⟩ := h
 refine ⟨vs, ⟨h1.1, ?_⟩, h2⟩
 rcases h1.2 with h3 | ⟨g, cap, cur, hv, hg, r⟩
 ·exact .inl h3
 ·exact .inr ⟨g, cap, cur, hv, Nat.le_trans hB hg, r⟩
theorem ag_n0 (k k2 : Int) (s : ByteArray) (n : Int) (ps : List Ty) (fs : FsT) (vs : VsT) (s2 : ByteArray) (n2 : Int) (ps2 : List Ty) (fs2 : FsT) (vs2 : VsT) (h22 : ¬ k2 = 22) (h15 : ¬ k2 = 15) (hcc : ¬ k2 = 11 ∧ ¬ k2 = 12 ∧ ¬ k2 = 13 ∧ ¬ k2 = 14 ∧ ¬ k2 = 17) (hga : gathT (.mk k2 s2 n2 ps2 fs2 vs2) (.mk k s n ps fs vs) = []) : AgP (.mk k2 s2 n2 ps2 fs2 vs2) (.mk k s n ps fs vs) := by
 refine ag_pre k s n ps fs vs k2 s2 n2 ps2 fs2 vs2 fun K K' B0 w v G A c B d C e A2 c2 B2 d2 C2 e2 w1 h => ?_
 obtain ⟨hr, hp, hkT, hkP, hB, hO, hfp, hft, hct, hlen, hLt, hLg, hLp, hLf, hown, hb1, HBX, HO1, HG1, HW1⟩ := h
 rw [hga, List.append_nil]
 have fk222 : (k2 == 22) = false := beq_eq_false_iff_ne.2 (by omega)
 have gk222 : decide (k2 = 22) = false := decide_eq_false (by omega)
 have fk215 : (k2 == 15) = false := beq_eq_false_iff_ne.2 (by omega)
 have gk215 : decide (k2 = 15) = false := decide_eq_false (by omega)
 have fk211 : (k2 == 11) = false := beq_eq_false_iff_ne.2 (by omega)
 have gk211 : decide (k2 = 11) = false := decide_eq_false (by omega)
 have fk212 : (k2 == 12) = false := beq_eq_false_iff_ne.2 (by omega)
 have gk212 : decide (k2 = 12) = false := decide_eq_false (by omega)
 have fk213 : (k2 == 13) = false := beq_eq_false_iff_ne.2 (by omega)
 have gk213 : decide (k2 = 13) = false := decide_eq_false (by omega)
 have fk214 : (k2 == 14) = false := beq_eq_false_iff_ne.2 (by omega)
 have gk214 : decide (k2 = 14) = false := decide_eq_false (by omega)
 have fk217 : (k2 == 17) = false := beq_eq_false_iff_ne.2 (by omega)
 have gk217 : decide (k2 = 17) = false := decide_eq_false (by omega)
 clear hga h22 h15 hcc
 clear hr hp hkT hkP hB hO hfp hft hct hlen hLt hLg hLp hLf hb1 hown
 go_enter Tryz.func30, Tryz.ntmps30
 go_upto_region 1 with fail
 rw [← HW1.out]
 obtain ⟨⟨x0, x1, x2, x3, x4, x5⟩, ⟨y0, y1, y2, y3, y4, y5⟩⟩ := HBX.out _ _ (Gro.refl _ _)
 go_wp2_with fail
 go_ret
 exact AgPost.from HG1.out ⟨v, rfl, HO1.out, Gro.refl _ _⟩
theorem ag_n11 (k : Int) (s : ByteArray) (n : Int) (ps : List Ty) (fs : FsT) (vs : VsT) (s2 : ByteArray) (n2 : Int) (ps2 : List Ty) (fs2 : FsT) (vs2 : VsT) (h1 : ¬ k = 11 ∧ ¬ k = 12 ∧ ¬ k = 15) (hga : gathT (.mk 11 s2 n2 ps2 fs2 vs2) (.mk k s n ps fs vs) = []) : AgP (.mk 11 s2 n2 ps2 fs2 vs2) (.mk k s n ps fs vs) := by
 refine ag_pre k s n ps fs vs 11 s2 n2 ps2 fs2 vs2 fun K K' B0 w v G A c B d C e A2 c2 B2 d2 C2 e2 w1 h => ?_
 obtain ⟨hr, hp, hkT, hkP, hB, hO, hfp, hft, hct, hlen, hLt, hLg, hLp, hLf, hown, hb1, HBX, HO1, HG1, HW1⟩ := h
 rw [hga, List.append_nil]
 have fk11 : (k == 11) = false := beq_eq_false_iff_ne.2 (by omega)
 have gk11 : decide (k = 11) = false := decide_eq_false (by omega)
 have fk12 : (k == 12) = false := beq_eq_false_iff_ne.2 (by omega)
 have gk12 : decide (k = 12) = false := decide_eq_false (by omega)
 have fk15 : (k == 15) = false := beq_eq_false_iff_ne.2 (by omega)
 have gk15 : decide (k = 15) = false := decide_eq_false (by omega)
 clear hga h1
 clear hr hp hkT hkP hB hO hfp hft hct hlen hLt hLg hLp hLf hb1 hown
 go_enter Tryz.func30, Tryz.ntmps30
 go_upto_region 1 with fail
 rw [← HW1.out]
 obtain ⟨⟨x0, x1, x2, x3, x4, x5⟩, ⟨y0, y1, y2, y3, y4, y5⟩⟩ := HBX.out _ _ (Gro.refl _ _)
 go_wp2_with fail
 go_ret
 exact AgPost.from HG1.out ⟨v, rfl, HO1.out, Gro.refl _ _⟩
theorem ag_n12 (k : Int) (s : ByteArray) (n : Int) (ps : List Ty) (fs : FsT) (vs : VsT) (s2 : ByteArray) (n2 : Int) (ps2 : List Ty) (fs2 : FsT) (vs2 : VsT) (h1 : ¬ k = 12 ∧ ¬ k = 15) (hga : gathT (.mk 12 s2 n2 ps2 fs2 vs2) (.mk k s n ps fs vs) = []) : AgP (.mk 12 s2 n2 ps2 fs2 vs2) (.mk k s n ps fs vs) := by
 refine ag_pre k s n ps fs vs 12 s2 n2 ps2 fs2 vs2 fun K K' B0 w v G A c B d C e A2 c2 B2 d2 C2 e2 w1 h => ?_
 obtain ⟨hr, hp, hkT, hkP, hB, hO, hfp, hft, hct, hlen, hLt, hLg, hLp, hLf, hown, hb1, HBX, HO1, HG1, HW1⟩ := h
 rw [hga, List.append_nil]
 have fk12 : (k == 12) = false := beq_eq_false_iff_ne.2 (by omega)
 have gk12 : decide (k = 12) = false := decide_eq_false (by omega)
 have fk15 : (k == 15) = false := beq_eq_false_iff_ne.2 (by omega)
 have gk15 : decide (k = 15) = false := decide_eq_false (by omega)
 clear hga h1
 clear hr hp hkT hkP hB hO hfp hft hct hlen hLt hLg hLp hLf hb1 hown
 go_enter Tryz.func30, Tryz.ntmps30
 go_upto_region 1 with fail
 rw [← HW1.out]
 obtain ⟨⟨x0, x1, x2, x3, x4, x5⟩, ⟨y0, y1, y2, y3, y4, y5⟩⟩ := HBX.out _ _ (Gro.refl _ _)
 go_wp2_with fail
 go_ret
 exact AgPost.from HG1.out ⟨v, rfl, HO1.out, Gro.refl _ _⟩
theorem ag_n13 (k : Int) (s : ByteArray) (n : Int) (ps : List Ty) (fs : FsT) (vs : VsT) (s2 : ByteArray) (n2 : Int) (ps2 : List Ty) (fs2 : FsT) (vs2 : VsT) (h1 : ¬ k = 13 ∧ ¬ k = 15) (hga : gathT (.mk 13 s2 n2 ps2 fs2 vs2) (.mk k s n ps fs vs) = []) : AgP (.mk 13 s2 n2 ps2 fs2 vs2) (.mk k s n ps fs vs) := by
 refine ag_pre k s n ps fs vs 13 s2 n2 ps2 fs2 vs2 fun K K' B0 w v G A c B d C e A2 c2 B2 d2 C2 e2 w1 h => ?_
 obtain ⟨hr, hp, hkT, hkP, hB, hO, hfp, hft, hct, hlen, hLt, hLg, hLp, hLf, hown, hb1, HBX, HO1, HG1, HW1⟩ := h
 rw [hga, List.append_nil]
 have fk13 : (k == 13) = false := beq_eq_false_iff_ne.2 (by omega)
 have gk13 : decide (k = 13) = false := decide_eq_false (by omega)
 have fk15 : (k == 15) = false := beq_eq_false_iff_ne.2 (by omega)
 have gk15 : decide (k = 15) = false := decide_eq_false (by omega)
 clear hga h1
 clear hr hp hkT hkP hB hO hfp hft hct hlen hLt hLg hLp hLf hb1 hown
 go_enter Tryz.func30, Tryz.ntmps30
 go_upto_region 1 with fail
 rw [← HW1.out]
 obtain ⟨⟨x0, x1, x2, x3, x4, x5⟩, ⟨y0, y1, y2, y3, y4, y5⟩⟩ := HBX.out _ _ (Gro.refl _ _)
 go_wp2_with fail
 go_ret
 exact AgPost.from HG1.out ⟨v, rfl, HO1.out, Gro.refl _ _⟩
theorem ag_n14 (k : Int) (s : ByteArray) (n : Int) (ps : List Ty) (fs : FsT) (vs : VsT) (s2 : ByteArray) (n2 : Int) (ps2 : List Ty) (fs2 : FsT) (vs2 : VsT) (h1 : ¬ k = 14 ∧ ¬ k = 15) (hga : gathT (.mk 14 s2 n2 ps2 fs2 vs2) (.mk k s n ps fs vs) = []) : AgP (.mk 14 s2 n2 ps2 fs2 vs2) (.mk k s n ps fs vs) := by
 refine ag_pre k s n ps fs vs 14 s2 n2 ps2 fs2 vs2 fun K K' B0 w v G A c B d C e A2 c2 B2 d2 C2 e2 w1 h => ?_
 obtain ⟨hr, hp, hkT, hkP, hB, hO, hfp, hft, hct, hlen, hLt, hLg, hLp, hLf, hown, hb1, HBX, HO1, HG1, HW1⟩ := h
 rw [hga, List.append_nil]
 have fk14 : (k == 14) = false := beq_eq_false_iff_ne.2 (by omega)
 have gk14 : decide (k = 14) = false := decide_eq_false (by omega)
 have fk15 : (k == 15) = false := beq_eq_false_iff_ne.2 (by omega)
 have gk15 : decide (k = 15) = false := decide_eq_false (by omega)
 clear hga h1
 clear hr hp hkT hkP hB hO hfp hft hct hlen hLt hLg hLp hLf hb1 hown
 go_enter Tryz.func30, Tryz.ntmps30
 go_upto_region 1 with fail
 rw [← HW1.out]
 obtain ⟨⟨x0, x1, x2, x3, x4, x5⟩, ⟨y0, y1, y2, y3, y4, y5⟩⟩ := HBX.out _ _ (Gro.refl _ _)
 go_wp2_with fail
 go_ret
 exact AgPost.from HG1.out ⟨v, rfl, HO1.out, Gro.refl _ _⟩
theorem ag_n17 (k : Int) (s : ByteArray) (n : Int) (ps : List Ty) (fs : FsT) (vs : VsT) (s2 : ByteArray) (n2 : Int) (ps2 : List Ty) (fs2 : FsT) (vs2 : VsT) (h1 : ¬ k = 17 ∧ ¬ k = 15) (hga : gathT (.mk 17 s2 n2 ps2 fs2 vs2) (.mk k s n ps fs vs) = []) : AgP (.mk 17 s2 n2 ps2 fs2 vs2) (.mk k s n ps fs vs) := by
 refine ag_pre k s n ps fs vs 17 s2 n2 ps2 fs2 vs2 fun K K' B0 w v G A c B d C e A2 c2 B2 d2 C2 e2 w1 h => ?_
 obtain ⟨hr, hp, hkT, hkP, hB, hO, hfp, hft, hct, hlen, hLt, hLg, hLp, hLf, hown, hb1, HBX, HO1, HG1, HW1⟩ := h
 rw [hga, List.append_nil]
 have fk17 : (k == 17) = false := beq_eq_false_iff_ne.2 (by omega)
 have gk17 : decide (k = 17) = false := decide_eq_false (by omega)
 have fk15 : (k == 15) = false := beq_eq_false_iff_ne.2 (by omega)
 have gk15 : decide (k = 15) = false := decide_eq_false (by omega)
 clear hga h1
 clear hr hp hkT hkP hB hO hfp hft hct hlen hLt hLg hLp hLf hb1 hown
 go_enter Tryz.func30, Tryz.ntmps30
 go_upto_region 1 with fail
 rw [← HW1.out]
 obtain ⟨⟨x0, x1, x2, x3, x4, x5⟩, ⟨y0, y1, y2, y3, y4, y5⟩⟩ := HBX.out _ _ (Gro.refl _ _)
 go_wp2_with fail
 go_ret
 exact AgPost.from HG1.out ⟨v, rfl, HO1.out, Gro.refl _ _⟩
theorem ag_l12 (s : ByteArray) (n : Int) (ps : List Ty) (fs : FsT) (vs : VsT) (s2 : ByteArray) (n2 : Int) (ps2 : List Ty) (fs2 : FsT) (vs2 : VsT) (hln : ¬ ps.length = ps2.length) (hga : gathT (.mk 12 s2 n2 ps2 fs2 vs2) (.mk 12 s n ps fs vs) = []) : AgP (.mk 12 s2 n2 ps2 fs2 vs2) (.mk 12 s n ps fs vs) := by
 refine ag_pre 12 s n ps fs vs 12 s2 n2 ps2 fs2 vs2 fun K K' B0 w v G A c B d C e A2 c2 B2 d2 C2 e2 w1 h => ?_
 obtain ⟨hr, hp, hkT, hkP, hB, hO, hfp, hft, hct, hlen, hLt, hLg, hLp, hLf, hown, hb1, HBX, HO1, HG1, HW1⟩ := h
 rw [hga, List.append_nil]
 have e1 : (((ps.length : Nat) : Int) == ((ps2.length : Nat) : Int)) = false := beq_eq_false_iff_ne.2 (by omega)
 have e2 : decide (((ps.length : Nat) : Int) = ((ps2.length : Nat) : Int)) = false := decide_eq_false (by omega)
 have e3 : decide (ps.length = ps2.length) = false := decide_eq_false hln
 have e4 : (ps.length == ps2.length) = false := beq_eq_false_iff_ne.2 hln
 clear hga hln
 clear hr hp hkT hkP hB hO hfp hft hct hlen hLt hLg hLp hLf hb1 hown
 go_enter Tryz.func30, Tryz.ntmps30
 go_upto_region 1 with fail
 rw [← HW1.out]
 obtain ⟨⟨x0, x1, x2, x3, x4, x5⟩, ⟨y0, y1, y2, y3, y4, y5⟩⟩ := HBX.out _ _ (Gro.refl _ _)
 go_wp2_with fail
 go_ret
 exact AgPost.from HG1.out ⟨v, rfl, HO1.out, Gro.refl _ _⟩
theorem ag_v13 (s : ByteArray) (n : Int) (ps : List Ty) (fs : FsT) (vs : VsT) (s2 : ByteArray) (n2 : Int) (ps2 : List Ty) (fs2 : FsT) (vs2 : VsT) (hv : ¬ vs.length = 0) (hga : gathT (.mk 13 s2 n2 ps2 fs2 vs2) (.mk 13 s n ps fs vs) = []) : AgP (.mk 13 s2 n2 ps2 fs2 vs2) (.mk 13 s n ps fs vs) := by
 refine ag_pre 13 s n ps fs vs 13 s2 n2 ps2 fs2 vs2 fun K K' B0 w v G A c B d C e A2 c2 B2 d2 C2 e2 w1 h => ?_
 obtain ⟨hr, hp, hkT, hkP, hB, hO, hfp, hft, hct, hlen, hLt, hLg, hLp, hLf, hown, hb1, HBX, HO1, HG1, HW1⟩ := h
 rw [hga, List.append_nil]
 have v1 : (((vs.length : Nat) : Int) == 0) = false := beq_eq_false_iff_ne.2 (by omega)
 have v2 : decide (((vs.length : Nat) : Int) = 0) = false := decide_eq_false (by omega)
 have v3 : decide (vs.length = 0) = false := decide_eq_false hv
 clear hga hv
 clear hr hp hkT hkP hB hO hfp hft hct hlen hLt hLg hLp hLf hb1 hown
 go_enter Tryz.func30, Tryz.ntmps30
 go_upto_region 1 with fail
 rw [← HW1.out]
 obtain ⟨⟨x0, x1, x2, x3, x4, x5⟩, ⟨y0, y1, y2, y3, y4, y5⟩⟩ := HBX.out _ _ (Gro.refl _ _)
 go_wp2_with fail
 go_ret
 exact AgPost.from HG1.out ⟨v, rfl, HO1.out, Gro.refl _ _⟩
theorem ag_t17 (s : ByteArray) (n : Int) (ps : List Ty) (fs : FsT) (vs : VsT) (s2 : ByteArray) (n2 : Int) (ps2 : List Ty) (fs2 : FsT) (vs2 : VsT) (hs : ¬ s = s2) (hga : gathT (.mk 17 s2 n2 ps2 fs2 vs2) (.mk 17 s n ps fs vs) = []) : AgP (.mk 17 s2 n2 ps2 fs2 vs2) (.mk 17 s n ps fs vs) := by
 refine ag_pre 17 s n ps fs vs 17 s2 n2 ps2 fs2 vs2 fun K K' B0 w v G A c B d C e A2 c2 B2 d2 C2 e2 w1 h => ?_
 obtain ⟨hr, hp, hkT, hkP, hB, hO, hfp, hft, hct, hlen, hLt, hLg, hLp, hLf, hown, hb1, HBX, HO1, HG1, HW1⟩ := h
 rw [hga, List.append_nil]
 have e5 : (s.toList == s2.toList) = false := by rw [eqT]; exact decide_eq_false hs
 clear hga hs
 clear hr hp hkT hkP hB hO hfp hft hct hlen hLt hLg hLp hLf hb1 hown
 go_enter Tryz.func30, Tryz.ntmps30
 go_upto_region 1 with fail
 rw [← HW1.out]
 obtain ⟨⟨x0, x1, x2, x3, x4, x5⟩, ⟨y0, y1, y2, y3, y4, y5⟩⟩ := HBX.out _ _ (Gro.refl _ _)
 go_wp2_with fail
 go_ret
 exact AgPost.from HG1.out ⟨v, rfl, HO1.out, Gro.refl _ _⟩
theorem ag_l17 (s : ByteArray) (n : Int) (ps : List Ty) (fs : FsT) (vs : VsT) (s2 : ByteArray) (n2 : Int) (ps2 : List Ty) (fs2 : FsT) (vs2 : VsT) (hs : s = s2) (hln : ¬ ps.length = ps2.length) (hga : gathT (.mk 17 s2 n2 ps2 fs2 vs2) (.mk 17 s n ps fs vs) = []) : AgP (.mk 17 s2 n2 ps2 fs2 vs2) (.mk 17 s n ps fs vs) := by
 refine ag_pre 17 s n ps fs vs 17 s2 n2 ps2 fs2 vs2 fun K K' B0 w v G A c B d C e A2 c2 B2 d2 C2 e2 w1 h => ?_
 obtain ⟨hr, hp, hkT, hkP, hB, hO, hfp, hft, hct, hlen, hLt, hLg, hLp, hLf, hown, hb1, HBX, HO1, HG1, HW1⟩ := h
 rw [hga, List.append_nil]
 have e5 : (s.toList == s2.toList) = true := by rw [eqT]; exact decide_eq_true hs
 have e1 : (((ps.length : Nat) : Int) == ((ps2.length : Nat) : Int)) = false := beq_eq_false_iff_ne.2 (by omega)
 have e2 : decide (((ps.length : Nat) : Int) = ((ps2.length : Nat) : Int)) = false := decide_eq_false (by omega)
 have e3 : decide (ps.length = ps2.length) = false := decide_eq_false hln
 have e4 : (ps.length == ps2.length) = false := beq_eq_false_iff_ne.2 hln
 clear hga hs hln
 clear hr hp hkT hkP hB hO hfp hft hct hlen hLt hLg hLp hLf hb1 hown
 go_enter Tryz.func30, Tryz.ntmps30
 go_upto_region 1 with fail
 rw [← HW1.out]
 obtain ⟨⟨x0, x1, x2, x3, x4, x5⟩, ⟨y0, y1, y2, y3, y4, y5⟩⟩ := HBX.out _ _ (Gro.refl _ _)
 go_wp2_with fail
 go_ret
 exact AgPost.from HG1.out ⟨v, rfl, HO1.out, Gro.refl _ _⟩
theorem against_all (p t : Ty) (hp : formT p = true) (ht : formT t = true) : AgP p t := by
 have ihp : ∀ q ∈ p.ps, ∀ u, formT u = true → AgP q u := fun q hq u hu => against_all q u (form_ps hp q hq) hu
 have iht : ∀ u ∈ t.ps, AgP p u := fun u hu => against_all p u hp (form_ps ht u hu)
 have ihf : ∀ f ∈ p.fs, ∀ u, formT u = true → AgP f.2.2 u := fun f hf u hu => against_all f.2.2 u (form_fs hp f hf) hu
 have hfp := form_ps hp
 have hft := form_ps ht
 obtain ⟨k2, s2, n2, ps2, fs2, vs2⟩ := p
 obtain ⟨k, s, n, ps, fs, vs⟩ := t
 simp only [Ty.ps, Ty.fs] at ihp iht ihf hfp hft
 by_cases h22 : k2 = 22
 ·subst h22; exact ag_infer _ _ _ _ _ _
 by_cases h15 : k2 = 15
 ·subst h15; exact ag_union k s n ps fs vs s2 n2 ps2 fs2 vs2 fun q hq => ihp q hq _ ht
 by_cases hcc : ¬ k2 = 11 ∧ ¬ k2 = 12 ∧ ¬ k2 = 13 ∧ ¬ k2 = 14 ∧ ¬ k2 = 17
 ·refine ag_n0 k k2 s n ps fs vs s2 n2 ps2 fs2 vs2 h22 h15 hcc ?_
  have hi : isComp k2 = false := by
   unfold isComp
   obtain ⟨a, b, c, d, e⟩ := hcc
   simp [a, b, c, d, e]
  rw [gathM, if_neg h22, if_neg h15, if_pos hi]
 have hc5 : k2 = 11 ∨ k2 = 12 ∨ k2 = 13 ∨ k2 = 14 ∨ k2 = 17 := by omega
 by_cases ht15 : k = 15
 ·subst ht15; exact ag_comp k2 s n ps fs vs s2 n2 ps2 fs2 vs2 hc5 iht
 clear h22 h15 hcc
 rcases hc5 with rfl | rfl | rfl | rfl | rfl
 ·obtain ⟨q, rfl⟩ := form_11 hp
  by_cases h1 : k = 11
  ·subst h1
   obtain ⟨u, rfl⟩ := form_11 ht
   exact ag_array s n u fs vs s2 n2 q fs2 vs2 (ihp q (by simp) u (hft u (by simp)))
  by_cases h2 : k = 12
  ·subst h2
   exact ag_arrtup s n ps fs vs s2 n2 q fs2 vs2 (ihp q (by simp) _ (form_union hft))
  exact ag_n11 k s n ps fs vs s2 n2 [q] fs2 vs2 ⟨h1, h2, ht15⟩ (by rw [gathM, if_neg (by decide), if_neg (by decide), if_neg (by decide), if_neg (by omega), if_neg (by omega), if_pos (by omega)])
 ·by_cases h1 : k = 12
  ·subst h1
   by_cases hl : ps.length = ps2.length
   ·exact ag_tuple s n ps fs vs s2 n2 ps2 fs2 vs2 hl fun q hq u hu => ihp q hq u (hft u hu)
   ·exact ag_l12 s n ps fs vs s2 n2 ps2 fs2 vs2 hl (by rw [gathM, if_neg (by decide), if_neg (by decide), if_neg (by decide), if_neg (by omega), if_neg (by decide), if_neg (by decide), if_neg (by decide), if_pos (Or.inl rfl), if_neg hl])
  exact ag_n12 k s n ps fs vs s2 n2 ps2 fs2 vs2 ⟨h1, ht15⟩ (by rw [gathM, if_neg (by decide), if_neg (by decide), if_neg (by decide), if_neg (by omega), if_neg (by omega), if_pos (by omega)])
 ·by_cases h1 : k = 13
  ·subst h1
   by_cases hv : vs = []
   ·exact ag_func s n ps fs vs s2 n2 ps2 fs2 vs2 hv (fn_ref s n ps fs vs s2 n2 ps2 fs2 vs2 hv fun q hq u hu => ihp q hq u (hft u hu))
   ·exact ag_v13 s n ps fs vs s2 n2 ps2 fs2 vs2 (fun e => hv (List.length_eq_zero_iff.1 e)) (by rw [gathM, if_neg (by decide), if_neg (by decide), if_neg (by decide), if_neg (by omega), if_neg (by decide), if_neg (by decide), if_neg (by decide), if_neg (by intro h; rcases h with h | ⟨h, _⟩ <;> exact absurd h (by decide)), if_neg (fun h => hv h.2), if_neg (by decide)])
  exact ag_n13 k s n ps fs vs s2 n2 ps2 fs2 vs2 ⟨h1, ht15⟩ (by rw [gathM, if_neg (by decide), if_neg (by decide), if_neg (by decide), if_neg (by omega), if_neg (by omega), if_pos (by omega)])
 ·by_cases h1 : k = 14
  ·subst h1
   refine ag_obj s n ps fs vs s2 n2 ps2 fs2 vs2 (obj_ref s n ps fs vs s2 n2 ps2 fs2 vs2 fun f hf g hg => ihf f hf _ ?_)
   exact form_held (form_fs ht g hg)
  exact ag_n14 k s n ps fs vs s2 n2 ps2 fs2 vs2 ⟨h1, ht15⟩ (by rw [gathM, if_neg (by decide), if_neg (by decide), if_neg (by decide), if_neg (by omega), if_neg (by omega), if_pos (by omega)])
 ·by_cases h1 : k = 17
  ·subst h1
   by_cases hs : s = s2
   ·by_cases hl : ps.length = ps2.length
    ·exact ag_ref s n ps fs vs s2 n2 ps2 fs2 vs2 hs.symm hl fun q hq u hu => ihp q hq u (hft u hu)
    ·exact ag_l17 s n ps fs vs s2 n2 ps2 fs2 vs2 hs hl (by rw [gathM, if_neg (by decide), if_neg (by decide), if_neg (by decide), if_neg (by omega), if_neg (by decide), if_neg (by decide), if_neg (by decide), if_pos (Or.inr ⟨rfl, hs.symm⟩), if_neg hl])
   ·exact ag_t17 s n ps fs vs s2 n2 ps2 fs2 vs2 hs (by rw [gathM, if_neg (by decide), if_neg (by decide), if_neg (by decide), if_neg (by omega), if_neg (by decide), if_neg (by decide), if_neg (by decide), if_neg (by intro h; rcases h with h | ⟨_, h⟩; (· exact absurd h (by decide)); exact hs h.symm), if_neg (fun h => absurd h.1 (by decide)), if_neg (by decide)])
  exact ag_n17 k s n ps fs vs s2 n2 ps2 fs2 vs2 ⟨h1, ht15⟩ (by rw [gathM, if_neg (by decide), if_neg (by decide), if_neg (by decide), if_neg (by omega), if_neg (by omega), if_pos (by omega)])
termination_by (SizeOf.sizeOf p, SizeOf.sizeOf t)
decreasing_by
 all_goals first
  | exact Prod.Lex.left _ _ (lt_ps ‹_›)
  | exact Prod.Lex.right _ (lt_ps ‹_›)
  | exact Prod.Lex.left _ _ (lt_fs ‹_›)
end Go.Proofs.YtjbccjmpebgdjaaGreatDoor
