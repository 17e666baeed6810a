import Derived.Test.YtgjblmlibhppiaaGreatDoorMy1
namespace Go.Proofs.YtgjblmlibhppiaaGreatDoor
set_option maxRecDepth 100000
set_option maxHeartbeats 64000000
open Go.RowKit
theorem nan_s (s : ByteArray) (w : World) : Calls Tryz.prog 150 #[.string s] w fun e w' => e = .returned (.bool false) ∧ w = w' := by
 go_enter Tryz.func150, Tryz.ntmps150
 go_wp2_with fail
 go_ret
 exact ⟨rfl, rfl⟩
theorem nan_i (x : Int) (w : World) : Calls Tryz.prog 149 #[.int .i64 x] w fun e w' => e = .returned (.bool false) ∧ w = w' := by
 go_enter Tryz.func149, Tryz.ntmps149
 go_wp2_with fail
 go_ret
 exact ⟨rfl, rfl⟩
theorem nan_l (x : Int) (w : World) : Calls Tryz.prog 151 #[.int .i64 x] w fun e w' => e = .returned (.bool false) ∧ w = w' := by
 go_enter Tryz.func151, Tryz.ntmps151
 go_wp2_with fail
 go_ret
 exact ⟨rfl, rfl⟩
theorem less_iff (a b : ByteArray) : Op.bytesLess a.toList b.toList = decide (a.data.toList < b.data.toList) := by
 rw [bytesLess_eq, ByteArray.toList_eq, ByteArray.toList_eq]
theorem gtr_iff (a b : ByteArray) : (!(Op.bytesLess a.toList b.toList || a.toList == b.toList)) = decide (b.data.toList < a.data.toList) := by
 rw [less_iff, ByteArray.toList_eq, ByteArray.toList_eq, Bool.eq_iff_iff]
 simp only [Bool.not_eq_true', Bool.or_eq_false_iff, decide_eq_false_iff_not, beq_eq_false_iff_ne, ne_eq, decide_eq_true_eq]
 constructor
 ·rintro ⟨h1, h2⟩
  rcases Classical.em (b.data.toList < a.data.toList) with h | h
  ·exact h
  ·exact absurd (tot_list h1 h) h2
 ·intro h
  exact ⟨fun h' => List.lt_irrefl _ (List.lt_trans h h'), fun e => by rw [e] at h; exact List.lt_irrefl _ h⟩
theorem compare_s (a b : ByteArray) (w : World) : Calls Tryz.prog 106 #[.string a, .string b] w fun e w' => e = .returned (.int .i64 (cmpB a b)) ∧ w = w' := by
 have l := less_iff a b
 have g := gtr_iff a b
 unfold cmpB
 by_cases h1 : a.data.toList < b.data.toList
 ·rw [decide_eq_true h1] at l
  rw [if_pos h1]
  clear h1 g
  go_enter Tryz.func106, Tryz.ntmps106
  go_wp2_with (go_at_call 150; refine (nan_s _ _).mono ?_; rintro e w2 ⟨rfl, rfl⟩)
  go_ret
  exact ⟨rfl, rfl⟩
 ·rw [decide_eq_false h1] at l
  rw [if_neg h1]
  by_cases h2 : b.data.toList < a.data.toList
  ·have e : (a.toList == b.toList) = false := by
    rw [ByteArray.toList_eq, ByteArray.toList_eq]
    exact beq_eq_false_iff_ne.2 (fun e => by rw [e] at h2; exact List.lt_irrefl _ h2)
   rw [if_pos h2]
   clear h1 h2 g
   go_enter Tryz.func106, Tryz.ntmps106
   go_wp2_with (go_at_call 150; refine (nan_s _ _).mono ?_; rintro e w2 ⟨rfl, rfl⟩)
   go_ret
   exact ⟨rfl, rfl⟩
  ·obtain rfl : a = b := bytes_ext (tot_list h1 h2)
   rw [if_neg h2]
   clear h1 h2 g
   go_enter Tryz.func106, Tryz.ntmps106
   go_wp2_with (go_at_call 150; refine (nan_s _ _).mono ?_; rintro e w2 ⟨rfl, rfl⟩)
   go_ret
   exact ⟨rfl, rfl⟩
theorem compare_i (a b : Int) (w : World) : Calls Tryz.prog 105 #[.int .i64 a, .int .i64 b] w fun e w' => e = .returned (.int .i64 (cmpZ a b)) ∧ w = w' := by
 unfold cmpZ
 by_cases h1 : a < b
 ·rw [if_pos h1]
  go_enter Tryz.func105, Tryz.ntmps105
  go_wp2_with (go_at_call 149; refine (nan_i _ _).mono ?_; rintro e w2 ⟨rfl, rfl⟩)
  go_ret
  exact ⟨rfl, rfl⟩
 ·rw [if_neg h1]
  by_cases h2 : b < a
  ·rw [if_pos h2]
   have t1 : decide (a < b) = false := decide_eq_false h1
   go_enter Tryz.func105, Tryz.ntmps105
   go_wp2_with (go_at_call 149; refine (nan_i _ _).mono ?_; rintro e w2 ⟨rfl, rfl⟩)
   go_ret
   exact ⟨rfl, rfl⟩
  ·rw [if_neg h2]
   obtain rfl : a = b := by omega
   clear h1 h2
   go_enter Tryz.func105, Tryz.ntmps105
   go_wp2_with (go_at_call 149; refine (nan_i _ _).mono ?_; rintro e w2 ⟨rfl, rfl⟩)
   go_ret
   exact ⟨rfl, rfl⟩
theorem compare_l (a b : Int) (w : World) : Calls Tryz.prog 107 #[.int .i64 a, .int .i64 b] w fun e w' => e = .returned (.int .i64 (cmpZ a b)) ∧ w = w' := by
 unfold cmpZ
 by_cases h1 : a < b
 ·rw [if_pos h1]
  go_enter Tryz.func107, Tryz.ntmps107
  go_wp2_with (go_at_call 151; refine (nan_l _ _).mono ?_; rintro e w2 ⟨rfl, rfl⟩)
  go_ret
  exact ⟨rfl, rfl⟩
 ·rw [if_neg h1]
  by_cases h2 : b < a
  ·rw [if_pos h2]
   have t1 : decide (a < b) = false := decide_eq_false h1
   go_enter Tryz.func107, Tryz.ntmps107
   go_wp2_with (go_at_call 151; refine (nan_l _ _).mono ?_; rintro e w2 ⟨rfl, rfl⟩)
   go_ret
   exact ⟨rfl, rfl⟩
  ·rw [if_neg h2]
   obtain rfl : a = b := by omega
   clear h1 h2
   go_enter Tryz.func107, Tryz.ntmps107
   go_wp2_with (go_at_call 151; refine (nan_l _ _).mono ?_; rintro e w2 ⟨rfl, rfl⟩)
   go_ret
   exact ⟨rfl, rfl⟩
theorem or_2 (g : Nat) (a b : Int) (w : World) (h0 : w.cell? ⟨g, 0, none⟩ = some (.int .i64 a)) (h1 : w.cell? ⟨g, 1, none⟩ = some (.int .i64 b)) :
  Calls Tryz.prog 104 #[.slice (some ⟨g, 0, none⟩) 2 2] w fun e w' => e = .returned (.int .i64 (or2 a b)) ∧ w = w' := by
 unfold or2
 by_cases ha : a = 0
 case neg =>
  have ta : (a != 0) = true := by simpa using ha
  rw [if_pos ha]
  go_enter Tryz.func104, Tryz.ntmps104
  go_wp2
  go_rounds 1
  go_ret
  exact ⟨rfl, rfl⟩
 subst ha
 rw [if_neg (by simp)]
 by_cases hb : b = 0
 case neg =>
  have tb : (b != 0) = true := by simpa using hb
  go_enter Tryz.func104, Tryz.ntmps104
  go_wp2
  go_rounds 2
  go_ret
  exact ⟨rfl, rfl⟩
 subst hb
 go_enter Tryz.func104, Tryz.ntmps104
 go_wp2
 go_rounds 3
 go_ret
 exact ⟨rfl, rfl⟩
theorem or_3 (g : Nat) (a b c : Int) (w : World) (h0 : w.cell? ⟨g, 0, none⟩ = some (.int .i64 a)) (h1 : w.cell? ⟨g, 1, none⟩ = some (.int .i64 b)) (h2 : w.cell? ⟨g, 2, none⟩ = some (.int .i64 c)) :
  Calls Tryz.prog 104 #[.slice (some ⟨g, 0, none⟩) 3 3] w fun e w' => e = .returned (.int .i64 (or2 a (or2 b c))) ∧ w = w' := by
 unfold or2
 by_cases ha : a = 0
 case neg =>
  have ta : (a != 0) = true := by simpa using ha
  rw [if_pos ha]
  go_enter Tryz.func104, Tryz.ntmps104
  go_wp2
  go_rounds 1
  go_ret
  exact ⟨rfl, rfl⟩
 subst ha
 rw [if_neg (by simp)]
 by_cases hb : b = 0
 case neg =>
  have tb : (b != 0) = true := by simpa using hb
  rw [if_pos hb]
  go_enter Tryz.func104, Tryz.ntmps104
  go_wp2
  go_rounds 2
  go_ret
  exact ⟨rfl, rfl⟩
 subst hb
 rw [if_neg (by simp)]
 by_cases hc : c = 0
 case neg =>
  have tc : (c != 0) = true := by simpa using hc
  go_enter Tryz.func104, Tryz.ntmps104
  go_wp2
  go_rounds 3
  go_ret
  exact ⟨rfl, rfl⟩
 subst hc
 go_enter Tryz.func104, Tryz.ntmps104
 go_wp2
 go_rounds 4
 go_ret
 exact ⟨rfl, rfl⟩
theorem MapIs.putL {P : Program} {α : Type} {M : MK P α} {W : World} {b n : Nat} {F : ByteArray → Option α} (h : MapIs M W b n F) (hn : n < maxLen) (s : ByteArray) (hs : s.size ≤ maxLen) (a : α) :
  ∃ w', (Instr.mapUpdate M.T (.map (some b)) (.string s) (M.val a)).run P W = .ok () w' ∧ MapIs M w' b (n + 1) (updF F s a) ∧ W.grownBy w' (some b) := by
 obtain ⟨L, h, hL, hF⟩ := h
 obtain ⟨w', hrun, ho, hg⟩ := World.ownsMap.update h (Go.Maps.string_keyed M.hS) M.hT (Nat.lt_of_le_of_lt hL hn) (M.key s hs) (M.hR a)
 rw [put_datL M L (s, a)] at ho
 have ho2 := own_fit ho
 rw [size_datL] at ho2
 refine ⟨w', hrun, ⟨_, ho2, ?_, fun x => ?_⟩, hg⟩
 ·rw [insL_len]
  have := lessL_len L s
  simp only
  omega
 ·rw [find_insL (s, a) x _ (by rw [find_less]; simp)]
  unfold updF
  simp only
  by_cases e : s = x
  ·rw [if_pos e, if_pos e]
  ·rw [if_neg e, if_neg e, find_less, if_neg e, hF]
def setMK : MK Tryz.prog Unit where
 T := 120
 S := 9
 E := 121
 val := fun _ => .agg #[]
 dat := fun _ => .agg []
 zero := ()
 R := fun v => match v with
  | .agg ⟨[]⟩ => some (.agg [], [])
  | _ => none
 hR := fun _ => rfl
 inv := by
  intro v a ps h
  split at h
  ·rfl
  ·cases h
 hS := Tryz.underlying9
 hT := Tryz.underlying120
 hz := Tryz.zeroValue121
theorem mem_flatU {l : List Ty} {x : Ty} : x ∈ flatU l ↔ ∃ p ∈ l, x ∈ parts1 p := by
 unfold flatU
 rw [List.mem_flatten]
 constructor
 ·rintro ⟨m, hm, hx⟩
  obtain ⟨p, hp, rfl⟩ := List.mem_map.1 hm
  exact ⟨p, hp, hx⟩
 ·rintro ⟨p, hp, hx⟩
  exact ⟨_, List.mem_map.2 ⟨p, hp, rfl⟩, hx⟩
theorem mem_keptU {l : List Ty} {x : Ty} : x ∈ keptU l ↔ x ∈ flatU l ∧ keepT (kindsOf (flatU l)) x = true := List.mem_filter
theorem hasKc {k : Int} {l : List Ty} : hasK k l = true ↔ ∃ t ∈ l, t.k = k := by
 unfold hasK
 rw [List.any_eq_true]
 simp
theorem hasK_congr {k : Int} {l l' : List Ty} (h : ∀ x, x ∈ l ↔ x ∈ l') : hasK k l = hasK k l' := by
 rw [Bool.eq_iff_iff, hasKc, hasKc]
 constructor
 ·rintro ⟨t, a, b⟩; exact ⟨t, (h t).1 a, b⟩
 ·rintro ⟨t, a, b⟩; exact ⟨t, (h t).2 a, b⟩
theorem kinds_congr {l l' : List Ty} (h : ∀ x, x ∈ l ↔ x ∈ l') : kindsOf l = kindsOf l' := by
 unfold kindsOf
 rw [hasK_congr h, hasK_congr h, hasK_congr h, hasK_congr h]
theorem sort_congr {l l' : List Ty} (h : ∀ x, x ∈ l ↔ x ∈ l') : sortT l = sortT l' :=
 asc_unique (asc_sortT _) (asc_sortT _) fun x => by rw [mem_sortT, mem_sortT]; exact h x
theorem union_of {l l' : List Ty} (h : ∀ x, x ∈ keptU l ↔ x ∈ keptU l') : unionT l = unionT l' := by
 unfold unionT
 rw [sort_congr h]
theorem parts1_not15 (t : Ty) : ∀ x ∈ parts1 t, x.k ≠ 15 := by
 refine Ty.ind (C := fun t => ∀ x ∈ parts1 t, x.k ≠ 15) (fun k t n ps fs vs hp _ _ x hx => ?_) t
 rw [parts1_mk] at hx
 by_cases h : k = 15
 ·rw [if_pos h, mem_flatU] at hx
  obtain ⟨p, hm, hx⟩ := hx
  exact hp p hm x hx
 ·rw [if_neg h, List.mem_singleton] at hx
  subst hx
  exact h
theorem kept_no15 {l : List Ty} {x : Ty} (h : x ∈ keptU l) : x.k ≠ 15 := by
 obtain ⟨p, _, hx⟩ := mem_flatU.1 (mem_keptU.1 h).1
 exact parts1_not15 p x hx
theorem kept_no1 {l : List Ty} {x : Ty} (h : x ∈ keptU l) : x.k ≠ 1 := by
 intro e
 have := (mem_keptU.1 h).2
 unfold keepT at this
 rw [if_pos e] at this
 cases this
def prtsT (t : Ty) : List Ty := if t.k = 15 then t.ps else if t.k = 1 then [] else [t]
theorem parts_shut : ∀ {s : List Ty}, (∀ x ∈ s, x.k ≠ 15 ∧ x.k ≠ 1) → prtsT (shutU s) = s
 | [], _ => rfl
 | [x], h => by
  obtain ⟨h1, h2⟩ := h x (by simp)
  show (if x.k = 15 then x.ps else if x.k = 1 then [] else [x]) = [x]
  rw [if_neg h1, if_neg h2]
 | x :: y :: l, _ => rfl
theorem parts_union (l : List Ty) : prtsT (unionT l) = sortT (keptU l) :=
 parts_shut fun x hx => ⟨kept_no15 ((mem_sortT x _).1 hx), kept_no1 ((mem_sortT x _).1 hx)⟩
theorem mem_parts_union {l : List Ty} {x : Ty} : x ∈ prtsT (unionT l) ↔ x ∈ keptU l := by rw [parts_union, mem_sortT]
theorem parts1_one {t : Ty} (h : t.k ≠ 15) : parts1 t = [t] := by
 obtain ⟨k, s, n, ps, fs, vs⟩ := t
 have h' : ¬ k = 15 := h
 rw [parts1_mk, if_neg h']
theorem flat_self : ∀ {l : List Ty}, (∀ x ∈ l, x.k ≠ 15) → flatU l = l
 | [], _ => rfl
 | a :: l, h => by
  rw [flatU_cons, parts1_one (h a List.mem_cons_self), flat_self fun x hx => h x (List.mem_cons_of_mem _ hx)]
  rfl
theorem parts1_15 {t : Ty} (h : t.k = 15) : parts1 t = flatU t.ps := by
 obtain ⟨k, s, n, ps, fs, vs⟩ := t
 have h' : k = 15 := h
 rw [parts1_mk, if_pos h']
 rfl
theorem parts1_union (l : List Ty) : ∀ x, x ∈ parts1 (unionT l) ↔ x ∈ keptU l ∨ (keptU l = [] ∧ x = tyK 1) := by
 have hs := parts_union l
 intro x
 unfold unionT at hs ⊢
 have hm : ∀ y, y ∈ sortT (keptU l) ↔ y ∈ keptU l := fun y => mem_sortT y _
 generalize hg : sortT (keptU l) = s at hs hm
 rcases s with _ | ⟨a, _ | ⟨b, s⟩⟩
 ·have h0 : keptU l = [] := by
   rcases hk : keptU l with _ | ⟨c, r⟩
   ·rfl
   ·have := (hm c).2 (by rw [hk]; simp); cases this
  have e : parts1 (shutU []) = [tyK 1] := parts1_one (by decide)
  rw [e, h0]; simp
 ·have ha : a ∈ keptU l := (hm a).1 (by simp)
  have e : parts1 (shutU [a]) = [a] := parts1_one (kept_no15 ha)
  rw [e, ← hm x]
  constructor
  ·exact .inl
  ·rintro (h | ⟨h, -⟩)
   ·exact h
   ·rw [h] at ha; cases ha
 ·have e : parts1 (shutU (a :: b :: s)) = flatU (a :: b :: s) := parts1_15 rfl
  rw [e, flat_self fun y hy => kept_no15 ((hm y).1 hy), ← hm x]
  constructor
  ·exact .inl
  ·rintro (h | ⟨h, -⟩)
   ·exact h
   ·have := (hm a).1 (by simp); rw [h] at this; cases this
def PlainT (t : Ty) : Prop := (t.k = 2 → infT t = false) ∧ (t.k = 7 ∨ t.k = 8 ∨ t.k = 9 ∨ t.k = 10 → infT t = false)
theorem keepT_lead (h : Kinds) {t : Ty} (h3 : t.k ≠ 3) (h1 : t.k ≠ 1) (h2 : t.k ≠ 2) (ha : h.a = true ∨ h.u = true) : keepT h t = infT t := by
 unfold keepT
 rw [if_neg h1, if_neg h3, if_neg (fun e => h2 e.1), if_pos ha]
theorem keepT_free (h : Kinds) {t : Ty} (h3 : t.k ≠ 3) (h1 : t.k ≠ 1) (h2 : t.k ≠ 2) (ha : h.a = false) (hu : h.u = false) : keepT h t = (if t.k = 9 then !h.n else if t.k = 10 then !h.s else true) := by
 unfold keepT
 rw [if_neg h1, if_neg h3, if_neg (fun e => h2 e.1), if_neg (by rw [ha, hu]; simp)]
theorem keepT_1 (h : Kinds) {t : Ty} (h1 : t.k = 1) : keepT h t = false := by unfold keepT; rw [if_pos h1]
theorem keepT_3 (h : Kinds) {t : Ty} (h1 : t.k = 3) : keepT h t = true := by unfold keepT; rw [if_neg (by omega), if_pos h1]
theorem keepT_2 (h : Kinds) {t : Ty} (h1 : t.k = 2) (hi : infT t = false) : keepT h t = !h.a := by
 unfold keepT
 rw [if_neg (by omega), if_neg (by omega)]
 cases ha : h.a
 ·rw [if_pos ⟨h1, rfl⟩]; rfl
 ·rw [if_neg (by simp), if_pos (.inl rfl), hi]; rfl
theorem a_of (l : List Ty) : (kindsOf l).a = hasK 3 l := rfl
theorem u_of (l : List Ty) : (kindsOf l).u = hasK 2 l := rfl
theorem n_of (l : List Ty) : (kindsOf l).n = hasK 7 l := rfl
theorem s_of (l : List Ty) : (kindsOf l).s = hasK 8 l := rfl
theorem hasK_in {k : Int} {l l' : List Ty} (h : ∀ x ∈ l, x ∈ l') (hk : hasK k l = true) : hasK k l' = true := by
 obtain ⟨t, a, b⟩ := hasKc.1 hk
 exact hasKc.2 ⟨t, h t a, b⟩
theorem hasK_not {k : Int} {l l' : List Ty} (h : ∀ x ∈ l, x ∈ l') (hk : hasK k l' = false) : hasK k l = false := by
 cases e : hasK k l
 ·rfl
 ·rw [hasK_in h e] at hk; cases hk
theorem union_union (ls : List (List Ty)) (hP : ∀ l ∈ ls, ∀ x ∈ flatU l, PlainT x) : unionT (ls.map unionT) = unionT ls.flatten := by
 have hF : ∀ x, x ∈ flatU ls.flatten ↔ ∃ l ∈ ls, x ∈ flatU l := fun x => by
  rw [mem_flatU]
  constructor
  ·rintro ⟨p, hp, hx⟩
   obtain ⟨l, hl, hp⟩ := List.mem_flatten.1 hp
   exact ⟨l, hl, mem_flatU.2 ⟨p, hp, hx⟩⟩
  ·rintro ⟨l, hl, hx⟩
   obtain ⟨p, hp, hx⟩ := mem_flatU.1 hx
   exact ⟨p, List.mem_flatten.2 ⟨l, hl, hp⟩, hx⟩
 have hG : ∀ x, x ∈ flatU (ls.map unionT) ↔ ∃ l ∈ ls, x ∈ keptU l ∨ (keptU l = [] ∧ x = tyK 1) := fun x => by
  rw [mem_flatU]
  constructor
  ·rintro ⟨p, hp, hx⟩
   obtain ⟨l, hl, rfl⟩ := List.mem_map.1 hp
   exact ⟨l, hl, (parts1_union l x).1 hx⟩
  ·rintro ⟨l, hl, hx⟩
   exact ⟨_, List.mem_map.2 ⟨l, hl, rfl⟩, (parts1_union l x).2 hx⟩
 have hPF : ∀ x ∈ flatU ls.flatten, PlainT x := fun x hx => by
  obtain ⟨l, hl, hx⟩ := (hF x).1 hx
  exact hP l hl x hx
 refine union_of fun x => ?_
 rw [mem_keptU, mem_keptU]
 generalize flatU ls.flatten = F at hF hPF ⊢
 generalize flatU (ls.map unionT) = G at hG ⊢
 have lF : ∀ l ∈ ls, ∀ x ∈ flatU l, x ∈ F := fun l hl x hx => (hF x).2 ⟨l, hl, hx⟩
 have GF : ∀ {k : Int}, k ≠ 1 → hasK k G = true → hasK k F = true := fun hk h => by
  obtain ⟨t, ht, e⟩ := hasKc.1 h
  obtain ⟨l, hl, hx | ⟨_, rfl⟩⟩ := (hG t).1 ht
  ·exact hasKc.2 ⟨t, lF l hl t (mem_keptU.1 hx).1, e⟩
  ·exact absurd (show _ = (1 : Int) from e.symm) hk
 have ga : hasK 3 G = hasK 3 F := by
  rw [Bool.eq_iff_iff]
  refine ⟨GF (by decide), fun h => ?_⟩
  obtain ⟨t, ht, e⟩ := hasKc.1 h
  obtain ⟨l, hl, hx⟩ := (hF t).1 ht
  exact hasKc.2 ⟨t, (hG t).2 ⟨l, hl, .inl (mem_keptU.2 ⟨hx, keepT_3 _ e⟩)⟩, e⟩
 have gu : hasK 3 F = false → hasK 2 G = hasK 2 F := fun h3 => by
  rw [Bool.eq_iff_iff]
  refine ⟨GF (by decide), fun h => ?_⟩
  obtain ⟨t, ht, e⟩ := hasKc.1 h
  obtain ⟨l, hl, hx⟩ := (hF t).1 ht
  refine hasKc.2 ⟨t, (hG t).2 ⟨l, hl, .inl (mem_keptU.2 ⟨hx, ?_⟩)⟩, e⟩
  rw [keepT_2 _ e ((hPF t ht).1 e), a_of, hasK_not (lF l hl) h3]; rfl
 have gn : ∀ {k : Int}, k = 7 ∨ k = 8 → hasK 3 F = false → hasK 2 F = false → hasK k G = hasK k F := fun {k} hk h3 h2 => by
  rw [Bool.eq_iff_iff]
  refine ⟨GF (by omega), fun h => ?_⟩
  obtain ⟨t, ht, e⟩ := hasKc.1 h
  obtain ⟨l, hl, hx⟩ := (hF t).1 ht
  refine hasKc.2 ⟨t, (hG t).2 ⟨l, hl, .inl (mem_keptU.2 ⟨hx, ?_⟩)⟩, e⟩
  rw [keepT_free _ (by omega) (by omega) (by omega) (by rw [a_of]; exact hasK_not (lF l hl) h3) (by rw [u_of]; exact hasK_not (lF l hl) h2), if_neg (by omega), if_neg (by omega)]
 have key : x ∈ F → x.k ≠ 1 → keepT (kindsOf G) x = keepT (kindsOf F) x := fun hx h1 => by
  by_cases h3 : x.k = 3
  ·rw [keepT_3 _ h3, keepT_3 _ h3]
  by_cases h2 : x.k = 2
  ·rw [keepT_2 _ h2 ((hPF x hx).1 h2), keepT_2 _ h2 ((hPF x hx).1 h2), a_of, a_of, ga]
  cases ha : hasK 3 F
  ·have hu := gu ha
   cases hu2 : hasK 2 F
   ·rw [hu2] at hu
    rw [keepT_free _ h3 h1 h2 (by rw [a_of, ga, ha]) (by rw [u_of, hu]), keepT_free _ h3 h1 h2 (by rw [a_of, ha]) (by rw [u_of, hu2]), n_of, n_of, s_of, s_of, gn (.inl rfl) ha hu2, gn (.inr rfl) ha hu2]
   ·rw [hu2] at hu
    rw [keepT_lead _ h3 h1 h2 (.inr (by rw [u_of, hu])), keepT_lead _ h3 h1 h2 (.inr (by rw [u_of, hu2]))]
  ·rw [keepT_lead _ h3 h1 h2 (.inl (by rw [a_of, ga, ha])), keepT_lead _ h3 h1 h2 (.inl (by rw [a_of, ha]))]
 constructor
 ·rintro ⟨hx, hk⟩
  have h1 : x.k ≠ 1 := fun e => by rw [keepT_1 _ e] at hk; cases hk
  obtain ⟨l, hl, h | ⟨_, rfl⟩⟩ := (hG x).1 hx
  ·have hxF := lF l hl x (mem_keptU.1 h).1
   exact ⟨hxF, by rw [← key hxF h1]; exact hk⟩
  ·exact absurd rfl h1
 ·rintro ⟨hx, hk⟩
  have h1 : x.k ≠ 1 := fun e => by rw [keepT_1 _ e] at hk; cases hk
  refine ⟨?_, by rw [key hx h1]; exact hk⟩
  obtain ⟨l, hl, hxl⟩ := (hF x).1 hx
  refine (hG x).2 ⟨l, hl, .inl (mem_keptU.2 ⟨hxl, ?_⟩)⟩
  by_cases h3 : x.k = 3
  ·exact keepT_3 _ h3
  by_cases h2 : x.k = 2
  ·rw [keepT_2 _ h2 ((hPF x hx).1 h2), a_of] at hk ⊢
   rw [hasK_not (lF l hl) (by simpa using hk)]; rfl
  have hfree : infT x = true → (x.k ≠ 9 ∧ x.k ≠ 10) := fun hi => by
   have := (hPF x hx).2
   constructor <;> intro e <;> rw [this (by omega)] at hi <;> cases hi
  by_cases hau : (kindsOf F).a = true ∨ (kindsOf F).u = true
  ·rw [keepT_lead _ h3 h1 h2 hau] at hk
   by_cases hal : (kindsOf (flatU l)).a = true ∨ (kindsOf (flatU l)).u = true
   ·rw [keepT_lead _ h3 h1 h2 hal]; exact hk
   ·rw [keepT_free _ h3 h1 h2 (by simpa using fun e => hal (.inl e)) (by simpa using fun e => hal (.inr e)), if_neg (hfree hk).1, if_neg (hfree hk).2]
  ·have a0 : hasK 3 F = false := by simpa [a_of] using fun e => hau (.inl e)
   have u0 : hasK 2 F = false := by simpa [u_of] using fun e => hau (.inr e)
   rw [keepT_free _ h3 h1 h2 a0 u0] at hk
   rw [keepT_free _ h3 h1 h2 (hasK_not (lF l hl) a0) (hasK_not (lF l hl) u0)]
   by_cases h9 : x.k = 9
   ·rw [if_pos h9] at hk ⊢
    rw [n_of] at hk ⊢
    rw [hasK_not (lF l hl) (by simpa using hk)]; rfl
   ·rw [if_neg h9] at hk ⊢
    by_cases h10 : x.k = 10
    ·rw [if_pos h10] at hk ⊢
     rw [s_of] at hk ⊢
     rw [hasK_not (lF l hl) (by simpa using hk)]; rfl
    ·rw [if_neg h10]
theorem union_one (l : List Ty) (hP : ∀ x ∈ flatU l, PlainT x) : unionT [unionT l] = unionT l := by
 have := union_union [l] (fun m hm => by rw [List.mem_singleton] at hm; subst hm; exact hP)
 simpa using this
theorem union_parts (l : List Ty) (hP : ∀ x ∈ flatU l, PlainT x) : unionT (prtsT (unionT l)) = unionT l := by
 refine Eq.trans (union_of fun x => ?_) (union_one l hP)
 have h1 : ∀ y ∈ prtsT (unionT l), y.k ≠ 15 := fun y hy => kept_no15 (mem_parts_union.1 hy)
 have e : ∀ y, y ∈ flatU (prtsT (unionT l)) ↔ y ∈ keptU l := fun y => by rw [flat_self h1, mem_parts_union]
 have e2 : ∀ y, y ∈ flatU [unionT l] ↔ y ∈ keptU l ∨ (keptU l = [] ∧ y = tyK 1) := fun y => by
  rw [mem_flatU]; simp only [List.mem_singleton, exists_eq_left]; exact parts1_union l y
 by_cases h0 : keptU l = []
 ·rw [mem_keptU, mem_keptU, e, e2, h0]
  constructor
  ·rintro ⟨h, -⟩; cases h
  ·rintro ⟨h | ⟨-, rfl⟩, h2⟩
   ·cases h
   ·rw [keepT_1 _ rfl] at h2; cases h2
 ·have e3 : ∀ y, y ∈ flatU (prtsT (unionT l)) ↔ y ∈ flatU [unionT l] := fun y => by rw [e, e2]; simp [h0]
  rw [mem_keptU, mem_keptU, kinds_congr e3, e3 x]
theorem or2_assoc (a b c : Int) : or2 (or2 a b) c = or2 a (or2 b c) := by
 unfold or2
 by_cases h : a = 0 <;> simp [h]
def Gw (w w' : World) : Prop := ∃ q os, w' = Go.Sort.grow (w.drewN q) os
theorem Gw.refl (w : World) : Gw w w := ⟨0, #[], by rw [Go.Sort.grow_empty]; rfl⟩
theorem drewN_add (w : World) (m n : Nat) : (w.drewN m).drewN n = w.drewN (m + n) := by
 simp only [World.drewN, Nat.add_assoc]
theorem Gw.trans {a b c : World} (h : Gw a b) (h' : Gw b c) : Gw a c := by
 obtain ⟨q, os, rfl⟩ := h
 obtain ⟨q', os', rfl⟩ := h'
 refine ⟨q + q', os ++ os', ?_⟩
 rw [← drewN_add, ← Go.Sort.grow_grow]
 rfl
theorem Gw.drew {a b : World} (h : Gw a b) : Gw a b.drew := h.trans ⟨1, #[], by rw [Go.Sort.grow_empty]; rfl⟩
theorem Gw.alloc {a b : World} (h : Gw a b) (o : Obj) : Gw a (b.alloc o) := h.trans ⟨0, #[o], by rw [Go.Sort.alloc_eq_grow]; rfl⟩
theorem Gw.below {a b : World} (h : Gw a b) : Below a.heap.size a b := by
 obtain ⟨q, os, rfl⟩ := h
 exact ⟨rfl, rfl, rfl, by simp [Go.Sort.grow, World.drewN], fun k hk => by
  show (a.heap ++ os)[k]? = a.heap[k]?
  rw [Array.getElem?_append_left hk]⟩
theorem boxZ3 (W : World) (x y z : Int) : (W.alloc (.cells #[.int .i64 x, .int .i64 y, .int .i64 z] 3)).drew.cell? ⟨W.heap.size, 0, none⟩ = some (.int .i64 x) ∧ (W.alloc (.cells #[.int .i64 x, .int .i64 y, .int .i64 z] 3)).drew.cell? ⟨W.heap.size, 1, none⟩ = some (.int .i64 y) ∧ (W.alloc (.cells #[.int .i64 x, .int .i64 y, .int .i64 z] 3)).drew.cell? ⟨W.heap.size, 2, none⟩ = some (.int .i64 z) :=
 ⟨World.cell?_alloc_at _ _ _ _ rfl, World.cell?_alloc_at _ _ _ _ rfl, World.cell?_alloc_at _ _ _ _ rfl⟩
theorem boxZ2 (W : World) (x y : Int) : (W.alloc (.cells #[.int .i64 x, .int .i64 y] 3)).drew.cell? ⟨W.heap.size, 0, none⟩ = some (.int .i64 x) ∧ (W.alloc (.cells #[.int .i64 x, .int .i64 y] 3)).drew.cell? ⟨W.heap.size, 1, none⟩ = some (.int .i64 y) :=
 ⟨World.cell?_alloc_at _ _ _ _ rfl, World.cell?_alloc_at _ _ _ _ rfl⟩
theorem measT {n k : Nat} (h : n < k) : k - (intOf (Value.int .i64 ((n : Int) + 1))).toNat < k - (intOf (Value.int .i64 (n : Int))).toNat := by
 simp only [intOf]
 omega
structure OrdP (f : Nat) (R : World → Nat → Nat → Prop) (R' : World → Nat → Nat → Prop) (c : Int) : Prop where
 ok : ∀ (w : World) (b o b' o' : Nat), R w b o → R' w b' o' → Calls Tryz.prog f #[.pointer (some ⟨b, o, none⟩), .pointer (some ⟨b', o', none⟩)] w fun e w' => e = .returned (.int .i64 c) ∧ Gw w w'
theorem all_types {α : Type} (E : α → List Tok) (hE : ∀ x y, Clean (E x) (E y) (lexC (E x) (E y))) (R R' : α → World → Nat → Nat → Prop) (hR : ∀ x w w' b o, Below w.heap.size w w' → R x w b o → R x w' b o) (hR' : ∀ x w w' b o, Below w.heap.size w w' → R' x w b o → R' x w' b o)
  (l l' : List α) (hl : ∀ x ∈ l, ∀ y, OrdP 77 (R x) (R' y) (lexC (E x) (E y))) (A A' : Option Addr) (c c' : Nat) (w : World) (b o b' o' : Nat) (hA : 0 < l.length → A = some ⟨b, o, none⟩) (hA' : 0 < l'.length → A' = some ⟨b', o', none⟩) (hlen : l.length ≤ 1000000000000000) (_hlen' : l'.length ≤ 1000000000000000)
  (hx : ∀ i (h : i < l.length), R l[i] w b (o + i * 6)) (hx' : ∀ i (h : i < l'.length), R' l'[i] w b' (o' + i * 6)) :
  Calls Tryz.prog 108 #[.slice A l.length c, .slice A' l'.length c', .func (.func 77) #[] #[]] w fun e w' => e = .returned (.int .i64 (lexC (rowE E l) (rowE E l'))) ∧ Gw w w' := by
 by_cases heq : l.length = l'.length
 case neg =>
  rw [row_len E heq]
  have tc : (cmpZ l.length l'.length != 0) = true := by
   rw [bne_iff_ne]
   exact fun h => heq (by have := cmpZ_zero h; omega)
  have KC := Hd (compare_i (l.length : Int) (l'.length : Int))
  generalize cmpZ (l.length : Int) (l'.length : Int) = cz at tc KC
  clear heq hx hx' hl hR hR' hA hA'
  go_enter Tryz.func108, Tryz.ntmps108
  go_wp2_with fail
  refine (KC.out _).mono ?_
  rintro e w1 ⟨rfl, rfl⟩
  go_wp2_with fail
  go_ret
  exact ⟨rfl, Gw.refl _⟩
 rw [row_same E heq]
 have HE := Hd hE
 have HR := Hd hR
 have HR' := Hd hR'
 have HO := Hd hl
 have HA := Hd hA
 have HA' := Hd hA'
 have HX := Hd hx
 have HX' := Hd hx'
 have HBg := Hd hlen
 have HQ := Hd heq
 have KC := Hd (compare_i (l.length : Int) (l'.length : Int))
 rw [show cmpZ (l.length : Int) (l'.length : Int) = 0 from by rw [heq]; exact cmpZ_self _] at KC
 generalize hres : restC E l l' 0 = res
 have HRes := Hd hres
 clear hE hR hR' hl hA hA' hx hx' hres
 obtain ⟨m, hm⟩ : ∃ m, m = l.length := ⟨_, rfl⟩
 obtain ⟨m', hm'⟩ : ∃ m', m' = l'.length := ⟨_, rfl⟩
 rw [← hm, ← hm'] at heq KC
 rw [← hm, ← hm']
 rw [← hm] at hlen HBg
 have HM := Hd (And.intro hm hm')
 subst heq
 clear _hlen' hm hm'
 go_enter Tryz.func108, Tryz.ntmps108
 go_wp2_with fail
 refine (KC.out _).mono ?_
 rintro e w1 ⟨rfl, rfl⟩
 go_wp2_with fail
 go_loopw [20] (fun v wr => ∃ n : Nat, n ≤ m ∧ v = .int .i64 n ∧ Gw w wr ∧ restC E l l' n = res) (fun v _ => m - (intOf v).toNat)
 case atStart => exact ⟨0, by omega, rfl, Gw.refl _, HRes.out⟩
 case round =>
  obtain ⟨n, hn, rfl, hb, hrest⟩ := hrel
  have HB := Hd hb
  have HRst := Hd hrest
  clear hb hrest
  by_cases hlt : n < m
  case neg =>
   obtain rfl : n = m := by omega
   have tl : decide ((n : Int) < (n : Int)) = false := by simp
   have h0 : res = 0 := by rw [← HRst.out, HM.out.1]; exact rest_end E HQ.out
   have H0 := Hd h0
   clear hlt h0
   go_wp2_with fail
   go_ret
   exact ⟨by rw [H0.out]; rfl, HB.out⟩
  have tl : decide ((n : Int) < (m : Int)) = true := by simp; omega
  have hn1 : n < l.length := by rw [← HM.out.1]; exact hlt
  have hn2 : n < l'.length := by rw [← HM.out.2]; exact hlt
  have hA := HA.out (by omega)
  have hA' := HA'.out (by omega)
  subst hA hA'
  have HL := Hd hlt
  have hstep := rest_step E HE.out HQ.out hn1 hn2
  rw [HRst.out] at hstep
  have K7 := Hd ((HO.out l[n] (List.getElem_mem hn1) l'[n]).ok wr.drew b (o + n * 6) b' (o' + n * 6) (HR.out _ _ _ _ _ HB.out.drew.below (HX.out n hn1)) (HR'.out _ _ _ _ _ HB.out.drew.below (HX'.out n hn2)))
  generalize lexC (E l[n]) (E l'[n]) = c7 at hstep K7
  have HNext : Hid (c7 = 0 → restC E l l' (n + 1) = res) := Hd fun h => by rw [hstep, h, or2_zero]
  have HStop : Hid (c7 ≠ 0 → res = c7) := Hd fun h => by rw [hstep, or2_ne h]
  have hltn : n < m := hlt
  clear hstep hlt hn1 hn2
  go_wp2_with fail
  go_wp2_with fail
  refine wp_region_held_drew (S := (fun _ => True)) (by kernel_rfl) trivial (fun hHeld => ?_)
  refine Plan.start [0, 1, 2, 3, 4, 5, 6] ?_
  iterate 7 (refine Plan.tk (so rfl) hHeld ?_; try simp only [Act.put, pz1, pz2, pz3])
  refine Plan.done ?_
  refine wpAnyH_ready (rs := [7]) (by kernel_rfl) (by simp) ?_
  refine AllReadyH.cons (sd (some 30) rfl) (fun K hK => ?_) AllReadyH.nil
  go_simp
  refine K7.out.mono ?_
  rintro e w7 ⟨rfl, hb7⟩
  have HB7 := Hd hb7
  clear hb7
  go_wp2_with fail
  refine hK.out _ _ (trivial) (fun hHeld => ?_)
  clear hK K
  try simp only [Act.put, pz1, pz2, pz3]
  refine Plan.start [8] ?_
  refine Plan.tk (so rfl) hHeld ?_
  try simp only [Act.put, pz1, pz2, pz3]
  refine Plan.done ?_
  refine wpAnyH_done (by kernel_rfl) ?_ _
  clear hHeld
  by_cases hc : c7 = 0
  ·have tc : (c7 != 0) = false := by simpa using hc
   have HR2 := Hd (HNext.out hc)
   clear hc
   go_wp2_with fail
   refine ⟨⟨n + 1, HL.out, by go_num, HB.out.drew.trans HB7.out, HR2.out⟩, ?meas⟩
   case meas => exact measT HL.out
  ·have tc : (c7 != 0) = true := by simpa using hc
   have HR2 := Hd (HStop.out hc)
   clear hc
   go_wp2_with fail
   go_ret
   exact ⟨by rw [← HR2.out]; rfl, HB.out.drew.trans HB7.out⟩
def trimF : Nat → ByteArray → ByteArray
 | 0, s => s
 | n + 1, s => if 0 < s.size ∧ byteN s (s.size - 1) = 39 then trimF n (s.extract 0 (s.size - 1)) else s
def trimQ (s : ByteArray) : ByteArray := trimF s.size s
def nameT (s : ByteArray) : Bool := idB (trimQ s)
theorem trim_go {s : ByteArray} {m : Nat} (h : s.size = m + 1) (hb : byteN s m = 39) : trimQ s = trimQ (s.extract 0 m) := by
 have h2 : (s.extract 0 m).size = m := by rw [ByteArray.size_extract]; omega
 unfold trimQ
 rw [h2, h, trimF, if_pos ⟨by omega, by rw [h]; exact hb⟩, h]
 rfl
theorem trim_stop {s : ByteArray} {m : Nat} (h : s.size = m + 1) (hb : byteN s m ≠ 39) : trimQ s = s := by
 unfold trimQ
 rw [h, trimF, if_neg (fun hx => hb (by have := hx.2; rw [h] at this; exact this))]
theorem trim_none {s : ByteArray} (h : s.size = 0) : trimQ s = s := by
 unfold trimQ
 rw [h]; rfl
theorem wrap_small {n : Int} (h : 0 ≤ n) (h2 : n ≤ 1000000000000000000) : wrap64 n = n := by
 have e : IntKind.i64.wrap n = wrap64 n := by unfold wrap64; exact IntKind.wrap_i64 n
 rw [← e]
 simp [IntKind.wrap, IntKind.bits, IntKind.signed]
 omega
theorem trimF_size : ∀ n s, (trimF n s).size ≤ s.size
 | 0, _ => Nat.le_refl _
 | n + 1, s => by
  rw [trimF]
  split
  ·refine Nat.le_trans (trimF_size n _) ?_
   rw [ByteArray.size_extract]; omega
  ·exact Nat.le_refl _
theorem trimQ_size (s : ByteArray) : (trimQ s).size ≤ s.size := trimF_size _ _
theorem sz_extract (t : ByteArray) {m : Nat} (h : t.size = m + 1) : (t.extract 0 m).size = m := by rw [ByteArray.size_extract]; omega
theorem trimR_prog (s : ByteArray) (w : World) (hs : s.size ≤ 1000000000000000) :
  Calls Tryz.prog 122 #[.string s, .int .u8 39] w fun e w' => e = .returned (.string (trimQ s)) ∧ w' = w := by
 go_enter Tryz.func122, Tryz.ntmps122
 go_wp2_with fail
 go_loopw [0] (fun v wr => ∃ t : ByteArray, v = .string t ∧ t.size ≤ s.size ∧ trimQ t = trimQ s ∧ wr = w) (fun v _ => match v with | .string t => t.size | _ => 0)
 case atStart => exact ⟨s, rfl, Nat.le_refl _, rfl, rfl⟩
 case round =>
  obtain ⟨t, rfl, ht, hq, rfl⟩ := hrel
  have HQ := Hd hq
  clear hq
  cases hm : t.size with
  | zero =>
   have HF := Hd (trim_none hm)
   go_wp2_with fail
   go_ret
   exact ⟨by rw [← HQ.out, HF.out]; rfl, rfl⟩
  | succ m =>
   have hb := byteN_at t m (by omega)
   have HM := Hd hm
   have i0 : (0 : Int) ≤ (m : Int) := by omega
   have i1 : (m : Int) < (m : Int) + 1 := by omega
   have wr1 : wrap64 (((m + 1 : Nat) : Int) - 1) = (m : Int) := by rw [wrap_small (by omega) (by omega)]; omega
   have wr3 : wrap64 (m : Int) = (m : Int) := wrap_small (by omega) (by omega)
   have HSZ := Hd (sz_extract t hm)
   by_cases h39 : byteN t m = 39
   ·have HG := Hd (trim_go hm h39)
    have te : ((byteN t m : Int) == 39) = true := by simp; omega
    have HT := Hd ht
    clear h39 ht
    generalize byteN t m = bb at hb te
    go_wp2_with fail
    refine ⟨⟨t.extract 0 m, by first | rfl | (rw [wr3]; rfl), by rw [HSZ.out]; have := HT.out; have := HM.out; omega, by rw [← HG.out, HQ.out], by first | rfl | trivial⟩, ?_⟩
    try rw [wr3]
    show (t.extract 0 m).size < t.size
    rw [HSZ.out, HM.out]; omega
   ·have HF := Hd (trim_stop hm h39)
    have te : ((byteN t m : Int) == 39) = false := by simp; omega
    have te2 : (byteN t m == 39) = false := by simpa using h39
    clear ht
    generalize byteN t m = bb at hb te te2 h39
    go_wp2_with fail
    go_ret
    exact ⟨by rw [← HQ.out, HF.out]; rfl, rfl⟩
theorem trim_prog (s : ByteArray) (w : World) (hs : s.size ≤ 1000000000000000) :
  Calls Tryz.prog 85 #[.string s, .string ⟨#[39]⟩] w fun e w' => e = .returned (.string (trimQ s)) ∧ w' = w := by
 cases hl : s.toList with
 | nil =>
  have HF := Hd (trim_none (size_nil hl))
  have HQ := Hd hl
  go_enter Tryz.func85, Tryz.ntmps85
  go_wp2_with fail
  go_ret
  exact ⟨by rw [HF.out]; rfl, rfl⟩
 | cons a l =>
  have KT := Hd (trimR_prog s w hs)
  go_enter Tryz.func85, Tryz.ntmps85
  go_wp2_with fail
  refine KT.out.mono ?_
  rintro e w1 ⟨rfl, rfl⟩
  go_wp2_with fail
  go_ret
  exact ⟨rfl, rfl⟩
theorem name_prog (s : ByteArray) (w : World) (hs : s.size ≤ 1000000000000000) :
  Calls Tryz.prog 54 #[.string s] w fun e w' => e = .returned (.bool (nameT s)) ∧ Below w.heap.size w w' := by
 have KT := Hd (trim_prog s w hs)
 have KI := Hd (isname_prog (trimQ s) w (Nat.le_trans (trimQ_size s) hs))
 unfold nameT
 generalize idB (trimQ s) = r at KI ⊢
 generalize trimQ s = q at KT KI
 go_enter Tryz.func54, Tryz.ntmps54
 go_wp2_with fail
 refine KT.out.mono ?_
 rintro e w1 ⟨rfl, rfl⟩
 go_wp2_with fail
 refine KI.out.mono ?_
 rintro e w2 ⟨rfl, hb⟩
 have HB := Hd hb
 clear hb
 go_wp2_with fail
 go_ret
 exact ⟨rfl, HB.out⟩
theorem name_ref (s : ByteArray) (w : World) (hs : s.size ≤ 1000000000000000) :
  Calls Tryz.prog 49 #[.string s] w fun e w' => e = .returned (.bool (nameT s)) ∧ Below w.heap.size w w' := by
 have KI : Hid (∀ t : ByteArray, t.size ≤ s.size → trimQ t = t → trimQ t = trimQ s → Calls Tryz.prog 79 #[.string t] w fun e w' => e = .returned (.bool (nameT s)) ∧ Below w.heap.size w w') := Hd fun t ht h1 h2 => by
  unfold nameT
  rw [← h2, h1]
  exact isname_ref t w (Nat.le_trans ht hs)
 generalize nameT s = r at KI ⊢
 go_enter Tryz.func49, Tryz.ntmps49
 go_wp2_with fail
 go_loopw [0] (fun v wr => ∃ t : ByteArray, v = .string t ∧ t.size ≤ s.size ∧ trimQ t = trimQ s ∧ wr = w) (fun v _ => match v with | .string t => t.size | _ => 0)
 case atStart => exact ⟨s, rfl, Nat.le_refl _, rfl, rfl⟩
 case round =>
  obtain ⟨t, rfl, ht, hq, rfl⟩ := hrel
  have HQ := Hd hq
  clear hq
  cases hm : t.size with
  | zero =>
   have KT := Hd (KI.out t ht (trim_none hm) HQ.out)
   clear ht
   go_wp2_with fail
   refine KT.out.mono ?_
   rintro e w2 ⟨rfl, hb⟩
   have HB := Hd hb
   clear hb
   go_wp2_with fail
   go_ret
   exact ⟨rfl, HB.out⟩
  | succ m =>
   have hb := byteN_at t m (by omega)
   have HM := Hd hm
   have i0 : (0 : Int) ≤ (m : Int) := by omega
   have i1 : (m : Int) < (m : Int) + 1 := by omega
   have wr1 : wrap64 (((m + 1 : Nat) : Int) - 1) = (m : Int) := by rw [wrap_small (by omega) (by omega)]; omega
   have wr3 : wrap64 (m : Int) = (m : Int) := wrap_small (by omega) (by omega)
   have HSZ := Hd (sz_extract t hm)
   by_cases h39 : byteN t m = 39
   ·have HG := Hd (trim_go hm h39)
    have te : ((byteN t m : Int) == 39) = true := by simp; omega
    have HT := Hd ht
    clear h39 ht
    generalize byteN t m = bb at hb te
    go_wp2_with fail
    refine ⟨⟨t.extract 0 m, by first | rfl | (rw [wr3]; rfl), by rw [HSZ.out]; have := HT.out; have := HM.out; omega, by rw [← HG.out, HQ.out], by first | rfl | trivial⟩, ?_⟩
    try rw [wr3]
    show (t.extract 0 m).size < t.size
    rw [HSZ.out, HM.out]; omega
   ·have KT := Hd (KI.out t ht (trim_stop hm h39) HQ.out)
    have te : ((byteN t m : Int) == 39) = false := by simp; omega
    have te2 : (byteN t m == 39) = false := by simpa using h39
    clear ht
    generalize byteN t m = bb at hb te te2 h39
    go_wp2_with fail
    refine KT.out.mono ?_
    rintro e w2 ⟨rfl, hb⟩
    have HB := Hd hb
    clear hb
    go_wp2_with fail
    go_ret
    exact ⟨rfl, HB.out⟩
theorem all_fields {α : Type} (E : α → List Tok) (hE : ∀ x y, Clean (E x) (E y) (lexC (E x) (E y))) (R R' : α → World → Nat → Nat → Prop) (hR : ∀ x w w' b o, Below w.heap.size w w' → R x w b o → R x w' b o) (hR' : ∀ x w w' b o, Below w.heap.size w w' → R' x w b o → R' x w' b o)
  (l l' : List α) (hl : ∀ x ∈ l, ∀ y, OrdP 110 (R x) (R' y) (lexC (E x) (E y))) (A A' : Option Addr) (c c' : Nat) (w : World) (b o b' o' : Nat) (hA : 0 < l.length → A = some ⟨b, o, none⟩) (hA' : 0 < l'.length → A' = some ⟨b', o', none⟩) (hlen : l.length ≤ 1000000000000000) (_hlen' : l'.length ≤ 1000000000000000)
  (hx : ∀ i (h : i < l.length), R l[i] w b (o + i * 8)) (hx' : ∀ i (h : i < l'.length), R' l'[i] w b' (o' + i * 8)) :
  Calls Tryz.prog 109 #[.slice A l.length c, .slice A' l'.length c', .func (.func 110) #[] #[]] w fun e w' => e = .returned (.int .i64 (lexC (rowE E l) (rowE E l'))) ∧ Gw w w' := by
 by_cases heq : l.length = l'.length
 case neg =>
  rw [row_len E heq]
  have tc : (cmpZ l.length l'.length != 0) = true := by
   rw [bne_iff_ne]
   exact fun h => heq (by have := cmpZ_zero h; omega)
  have KC := Hd (compare_i (l.length : Int) (l'.length : Int))
  generalize cmpZ (l.length : Int) (l'.length : Int) = cz at tc KC
  clear heq hx hx' hl hR hR' hA hA'
  go_enter Tryz.func109, Tryz.ntmps109
  go_wp2_with fail
  refine (KC.out _).mono ?_
  rintro e w1 ⟨rfl, rfl⟩
  go_wp2_with fail
  go_ret
  exact ⟨rfl, Gw.refl _⟩
 rw [row_same E heq]
 have HE := Hd hE
 have HR := Hd hR
 have HR' := Hd hR'
 have HO := Hd hl
 have HA := Hd hA
 have HA' := Hd hA'
 have HX := Hd hx
 have HX' := Hd hx'
 have HBg := Hd hlen
 have HQ := Hd heq
 have KC := Hd (compare_i (l.length : Int) (l'.length : Int))
 rw [show cmpZ (l.length : Int) (l'.length : Int) = 0 from by rw [heq]; exact cmpZ_self _] at KC
 generalize hres : restC E l l' 0 = res
 have HRes := Hd hres
 clear hE hR hR' hl hA hA' hx hx' hres
 obtain ⟨m, hm⟩ : ∃ m, m = l.length := ⟨_, rfl⟩
 obtain ⟨m', hm'⟩ : ∃ m', m' = l'.length := ⟨_, rfl⟩
 rw [← hm, ← hm'] at heq KC
 rw [← hm, ← hm']
 rw [← hm] at hlen HBg
 have HM := Hd (And.intro hm hm')
 subst heq
 clear _hlen' hm hm'
 go_enter Tryz.func109, Tryz.ntmps109
 go_wp2_with fail
 refine (KC.out _).mono ?_
 rintro e w1 ⟨rfl, rfl⟩
 go_wp2_with fail
 go_loopw [20] (fun v wr => ∃ n : Nat, n ≤ m ∧ v = .int .i64 n ∧ Gw w wr ∧ restC E l l' n = res) (fun v _ => m - (intOf v).toNat)
 case atStart => exact ⟨0, by omega, rfl, Gw.refl _, HRes.out⟩
 case round =>
  obtain ⟨n, hn, rfl, hb, hrest⟩ := hrel
  have HB := Hd hb
  have HRst := Hd hrest
  clear hb hrest
  by_cases hlt : n < m
  case neg =>
   obtain rfl : n = m := by omega
   have tl : decide ((n : Int) < (n : Int)) = false := by simp
   have h0 : res = 0 := by rw [← HRst.out, HM.out.1]; exact rest_end E HQ.out
   have H0 := Hd h0
   clear hlt h0
   go_wp2_with fail
   go_ret
   exact ⟨by rw [H0.out]; rfl, HB.out⟩
  have tl : decide ((n : Int) < (m : Int)) = true := by simp; omega
  have hn1 : n < l.length := by rw [← HM.out.1]; exact hlt
  have hn2 : n < l'.length := by rw [← HM.out.2]; exact hlt
  have hA := HA.out (by omega)
  have hA' := HA'.out (by omega)
  subst hA hA'
  have HL := Hd hlt
  have hstep := rest_step E HE.out HQ.out hn1 hn2
  rw [HRst.out] at hstep
  have K7 := Hd ((HO.out l[n] (List.getElem_mem hn1) l'[n]).ok wr.drew b (o + n * 8) b' (o' + n * 8) (HR.out _ _ _ _ _ HB.out.drew.below (HX.out n hn1)) (HR'.out _ _ _ _ _ HB.out.drew.below (HX'.out n hn2)))
  generalize lexC (E l[n]) (E l'[n]) = c7 at hstep K7
  have HNext : Hid (c7 = 0 → restC E l l' (n + 1) = res) := Hd fun h => by rw [hstep, h, or2_zero]
  have HStop : Hid (c7 ≠ 0 → res = c7) := Hd fun h => by rw [hstep, or2_ne h]
  have hltn : n < m := hlt
  clear hstep hlt hn1 hn2
  go_wp2_with fail
  go_wp2_with fail
  refine wp_region_held_drew (S := (fun _ => True)) (by kernel_rfl) trivial (fun hHeld => ?_)
  refine Plan.start [0, 1, 2, 3, 4, 5, 6] ?_
  iterate 7 (refine Plan.tk (so rfl) hHeld ?_; try simp only [Act.put, pz1, pz2, pz3])
  refine Plan.done ?_
  refine wpAnyH_ready (rs := [7]) (by kernel_rfl) (by simp) ?_
  refine AllReadyH.cons (sd (some 30) rfl) (fun K hK => ?_) AllReadyH.nil
  go_simp
  refine K7.out.mono ?_
  rintro e w7 ⟨rfl, hb7⟩
  have HB7 := Hd hb7
  clear hb7
  go_wp2_with fail
  refine hK.out _ _ (trivial) (fun hHeld => ?_)
  clear hK K
  try simp only [Act.put, pz1, pz2, pz3]
  refine Plan.start [8] ?_
  refine Plan.tk (so rfl) hHeld ?_
  try simp only [Act.put, pz1, pz2, pz3]
  refine Plan.done ?_
  refine wpAnyH_done (by kernel_rfl) ?_ _
  clear hHeld
  by_cases hc : c7 = 0
  ·have tc : (c7 != 0) = false := by simpa using hc
   have HR2 := Hd (HNext.out hc)
   clear hc
   go_wp2_with fail
   refine ⟨⟨n + 1, HL.out, by go_num, HB.out.drew.trans HB7.out, HR2.out⟩, ?meas⟩
   case meas => exact measT HL.out
  ·have tc : (c7 != 0) = true := by simpa using hc
   have HR2 := Hd (HStop.out hc)
   clear hc
   go_wp2_with fail
   go_ret
   exact ⟨by rw [← HR2.out]; rfl, HB.out.drew.trans HB7.out⟩
theorem all_vars {α : Type} (E : α → List Tok) (hE : ∀ x y, Clean (E x) (E y) (lexC (E x) (E y))) (R R' : α → World → Nat → Nat → Prop) (hR : ∀ x w w' b o, Below w.heap.size w w' → R x w b o → R x w' b o) (hR' : ∀ x w w' b o, Below w.heap.size w w' → R' x w b o → R' x w' b o)
  (l l' : List α) (hl : ∀ x ∈ l, ∀ y, OrdP 112 (R x) (R' y) (lexC (E x) (E y))) (A A' : Option Addr) (c c' : Nat) (w : World) (b o b' o' : Nat) (hA : 0 < l.length → A = some ⟨b, o, none⟩) (hA' : 0 < l'.length → A' = some ⟨b', o', none⟩) (hlen : l.length ≤ 1000000000000000) (_hlen' : l'.length ≤ 1000000000000000)
  (hx : ∀ i (h : i < l.length), R l[i] w b (o + i * 2)) (hx' : ∀ i (h : i < l'.length), R' l'[i] w b' (o' + i * 2)) :
  Calls Tryz.prog 111 #[.slice A l.length c, .slice A' l'.length c', .func (.func 112) #[] #[]] w fun e w' => e = .returned (.int .i64 (lexC (rowE E l) (rowE E l'))) ∧ Gw w w' := by
 by_cases heq : l.length = l'.length
 case neg =>
  rw [row_len E heq]
  have tc : (cmpZ l.length l'.length != 0) = true := by
   rw [bne_iff_ne]
   exact fun h => heq (by have := cmpZ_zero h; omega)
  have KC := Hd (compare_i (l.length : Int) (l'.length : Int))
  generalize cmpZ (l.length : Int) (l'.length : Int) = cz at tc KC
  clear heq hx hx' hl hR hR' hA hA'
  go_enter Tryz.func111, Tryz.ntmps111
  go_wp2_with fail
  refine (KC.out _).mono ?_
  rintro e w1 ⟨rfl, rfl⟩
  go_wp2_with fail
  go_ret
  exact ⟨rfl, Gw.refl _⟩
 rw [row_same E heq]
 have HE := Hd hE
 have HR := Hd hR
 have HR' := Hd hR'
 have HO := Hd hl
 have HA := Hd hA
 have HA' := Hd hA'
 have HX := Hd hx
 have HX' := Hd hx'
 have HBg := Hd hlen
 have HQ := Hd heq
 have KC := Hd (compare_i (l.length : Int) (l'.length : Int))
 rw [show cmpZ (l.length : Int) (l'.length : Int) = 0 from by rw [heq]; exact cmpZ_self _] at KC
 generalize hres : restC E l l' 0 = res
 have HRes := Hd hres
 clear hE hR hR' hl hA hA' hx hx' hres
 obtain ⟨m, hm⟩ : ∃ m, m = l.length := ⟨_, rfl⟩
 obtain ⟨m', hm'⟩ : ∃ m', m' = l'.length := ⟨_, rfl⟩
 rw [← hm, ← hm'] at heq KC
 rw [← hm, ← hm']
 rw [← hm] at hlen HBg
 have HM := Hd (And.intro hm hm')
 subst heq
 clear _hlen' hm hm'
 go_enter Tryz.func111, Tryz.ntmps111
 go_wp2_with fail
 refine (KC.out _).mono ?_
 rintro e w1 ⟨rfl, rfl⟩
 go_wp2_with fail
 go_loopw [20] (fun v wr => ∃ n : Nat, n ≤ m ∧ v = .int .i64 n ∧ Gw w wr ∧ restC E l l' n = res) (fun v _ => m - (intOf v).toNat)
 case atStart => exact ⟨0, by omega, rfl, Gw.refl _, HRes.out⟩
 case round =>
  obtain ⟨n, hn, rfl, hb, hrest⟩ := hrel
  have HB := Hd hb
  have HRst := Hd hrest
  clear hb hrest
  by_cases hlt : n < m
  case neg =>
   obtain rfl : n = m := by omega
   have tl : decide ((n : Int) < (n : Int)) = false := by simp
   have h0 : res = 0 := by rw [← HRst.out, HM.out.1]; exact rest_end E HQ.out
   have H0 := Hd h0
   clear hlt h0
   go_wp2_with fail
   go_ret
   exact ⟨by rw [H0.out]; rfl, HB.out⟩
  have tl : decide ((n : Int) < (m : Int)) = true := by simp; omega
  have hn1 : n < l.length := by rw [← HM.out.1]; exact hlt
  have hn2 : n < l'.length := by rw [← HM.out.2]; exact hlt
  have hA := HA.out (by omega)
  have hA' := HA'.out (by omega)
  subst hA hA'
  have HL := Hd hlt
  have hstep := rest_step E HE.out HQ.out hn1 hn2
  rw [HRst.out] at hstep
  have K7 := Hd ((HO.out l[n] (List.getElem_mem hn1) l'[n]).ok wr.drew b (o + n * 2) b' (o' + n * 2) (HR.out _ _ _ _ _ HB.out.drew.below (HX.out n hn1)) (HR'.out _ _ _ _ _ HB.out.drew.below (HX'.out n hn2)))
  generalize lexC (E l[n]) (E l'[n]) = c7 at hstep K7
  have HNext : Hid (c7 = 0 → restC E l l' (n + 1) = res) := Hd fun h => by rw [hstep, h, or2_zero]
  have HStop : Hid (c7 ≠ 0 → res = c7) := Hd fun h => by rw [hstep, or2_ne h]
  have hltn : n < m := hlt
  clear hstep hlt hn1 hn2
  go_wp2_with fail
  go_wp2_with fail
  refine wp_region_held_drew (S := (fun _ => True)) (by kernel_rfl) trivial (fun hHeld => ?_)
  refine Plan.start [0, 1, 2, 3, 4, 5, 6] ?_
  iterate 7 (refine Plan.tk (so rfl) hHeld ?_; try simp only [Act.put, pz1, pz2, pz3])
  refine Plan.done ?_
  refine wpAnyH_ready (rs := [7]) (by kernel_rfl) (by simp) ?_
  refine AllReadyH.cons (sd (some 30) rfl) (fun K hK => ?_) AllReadyH.nil
  go_simp
  refine K7.out.mono ?_
  rintro e w7 ⟨rfl, hb7⟩
  have HB7 := Hd hb7
  clear hb7
  go_wp2_with fail
  refine hK.out _ _ (trivial) (fun hHeld => ?_)
  clear hK K
  try simp only [Act.put, pz1, pz2, pz3]
  refine Plan.start [8] ?_
  refine Plan.tk (so rfl) hHeld ?_
  try simp only [Act.put, pz1, pz2, pz3]
  refine Plan.done ?_
  refine wpAnyH_done (by kernel_rfl) ?_ _
  clear hHeld
  by_cases hc : c7 = 0
  ·have tc : (c7 != 0) = false := by simpa using hc
   have HR2 := Hd (HNext.out hc)
   clear hc
   go_wp2_with fail
   refine ⟨⟨n + 1, HL.out, by go_num, HB.out.drew.trans HB7.out, HR2.out⟩, ?meas⟩
   case meas => exact measT HL.out
  ·have tc : (c7 != 0) = true := by simpa using hc
   have HR2 := Hd (HStop.out hc)
   clear hc
   go_wp2_with fail
   go_ret
   exact ⟨by rw [← HR2.out]; rfl, HB.out.drew.trans HB7.out⟩
end Go.Proofs.YtgjblmlibhppiaaGreatDoor
