import Derived.Test.YtlooadichhpgeaaGreatDoorMe43
import Derived.KernelRfl
namespace Go.Proofs.YtlooadichhpgeaaGreatDoor
open Go.RowKit
def infV (s : ByteArray) : Ty := .mk 22 s 0 [] [] []
def arrT (q : Ty) : Ty := .mk 11 emptyB 0 [q] [] []
def tupT (l : List Ty) : Ty := .mk 12 emptyB 0 l [] []
theorem form_infV {s : ByteArray} (h : nameT s = true) : formT (infV s) = true := by
 unfold infV
 rw [formT_mk, show shapeK 22 = ⟨true, false, false, false, 0, 0, true⟩ from rfl]
 have hs : selfB 22 s 0 [] (fieldsB (fieldsT [] formT)) (varsB (varsT [] formT)) = true := by unfold selfB; simpa using h
 rw [hs]
 unfold fitsB
 simp
theorem form_arrT {q : Ty} (h : formT q = true) : formT (arrT q) = true := by
 unfold arrT
 rw [formT_mk, show shapeK 11 = ⟨false, false, false, false, 1, 1, true⟩ from rfl]
 have hs : selfB 11 emptyB 0 [q] (fieldsB (fieldsT [] formT)) (varsB (varsT [] formT)) = true := by unfold selfB; simp
 rw [hs]
 unfold fitsB
 simp [emptyL, h]
theorem form_tupT {l : List Ty} (h : ∀ q ∈ l, formT q = true) : formT (tupT l) = true := by
 unfold tupT
 rw [formT_mk, show shapeK 12 = ⟨false, false, false, false, 0, -1, true⟩ from rfl]
 have hs : selfB 12 emptyB 0 l (fieldsB (fieldsT [] formT)) (varsB (varsT [] formT)) = true := by unfold selfB; simp
 rw [hs]
 unfold fitsB
 have ha : l.all formT = true := List.all_eq_true.2 h
 simp [emptyL, ha]
theorem cnt_infV (s : ByteArray) : cntT (infV s) = 1 := by unfold infV; rw [cntT_mk]; rfl
theorem cnt_arrT (q : Ty) : cntT (arrT q) = cntT q + 1 := by
 unfold arrT
 rw [cntT_mk, cntL_cons, cntL_nil]
 show _ + cntF [] + cntV [] = _
 simp [cntF, cntV]; omega
theorem cnt_tupT (l : List Ty) : cntT (tupT l) = cntL l + 1 := by
 unfold tupT
 rw [cntT_mk]
 show _ + cntF [] + cntV [] = _
 simp [cntF, cntV]; omega
theorem names_infV (s : ByteArray) : namesI (infV s) = [s] := by unfold infV; rw [namesI_mk, if_pos rfl]
theorem names_arrT (q : Ty) : namesI (arrT q) = namesI q := by
 unfold arrT
 rw [namesI_mk, if_neg (by decide)]
 simp [namesP, namesF]
theorem inf_infV (s : ByteArray) : infT (infV s) = true := (infT_names _).2 (by rw [names_infV]; simp)
theorem inf_arrV (s : ByteArray) : infT (arrT (infV s)) = true := (infT_names _).2 (by rw [names_arrT, names_infV]; simp)
theorem gath_infV (s : ByteArray) (t : Ty) : gathT (infV s) t = [(s, t)] := gathT_infer rfl (inf_infV s)
theorem hold_infV (s : ByteArray) (t : Ty) : HoldP (infV s) t := hold_infer rfl
theorem gath_arr (s : ByteArray) (u : Ty) : gathT (arrT (infV s)) (arrT u) = [(s, u)] := by
 rw [gathT_eq, if_neg (by rw [inf_arrV]; decide), if_neg (by show ¬ ((11 : Int) = 22); decide), if_neg (by show ¬ ((11 : Int) = 15); decide), if_neg (by show ¬ (isComp 11 = false); decide), if_neg (by show ¬ ((11 : Int) = 15); decide), if_neg (by show ¬ ((11 : Int) = 11 ∧ (11 : Int) = 12); decide), if_neg (by show ¬ ((11 : Int) ≠ 11); decide), if_pos (show (arrT (infV s)).k = 11 from rfl)]
 show (List.zipWith gathT [infV s] [u]).headD [] = _
 simp [gath_infV]
theorem gath_tup (s : ByteArray) (l : List Ty) : gathT (arrT (infV s)) (tupT l) = [(s, unionT l)] := by
 rw [gathT_eq, if_neg (by rw [inf_arrV]; decide), if_neg (by show ¬ ((11 : Int) = 22); decide), if_neg (by show ¬ ((11 : Int) = 15); decide), if_neg (by show ¬ (isComp 11 = false); decide), if_neg (by show ¬ ((12 : Int) = 15); decide), if_pos (by show (11 : Int) = 11 ∧ (12 : Int) = 12; decide)]
 show ([infV s].map fun q => gathT q (unionT l)).headD [] = _
 simp [gath_infV]
theorem gath_union {s : ByteArray} {T : Ty} (h : T.k = 15) : gathT (arrT (infV s)) T = (T.ps.map fun q => gathT (arrT (infV s)) q).flatten := by
 rw [gathT_eq, if_neg (by rw [inf_arrV]; decide), if_neg (by show ¬ ((11 : Int) = 22); decide), if_neg (by show ¬ ((11 : Int) = 15); decide), if_neg (by show ¬ (isComp 11 = false); decide), if_pos h]
theorem hold_arr (s : ByteArray) (u : Ty) : HoldP (arrT (infV s)) (arrT u) :=
 hold_comp (inf_arrV s) rfl (by show ¬ ((11 : Int) = 15); decide) (ins_array rfl rfl (inf_arrV s) fun q v hq _ => by rw [show (arrT (infV s)).ps = [infV s] from rfl] at hq; rw [List.mem_singleton.1 hq]; exact hold_infV s v)
theorem hold_tup (s : ByteArray) (l : List Ty) : HoldP (arrT (infV s)) (tupT l) :=
 hold_comp (inf_arrV s) rfl (by show ¬ ((12 : Int) = 15); decide) (ins_tuple rfl rfl (inf_arrV s) fun q hq => by rw [show (arrT (infV s)).ps = [infV s] from rfl] at hq; rw [List.mem_singleton.1 hq]; exact hold_infV s _)
theorem hold_arrs {s : ByteArray} {T : Ty} (h : T.k = 15) (hp : ∀ q ∈ T.ps, ∃ u, q = arrT u) : HoldP (arrT (infV s)) T :=
 hold_parts h (inf_arrV s) (by show ¬ ((11 : Int) = 22); decide) (by show ¬ ((11 : Int) = 15); decide) rfl fun q hq => by
  obtain ⟨u, rfl⟩ := hp q hq
  exact hold_arr s u
theorem parts_arrs (t u x : Ty) : x ∈ prtsT (unionT [arrT t, arrT u]) ↔ x = arrT t ∨ x = arrT u := by
 have hfl : flatU [arrT t, arrT u] = [arrT t, arrT u] := flat_self fun x hx => by
  simp only [List.mem_cons, List.not_mem_nil, or_false] at hx
  rcases hx with rfl | rfl <;> (show ¬ ((11 : Int) = 15); decide)
 have hno : ∀ k : Int, k ≠ 11 → hasK k [arrT t, arrT u] = false := fun k hk => by
  cases e : hasK k [arrT t, arrT u] with
  | false => rfl
  | true =>
   obtain ⟨y, hy, e2⟩ := hasKc.1 e
   simp only [List.mem_cons, List.not_mem_nil, or_false] at hy
   rcases hy with rfl | rfl <;> exact absurd e2.symm hk
 rw [mem_parts_union, mem_keptU, hfl]
 simp only [List.mem_cons, List.not_mem_nil, or_false]
 constructor
 ·exact fun h => h.1
 ·intro h
  refine ⟨h, ?_⟩
  have hx : x.k = 11 := by rcases h with rfl | rfl <;> rfl
  rw [keepT_free _ (by omega) (by omega) (by omega) (by rw [a_of]; exact hno 3 (by decide)) (by rw [u_of]; exact hno 2 (by decide)), if_neg (by omega), if_neg (by omega)]
theorem arrs_cases (t u : Ty) : (∃ v, unionT [arrT t, arrT u] = arrT v ∧ ∀ x, x = v ↔ x = t ∨ x = u) ∨ ((unionT [arrT t, arrT u]).k = 15 ∧ ∃ l : List Ty, (unionT [arrT t, arrT u]).ps = l.map arrT ∧ ∀ x, x ∈ l ↔ x = t ∨ x = u) := by
 have inj : ∀ {a b : Ty}, arrT a = arrT b → a = b := fun {a b} h => by
  unfold arrT at h
  injection h with _ _ _ h
  exact (List.cons.inj h).1
 have hp := parts_arrs t u
 generalize unionT [arrT t, arrT u] = T at hp ⊢
 by_cases h15 : T.k = 15
 ·refine .inr ⟨h15, ?_⟩
  have hps : prtsT T = T.ps := by unfold prtsT; rw [if_pos h15]
  rw [hps] at hp
  refine ⟨T.ps.map fun q => q.ps.headD (tyK 1), ?_, fun x => ?_⟩
  ·rw [List.map_map]
   conv => lhs; rw [← List.map_id T.ps]
   refine List.map_congr_left fun q hq => ?_
   rcases (hp q).1 hq with rfl | rfl <;> rfl
  ·rw [List.mem_map]
   constructor
   ·rintro ⟨q, hq, rfl⟩
    rcases (hp q).1 hq with rfl | rfl
    ·exact .inl rfl
    ·exact .inr rfl
   ·rintro (rfl | rfl)
    ·exact ⟨arrT x, (hp _).2 (.inl rfl), rfl⟩
    ·exact ⟨arrT x, (hp _).2 (.inr rfl), rfl⟩
 ·by_cases h1 : T.k = 1
  ·have hps : prtsT T = [] := by unfold prtsT; rw [if_neg h15, if_pos h1]
   have := (hp (arrT t)).2 (.inl rfl)
   rw [hps] at this
   cases this
  ·have hps : prtsT T = [T] := by unfold prtsT; rw [if_neg h15, if_neg h1]
   rw [hps] at hp
   have hT := (hp T).1 (List.mem_singleton.2 rfl)
   have ht := List.mem_singleton.1 ((hp (arrT t)).2 (.inl rfl))
   have hu := List.mem_singleton.1 ((hp (arrT u)).2 (.inr rfl))
   refine .inl ⟨t, ht.symm, fun x => ⟨fun e => .inl e, fun e => ?_⟩⟩
   rcases e with rfl | rfl
   ·rfl
   ·exact inj (hu.trans ht.symm)
theorem gat_arrs (s : ByteArray) (l : List Ty) : ((l.map arrT).map fun q => gathT (arrT (infV s)) q).flatten = l.map fun x => (s, x) := by
 rw [List.map_map]
 induction l with
 | nil => rfl
 | cons a l ih => rw [List.map_cons, List.flatten_cons, ih]; simp [gath_arr]
theorem gatN_all (s : ByteArray) (l : List Ty) : gatN s (l.map fun x => (s, x)) = l := by
 unfold gatN
 rw [List.filter_eq_self.2 (by simp), List.map_map]
 exact List.map_id l
theorem cnt_gatN (s : ByteArray) (G : List (ByteArray × Ty)) : cntL (gatN s G) ≤ cntL (G.map (·.2)) := by
 unfold gatN
 induction G with
 | nil => simp
 | cons a G ih =>
  rw [List.filter_cons]
  split
  ·rw [List.map_cons, List.map_cons, cntL_cons, cntL_cons]; omega
  ·rw [List.map_cons, cntL_cons]; omega
theorem len_cL : ∀ l : List Ty, l.length ≤ cntL l
 | [] => Nat.zero_le _
 | a :: l => by rw [cntL_cons, List.length_cons]; have := cntT_pos a; have := len_cL l; omega
theorem arrs_all (s : ByteArray) (t u : Ty) : HoldP (arrT (infV s)) (unionT [arrT t, arrT u]) ∧ stdT (gatN s (gathT (arrT (infV s)) (unionT [arrT t, arrT u]))) = unionT [t, u] ∧ (gathT (arrT (infV s)) (unionT [arrT t, arrT u])).length ≤ cntT (unionT [arrT t, arrT u]) ∧ cntL ((gathT (arrT (infV s)) (unionT [arrT t, arrT u])).map (·.2)) ≤ cntT (unionT [arrT t, arrT u]) := by
 rcases arrs_cases t u with ⟨v, e, hv⟩ | ⟨h15, l, e, hl⟩
 ·rw [e]
  refine ⟨hold_arr s v, ?_, ?_, ?_⟩
  ·rw [gath_arr, gatN_one, if_pos rfl]
   show (if [v] = [] then _ else unionT [v]) = _
   rw [if_neg (by simp)]
   exact union_same fun x => by simpa using hv x
  ·rw [gath_arr, cnt_arrT]; simp
  ·rw [gath_arr, cnt_arrT]; simp [cntL_cons, cntL_nil]
 ·have hne : l ≠ [] := fun h0 => by have := (hl t).2 (.inl rfl); rw [h0] at this; cases this
  have hc := cnt_ps (unionT [arrT t, arrT u])
  rw [gath_union h15, e, gat_arrs]
  rw [e] at hc
  refine ⟨hold_arrs h15 fun q hq => ?_, ?_, ?_, ?_⟩
  ·rw [e] at hq
   obtain ⟨x, _, rfl⟩ := List.mem_map.1 hq
   exact ⟨x, rfl⟩
  ·rw [gatN_all]
   show (if l = [] then _ else unionT l) = _
   rw [if_neg hne]
   exact union_same fun x => by simpa using hl x
  ·have h1 := len_cL (l.map arrT)
   rw [List.length_map] at h1 ⊢
   omega
  ·have h2 : cntL ((l.map fun x => (s, x)).map (·.2)) ≤ cntL (l.map arrT) := by
    rw [List.map_map]
    clear hl hne e hc
    induction l with
    | nil => simp
    | cons a l ih => rw [List.map_cons, List.map_cons, cntL_cons, cntL_cons, cnt_arrT]; simp only [Function.comp] at ih ⊢; omega
   omega
set_option maxRecDepth 100000 in
set_option maxHeartbeats 2000000 in
theorem of14 (k : Int) (w : World) : Calls Tryz.prog 17 #[.int .i64 k] w fun e w' => e = .returned (.agg #[.int .i64 k, .string ⟨#[]⟩, .int .i64 0, .slice none 0 0, .slice none 0 0, .slice none 0 0]) ∧ Below w.heap.size w w' := by
 go_enter Tryz.func17, Tryz.ntmps17
 go_wp2_with fail
 exact bodyPost_ret (v := .agg #[.int .i64 k, .string ⟨#[]⟩, .int .i64 0, .slice none 0 0, .slice none 0 0, .slice none 0 0]) (by simp [results, Tryz.results17, go_sem]) rfl ⟨rfl, (Below.refl _ _).alloc (Nat.le_refl _) _⟩
set_option maxRecDepth 100000 in
set_option maxHeartbeats 2000000 in
theorem infer14 (s : ByteArray) (w : World) : Calls Tryz.prog 11 #[.string s] w fun e w' => e = .returned (.agg #[.int .i64 22, .string s, .int .i64 0, .slice none 0 0, .slice none 0 0, .slice none 0 0]) ∧ Below w.heap.size w w' := by
 go_enter Tryz.func11, Tryz.ntmps11
 go_wp2_with fail
 exact bodyPost_ret (v := .agg #[.int .i64 22, .string s, .int .i64 0, .slice none 0 0, .slice none 0 0, .slice none 0 0]) (by simp [results, Tryz.results11, go_sem]) rfl ⟨rfl, (Below.refl _ _).alloc (Nat.le_refl _) _⟩
set_option maxRecDepth 100000 in
set_option maxHeartbeats 16000000 in
theorem same14 {K K' : Nat → Prop} {w : World} {t q : Ty} {cs ds : List Value} (hr : RepT K w t cs) (hp : RepT K' w q ds) :
  Calls Tryz.prog 12 #[.agg cs.toArray, .agg ds.toArray] w fun e w' => e = .returned (.bool (ordT t q == 0)) ∧ Below w.heap.size w w' := by
 have KO := Lib.hid fun wx (hx : Below w.heap.size w wx) => order_ref t K K' q wx cs ds (hr.later hx) (hp.later hx)
 generalize ordT t q = z at KO
 obtain ⟨k, s, n, ps, fs, vs⟩ := t
 obtain ⟨A, c, A', c', A'', c'', rfl, -⟩ := hr.inv
 obtain ⟨k3, s3, n3, ps3, fs3, vs3⟩ := q
 obtain ⟨A3, c3, B3, d3, C3, e3, rfl, -⟩ := hp.inv
 simp only [cells6T] at KO ⊢
 obtain ⟨w1, hw1⟩ : ∃ x, x = (w.alloc (.cells #[.int .i64 k, .string s, .int .i64 n, .slice A ps.length c, .slice A' fs.length c', .slice A'' vs.length c''] 26)).alloc (.cells #[.int .i64 k3, .string s3, .int .i64 n3, .slice A3 ps3.length c3, .slice B3 fs3.length d3, .slice C3 vs3.length e3] 26) := ⟨_, rfl⟩
 have hb1 : Below w.heap.size w w1 := by rw [hw1]; exact ((Below.refl _ _).alloc (Nat.le_refl _) _).alloc (by simp) _
 have hx0 : w1.heap[w.heap.size]? = some (.cells #[.int .i64 k, .string s, .int .i64 n, .slice A ps.length c, .slice A' fs.length c', .slice A'' vs.length c''] 26 (0, 0)) := by rw [hw1, Below.heap_alloc _ _ _ (by simp)]; exact heap_alloc_new w _
 have hy0 : w1.heap[w.heap.size + 1]? = some (.cells #[.int .i64 k3, .string s3, .int .i64 n3, .slice A3 ps3.length c3, .slice B3 fs3.length d3, .slice C3 vs3.length e3] 26 (0, 0)) := by
  rw [hw1]
  have h := heap_alloc_new (w.alloc (.cells #[.int .i64 k, .string s, .int .i64 n, .slice A ps.length c, .slice A' fs.length c', .slice A'' vs.length c''] 26)) (.cells #[.int .i64 k3, .string s3, .int .i64 n3, .slice A3 ps3.length c3, .slice B3 fs3.length d3, .slice C3 vs3.length e3] 26)
  rw [World.size_alloc] at h
  exact h
 have HB1 := Lib.hid hb1
 have HX0 := Lib.hid hx0
 have HY0 := Lib.hid hy0
 have HW1 := Lib.hid hw1
 clear hr hp hb1 hx0 hy0 hw1
 go_enter Tryz.func12, Tryz.ntmps12
 go_upto_region 1 with fail
 rw [← HW1.out]
 obtain ⟨x0, x1, x2, x3, x4, x5⟩ := cz6 HX0.out
 obtain ⟨y0, y1, y2, y3, y4, y5⟩ := cz6 HY0.out
 go_wp2_with fail
 refine (KO.out _ HB1.out).mono ?_
 rintro e w2 ⟨rfl, hg⟩
 have HB2 := Lib.hid (HB1.out.trans (hg.below.mono HB1.out.size))
 clear hg KO x0 x1 x2 x3 x4 x5 y0 y1 y2 y3 y4 y5
 go_wp2_with fail
 go_ret
 exact ⟨rfl, HB2.out⟩
theorem nilF4 (K : Nat → Prop) (w : World) : ListF K w [] none 0 := ⟨⟨0, 0, ⟨by simp, by decide, fun _ => rfl, fun h => absurd h (by simp)⟩, fun i h => absurd h (by simp)⟩⟩
theorem nilV4 (K : Nat → Prop) (w : World) : ListV K w [] none 0 := ⟨⟨0, 0, ⟨by simp, by decide, fun _ => rfl, fun h => absurd h (by simp)⟩, fun i h => absurd h (by simp)⟩⟩
theorem nilT4 (K : Nat → Prop) (w : World) : ListT K w [] none 0 := ⟨⟨0, 0, ⟨by simp, by decide, fun _ => rfl, fun h => absurd h (by simp)⟩, fun i h => absurd h (by simp)⟩⟩
theorem rep_arr {K : Nat → Prop} {w : World} {q : Ty} {cs : List Value} {g : Nat} (hq : RepT K w q cs) (hlo : ∀ b, K b → b < w.heap.size) (hh : w.heap[g]? = some (.cells cs.toArray 26 (0, 0))) :
  RepT (fun b => b < w.heap.size) w (arrT q) [.int .i64 11, .string ⟨#[]⟩, .int .i64 0, .slice (some ⟨g, 0, none⟩) 1 1, .slice none 0 0, .slice none 0 0] :=
 RepT.of (by decide) ((list_lit hq (Below.refl _ _) hlo hh).weak fun b hb => hb.elim (hlo b) fun e => e ▸ (Array.getElem?_eq_some_iff.1 hh).1) (nilF4 _ w) (nilV4 _ w)
theorem rep_inf (K : Nat → Prop) (w : World) (s : ByteArray) (hs : s.size ≤ 1000000000000000) : RepT K w (infV s) [.int .i64 22, .string s, .int .i64 0, .slice none 0 0, .slice none 0 0, .slice none 0 0] :=
 RepT.of hs (nilT4 K w) (nilF4 K w) (nilV4 K w)
def vB : ByteArray := ⟨#[86]⟩
theorem name_v : nameT vB = true := by kernel_rfl
theorem formed_of {t : Ty} (h : formT t = true) (hc : cntT t ≤ 4096) : formedT t = true := by unfold formedT; rw [h, decide_eq_true hc]; rfl
theorem std_one {t : Ty} (h : formT t = true) : stdT [t] = t := by unfold stdT; rw [if_neg (by simp)]; exact union_self h
theorem cnt_k (k : Int) : cntT (tyK k) = 1 := cnt_kind k
theorem flat_gat (s : ByteArray) (G : List (ByteArray × Ty)) {n : Nat} (h : cntL (G.map (·.2)) ≤ n) (hn : n ≤ 1099511627776) : (flatU (gatN s G)).length ≤ 1099511627776 := by
 have h1 := (flatU_cnt (gatN s G)).1
 have h2 := cnt_gatN s G
 omega
theorem cg_arr {K K' : Nat → Prop} {w : World} {q : Ty} {cs ds : List Value} (hr : RepT K w (arrT q) cs) (hp : RepT K' w (arrT (infV vB)) ds) (hlo : ∀ b, K b → b < w.heap.size) (hlo' : ∀ b, K' b → b < w.heap.size) (hq : formT q = true) (hc : cntT q ≤ 4000) :
  Calls Tryz.prog 10 #[.agg cs.toArray, .agg ds.toArray] w (CgP w [vB] [(vB, q)]) := by
 have h := cgather_few hr hp hlo hlo' (formed_of (form_arrT hq) (by rw [cnt_arrT]; omega)) (formed_of (form_arrT (form_infV name_v)) (by rw [cnt_arrT, cnt_infV]; omega)) (hold_arr vB q) (by rw [cnt_arrT, cnt_arrT, cnt_infV]; omega) (by rw [gath_arr]; simp) (by rw [names_arrT, names_infV]; simp) (by rw [names_arrT, names_infV]; intro x hx; rw [List.mem_singleton.1 hx]; decide) (fun s => flat_gat s _ (n := 4000) (by rw [gath_arr, List.map_cons, List.map_nil, cntL_cons, cntL_nil]; omega) (by omega))
 rw [names_arrT, names_infV, gath_arr] at h
 exact h
set_option maxRecDepth 100000 in
set_option maxHeartbeats 16000000 in
theorem awake14 (w : World) : Calls Tryz.prog 6 #[] w fun e w' => e = .returned (.bool true) ∧ Below w.heap.size w w' := by
 go_enter Tryz.func6, Tryz.ntmps6
 go_wp2_with fail
 refine (of14 7 _).mono ?_
 rintro e w1 ⟨rfl, hb1⟩
 have HB1 := Lib.hid hb1
 clear hb1
 go_wp2_with fail
 refine (infer14 _ _).mono ?_
 rintro e w3 ⟨rfl, hb3⟩
 have hx : w3.heap[w1.heap.size]? = some (.cells #[.int .i64 7, .string ⟨#[]⟩, .int .i64 0, .slice none 0 0, .slice none 0 0, .slice none 0 0] 26 (0, 0)) := box_up hb3 (by simp) (heap_alloc_new w1 _)
 have HX := Lib.hid hx
 have HB3 := Lib.hid (HB1.out.trans ((((Below.refl w1.heap.size w1).alloc (Nat.le_refl _) _).trans (hb3.mono (by simp))).mono HB1.out.size))
 clear hx hb3
 go_wp2_with fail
 obtain ⟨w4, hw4⟩ : ∃ x, x = w3.alloc (.cells #[.int .i64 22, .string ⟨#[86]⟩, .int .i64 0, .slice none 0 0, .slice none 0 0, .slice none 0 0] 26) := ⟨_, rfl⟩
 have hb4 : Below w3.heap.size w3 w4 := by rw [hw4]; exact (Below.refl _ _).alloc (Nat.le_refl _) _
 have hr := rep_arr (rep_k (fun _ => False) w4 7) (fun _ h => h.elim) (box_up hb4 (Array.getElem?_eq_some_iff.1 HX.out).1 HX.out)
 have hp := rep_arr (rep_inf (fun _ => False) w4 vB (by decide)) (fun _ h => h.elim) (g := w3.heap.size) (by rw [hw4]; exact heap_alloc_new w3 _)
 have HB4 := Lib.hid (HB3.out.trans (hb4.mono HB3.out.size))
 have KG := Lib.hid (cg_arr hr hp (fun _ h => h) (fun _ h => h) (form_tyK (by decide) (by decide)) (by rw [cnt_kind]; decide))
 rw [← hw4]
 clear hr hp hb4 hw4
 refine KG.out.mono ?_
 rintro e w5 ⟨hb5, hres⟩
 rcases hres with ⟨h, _⟩ | ⟨s, g, c, rs, hs, rfl, hc, hrr⟩
 ·cases h
 ·obtain rfl : vB = s := (List.cons.inj hs).1
  rw [gatN_one, if_pos rfl, std_one (form_tyK (by decide) (by decide))] at hrr
  obtain ⟨A7, c7, B7, d7, C7, e7, rfl, -⟩ := RepT.inv (k := 7) (t := emptyB) (n := 0) (ps := []) (fs := []) (vs := []) hrr
  have z0 : w5.cell? ⟨g, 0, none⟩ = some (.string ⟨#[86]⟩) := hc 0 _ rfl
  have z1 : w5.cell? ⟨g, 1, none⟩ = some (.int .i64 7) := hc 1 _ rfl
  have HB5 := Lib.hid (HB4.out.trans (hb5.mono HB4.out.size))
  clear hb5 hc hrr hs KG HX
  go_wp2_with fail
  go_ret
  exact ⟨rfl, HB5.out⟩
end Go.Proofs.YtlooadichhpgeaaGreatDoor
