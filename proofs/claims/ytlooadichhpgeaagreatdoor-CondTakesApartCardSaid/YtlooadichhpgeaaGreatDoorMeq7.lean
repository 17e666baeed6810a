import Derived.Test.YtlooadichhpgeaaGreatDoorMeq1
import Derived.Test.YtlooadichhpgeaaGreatDoorMeq2
namespace Go.Proofs.YtlooadichhpgeaaGreatDoor
open Go.RowKit
def funT (l : List Ty) : Ty := .mk 13 emptyB 0 l [] []
def objT (l : List (ByteArray × Int × Ty)) : Ty := .mk 14 emptyB 0 [] l []
def aN : ByteArray := ⟨#[97]⟩
def bN : ByteArray := ⟨#[98]⟩
theorem name_aN : nameT aN = true := by kernel_rfl
theorem name_bN : nameT bN = true := by kernel_rfl
theorem form_funT {l : List Ty} (h0 : 1 ≤ l.length) (h : ∀ q ∈ l, formT q = true) : formT (funT l) = true := by
 unfold funT
 rw [formT_mk, show shapeK 13 = ⟨false, false, false, true, 1, -1, true⟩ from rfl]
 have hs : selfB 13 emptyB 0 l (fieldsB (fieldsT [] formT)) (varsB (varsT [] formT)) = true := by unfold selfB; rfl
 rw [hs]
 unfold fitsB
 have ha : l.all formT = true := List.all_eq_true.2 h
 simp [emptyL, ha]
 omega
theorem form_objT {l : List (ByteArray × Int × Ty)} (h : fieldsB (fieldsT l formT) = true) : formT (objT l) = true := by
 unfold objT
 rw [formT_mk, show shapeK 14 = ⟨false, false, true, false, 0, 0, true⟩ from rfl]
 have hs : selfB 14 emptyB 0 [] (fieldsB (fieldsT l formT)) (varsB (varsT [] formT)) = true := by unfold selfB; simpa using h
 rw [hs]
 unfold fitsB
 simp [emptyL]
theorem form_obj1 {q : Ty} (h : formT q = true) : formT (objT [(aN, 0, q)]) = true := form_objT (by
 unfold fieldsB
 rw [range_all]
 intro j hj
 have hj0 : j = 0 := by simp [fieldsT] at hj; exact hj
 subst hj0
 rw [okF_zero (by simp)]
 simp [name_aN, h])
theorem cnt_funT (l : List Ty) : cntT (funT l) = cntL l + 1 := by
 unfold funT
 rw [cntT_mk]
 show _ + cntF [] + cntV [] = _
 simp [cntF, cntV]; omega
structure TakeP (x t p : Ty) : Prop where
 ft : formT t = true
 fp : formT p = true
 hold : HoldP p t
 gath : gathT p t = [(vB, x)]
 nm : namesI p = [vB]
 ct : cntT t ≤ 1000
 cp : cntT p ≤ 10
 cx : cntT x ≤ 1000
theorem cg_take {K K' : Nat → Prop} {w : World} {x t p : Ty} {cs ds : List Value} (h : TakeP x t p) (hr : RepT K w t cs) (hp : RepT K' w p ds) (hlo : ∀ b, K b → b < w.heap.size) (hlo' : ∀ b, K' b → b < w.heap.size) :
  Calls Tryz.prog 10 #[.agg cs.toArray, .agg ds.toArray] w (CgP w [vB] [(vB, x)]) := by
 have h1 := h.ct
 have h2 := h.cp
 have h3 := h.cx
 have hh := cgather_few hr hp hlo hlo' (formed_of h.ft (by omega)) (formed_of h.fp (by omega)) h.hold (by omega) (by rw [h.gath]; simp) (by rw [h.nm]; simp) (by rw [h.nm]; intro x hx; rw [List.mem_singleton.1 hx]; decide) (fun s => flat_gat s _ (n := 4000) (by rw [h.gath]; show cntL [x] ≤ 4000; rw [cntL_cons, cntL_nil]; omega) (by omega))
 rw [h.nm, h.gath] at hh
 exact hh
theorem form_V : formT (infV vB) = true := form_infV name_v
theorem form_k3 : formT (tyK 3) = true := form_tyK (by decide) (by decide)
theorem inf_no3 : infT (tyK 3) = false := by
 rw [Bool.eq_false_iff]
 intro h
 have := (infT_names _).1 h
 exact this (by unfold tyK; rw [namesI_mk, if_neg (by decide)]; simp [namesP, namesF])
theorem names_k3 : namesI (tyK 3) = [] := by unfold tyK; rw [namesI_mk, if_neg (by decide)]; simp [namesP, namesF]
theorem take_arr {x : Ty} (hx : formT x = true) (hc : cntT x ≤ 900) : TakeP x (arrT x) (arrT (infV vB)) where
 ft := form_arrT hx
 fp := form_arrT form_V
 hold := hold_arr _ _
 gath := gath_arr _ _
 nm := by rw [names_arrT, names_infV]
 ct := by rw [cnt_arrT]; omega
 cp := by rw [cnt_arrT, cnt_infV]; omega
 cx := by omega
theorem names_tup3 : namesI (tupT [infV vB, tyK 3]) = [vB] := by
 unfold tupT
 rw [namesI_mk, if_neg (by decide)]
 simp [namesP, namesF, names_infV, names_k3]
theorem take_tup {x y : Ty} (hx : formT x = true) (hy : formT y = true) (hc : cntT x + cntT y ≤ 900) : TakeP x (tupT [x, y]) (tupT [infV vB, tyK 3]) := by
 have hi : infT (tupT [infV vB, tyK 3]) = true := (infT_names _).2 (by rw [names_tup3]; simp)
 refine ⟨form_tupT (by simp [hx, hy]), form_tupT (by simp [form_V, form_k3]), hold_comp hi rfl (by show ¬ ((12 : Int) = 15); decide) (ins_row rfl rfl hi rfl (by show 0 < 2; decide) fun q u hq _ => ?_), ?_, names_tup3, by rw [cnt_tupT, cntL_cons, cntL_cons, cntL_nil]; omega, by rw [cnt_tupT, cntL_cons, cntL_cons, cntL_nil, cnt_infV, cnt_k]; omega, by omega⟩
 ·rcases List.mem_cons.1 (show q ∈ [infV vB, tyK 3] from hq) with rfl | hq
  ·exact hold_infV _ _
  ·rw [List.mem_singleton.1 hq]; exact hold_no inf_no3
 ·rw [gathT_eq, if_neg (by rw [hi]; decide), if_neg (by show ¬ ((12 : Int) = 22); decide), if_neg (by show ¬ ((12 : Int) = 15); decide), if_neg (by show ¬ (isComp 12 = false); decide), if_neg (by show ¬ ((12 : Int) = 15); decide), if_neg (by show ¬ ((12 : Int) = 11 ∧ (12 : Int) = 12); decide), if_neg (by show ¬ ((12 : Int) ≠ 12); decide), if_neg (by show ¬ ((12 : Int) = 11); decide), if_pos (.inl (show (tupT [infV vB, tyK 3]).k = 12 from rfl)), if_pos (show (tupT [x, y]).ps.length = (tupT [infV vB, tyK 3]).ps.length from rfl)]
  show (List.zipWith gathT [infV vB, tyK 3] [x, y]).flatten = _
  simp [gath_infV, gathT_no inf_no3]
theorem names_fun3 : namesI (funT [tyK 3, infV vB]) = [vB] := by
 unfold funT
 rw [namesI_mk, if_neg (by decide)]
 simp [namesP, namesF, names_infV, names_k3]
theorem take_fun {x y : Ty} (hx : formT x = true) (hy : formT y = true) (hc : cntT x + cntT y ≤ 900) : TakeP x (funT [y, x]) (funT [tyK 3, infV vB]) := by
 have hi : infT (funT [tyK 3, infV vB]) = true := (infT_names _).2 (by rw [names_fun3]; simp)
 refine ⟨form_funT (by simp) (by simp [hx, hy]), form_funT (by simp) (by simp [form_V, form_k3]), hold_comp hi rfl (by show ¬ ((13 : Int) = 15); decide) (ins_func hi (hold_no inf_no3) (hold_infV _ _)), ?_, names_fun3, by rw [cnt_funT, cntL_cons, cntL_cons, cntL_nil]; omega, by rw [cnt_funT, cntL_cons, cntL_cons, cntL_nil, cnt_infV, cnt_k]; omega, by omega⟩
 rw [gathT_eq, if_neg (by rw [hi]; decide), if_neg (by show ¬ ((13 : Int) = 22); decide), if_neg (by show ¬ ((13 : Int) = 15); decide), if_neg (by show ¬ (isComp 13 = false); decide), if_neg (by show ¬ ((13 : Int) = 15); decide), if_neg (by show ¬ ((13 : Int) = 11 ∧ (13 : Int) = 12); decide), if_neg (by show ¬ ((13 : Int) ≠ 13); decide), if_neg (by show ¬ ((13 : Int) = 11); decide), if_neg (by show ¬ ((13 : Int) = 12 ∨ ((13 : Int) = 17 ∧ _)); intro h; rcases h with h | ⟨h, _⟩ <;> exact absurd h (by decide)), if_pos ⟨show (funT [tyK 3, infV vB]).k = 13 from rfl, rfl⟩]
 show (List.zipWith gathT [tyK 3] [y]).flatten ++ gathT (infV vB) x = _
 simp [gath_infV, gathT_no inf_no3]
theorem names_obj1 : namesI (objT [(aN, 0, infV vB)]) = [vB] := by
 unfold objT
 rw [namesI_mk, if_neg (by decide)]
 simp [namesP, namesF, names_infV]
theorem form_obj2 {q r : Ty} (h : formT q = true) (h2 : formT r = true) : formT (objT [(aN, 0, q), (bN, 0, r)]) = true := form_objT (by
 unfold fieldsB
 rw [range_all]
 intro j hj
 have hj0 : j = 0 ∨ j = 1 := by simp [fieldsT] at hj; omega
 rcases hj0 with rfl | rfl
 ·rw [okF_zero (by simp)]
  simp [name_aN, h]
 ·rw [okF_succ (by simp)]
  show (nameT bN && decide ((0 : Int) ≤ 0) && decide ((0 : Int) ≤ 3) && formT r && Go.Op.bytesLess aN.toList bN.toList) = true
  rw [name_bN, h2, show Go.Op.bytesLess aN.toList bN.toList = true from by kernel_rfl]
  rfl)
theorem held_zero (nm : ByteArray) (x : Ty) : heldT (nm, 0, x) = x := by unfold heldT; rw [if_neg (by show ¬ ((0 : Int) % 2 = 1); decide)]
theorem cnt_objT (l : List (ByteArray × Int × Ty)) : cntT (objT l) = cntF l + 1 := by
 unfold objT
 rw [cntT_mk]
 rw [show cntL [] = 0 from rfl, show cntV [] = 0 from rfl]
 omega
theorem take_obj {x y : Ty} (hx : formT x = true) (hy : formT y = true) (hc : cntT x + cntT y ≤ 900) : TakeP x (objT [(aN, 0, x), (bN, 0, y)]) (objT [(aN, 0, infV vB)]) := by
 have hi : infT (objT [(aN, 0, infV vB)]) = true := (infT_names _).2 (by rw [names_obj1]; simp)
 have hf : ([(aN, 0, x), (bN, 0, y)] : List (ByteArray × Int × Ty)).find? (fun g => decide (g.1 = aN)) = some (aN, 0, x) := by simp
 refine ⟨form_obj2 hx hy, form_obj1 form_V, hold_comp hi rfl (by show ¬ ((14 : Int) = 15); decide) (ins_obj hi hf (by rw [held_zero]; exact hold_infV _ _)), ?_, names_obj1, by rw [cnt_objT]; simp [cntF]; omega, by rw [cnt_objT]; simp [cntF, cnt_infV], by omega⟩
 rw [gathT_eq, if_neg (by rw [hi]; decide), if_neg (by show ¬ ((14 : Int) = 22); decide), if_neg (by show ¬ ((14 : Int) = 15); decide), if_neg (by show ¬ (isComp 14 = false); decide), if_neg (by show ¬ ((14 : Int) = 15); decide), if_neg (by show ¬ ((14 : Int) = 11 ∧ (14 : Int) = 12); decide), if_neg (by show ¬ ((14 : Int) ≠ 14); decide), if_neg (by show ¬ ((14 : Int) = 11); decide), if_neg (by show ¬ ((14 : Int) = 12 ∨ ((14 : Int) = 17 ∧ _)); intro h; rcases h with h | ⟨h, _⟩ <;> exact absurd h (by decide)), if_neg (by show ¬ ((14 : Int) = 13 ∧ _); intro h; exact absurd h.1 (by decide)), if_pos (show (objT [(aN, 0, infV vB)]).k = 14 from rfl)]
 show ([(aN, (0 : Int), infV vB)].map fun f => ((([(aN, 0, x), (bN, 0, y)] : List (ByteArray × Int × Ty)).find? fun g => decide (g.1 = f.1)).map fun g => gathT f.2.2 (heldT g)).getD []).flatten = _
 simp [held_zero, gath_infV]
theorem rep_row2 (k : Int) {K : Nat → Prop} {w : World} {t q : Ty} {c0 c1 c2 c3 c4 c5 d0 d1 d2 d3 d4 d5 : Value} {g : Nat} (ht : RepT K w t [c0, c1, c2, c3, c4, c5]) (hq : RepT K w q [d0, d1, d2, d3, d4, d5]) (hlo : ∀ b, K b → b < w.heap.size) (hh : w.heap[g]? = some (.cells #[c0, c1, c2, c3, c4, c5, d0, d1, d2, d3, d4, d5] 26 (0, 0))) :
  RepT (fun b => b < w.heap.size) w (.mk k emptyB 0 [t, q] [] []) [.int .i64 k, .string ⟨#[]⟩, .int .i64 0, .slice (some ⟨g, 0, none⟩) 2 2, .slice none 0 0, .slice none 0 0] :=
 RepT.of (by decide) ((list_lit2 ht hq hh).weak fun b hb => hb.elim (hlo b) fun e => e ▸ (Array.getElem?_eq_some_iff.1 hh).1) (nilF4 _ w) (nilV4 _ w)
theorem list_f1 {K : Nat → Prop} {W : World} {t : Ty} {nm : ByteArray} {fl : Int} {c0 c1 c2 c3 c4 c5 : Value} {g : Nat} (ht : RepT K W t [c0, c1, c2, c3, c4, c5]) (hlo : ∀ b, K b → b < W.heap.size) (hs : nm.size ≤ 1000000000000000) (hh : W.heap[g]? = some (.cells #[.string nm, .int .i64 fl, c0, c1, c2, c3, c4, c5] 46 (0, 0))) :
  ListF (fun b => b < W.heap.size) W [(nm, fl, t)] (some ⟨g, 0, none⟩) 1 := by
 refine ⟨g, 0, ⟨by simp, by simp, (fun h => by cases h), fun _ => ⟨rfl, (Array.getElem?_eq_some_iff.1 hh).1⟩⟩, fun i hi => ?_⟩
 have hi2 : i = 0 := by simpa using hi
 subst hi2
 refine ⟨Lib.cell_of_heap hh 0, Lib.cell_of_heap hh 1, hs, _, fun j u hj => ?_, ht.weak fun b h => hlo b h⟩
 rw [Lib.cell_of_heap hh]
 rcases j with _ | _ | _ | _ | _ | _ | j
 all_goals first | exact hj | (simp at hj)
theorem list_f2 {K : Nat → Prop} {W : World} {t q : Ty} {nm nm2 : ByteArray} {fl fl2 : Int} {c0 c1 c2 c3 c4 c5 d0 d1 d2 d3 d4 d5 : Value} {g : Nat} (ht : RepT K W t [c0, c1, c2, c3, c4, c5]) (hq : RepT K W q [d0, d1, d2, d3, d4, d5]) (hlo : ∀ b, K b → b < W.heap.size) (hs : nm.size ≤ 1000000000000000) (hs2 : nm2.size ≤ 1000000000000000) (hh : W.heap[g]? = some (.cells #[.string nm, .int .i64 fl, c0, c1, c2, c3, c4, c5, .string nm2, .int .i64 fl2, d0, d1, d2, d3, d4, d5] 46 (0, 0))) :
  ListF (fun b => b < W.heap.size) W [(nm, fl, t), (nm2, fl2, q)] (some ⟨g, 0, none⟩) 2 := by
 refine ⟨g, 0, ⟨by simp, by simp, (fun h => by cases h), fun _ => ⟨rfl, (Array.getElem?_eq_some_iff.1 hh).1⟩⟩, fun i hi => ?_⟩
 have hi2 : i = 0 ∨ i = 1 := by simp at hi; omega
 rcases hi2 with rfl | rfl
 ·refine ⟨Lib.cell_of_heap hh 0, Lib.cell_of_heap hh 1, hs, _, fun j u hj => ?_, ht.weak fun b h => hlo b h⟩
  rw [Lib.cell_of_heap hh]
  rcases j with _ | _ | _ | _ | _ | _ | j
  all_goals first | exact hj | (simp at hj)
 ·refine ⟨Lib.cell_of_heap hh 8, Lib.cell_of_heap hh 9, hs2, _, fun j u hj => ?_, hq.weak fun b h => hlo b h⟩
  rw [Lib.cell_of_heap hh]
  rcases j with _ | _ | _ | _ | _ | _ | j
  all_goals first | exact hj | (simp at hj)
theorem rep_obj1 {K : Nat → Prop} {w : World} {t : Ty} {nm : ByteArray} {c0 c1 c2 c3 c4 c5 : Value} {g : Nat} (ht : RepT K w t [c0, c1, c2, c3, c4, c5]) (hs : nm.size ≤ 1000000000000000) (hlo : ∀ b, K b → b < w.heap.size) (hh : w.heap[g]? = some (.cells #[.string nm, .int .i64 0, c0, c1, c2, c3, c4, c5] 46 (0, 0))) :
  RepT (fun b => b < w.heap.size) w (objT [(nm, 0, t)]) [.int .i64 14, .string ⟨#[]⟩, .int .i64 0, .slice none 0 0, .slice (some ⟨g, 0, none⟩) 1 1, .slice none 0 0] :=
 RepT.of (by decide) (nilT4 _ w) (list_f1 ht hlo hs hh) (nilV4 _ w)
theorem rep_obj2 {K : Nat → Prop} {w : World} {t q : Ty} {nm nm2 : ByteArray} {c0 c1 c2 c3 c4 c5 d0 d1 d2 d3 d4 d5 : Value} {g : Nat} (ht : RepT K w t [c0, c1, c2, c3, c4, c5]) (hq : RepT K w q [d0, d1, d2, d3, d4, d5]) (hs : nm.size ≤ 1000000000000000) (hs2 : nm2.size ≤ 1000000000000000) (hlo : ∀ b, K b → b < w.heap.size) (hh : w.heap[g]? = some (.cells #[.string nm, .int .i64 0, c0, c1, c2, c3, c4, c5, .string nm2, .int .i64 0, d0, d1, d2, d3, d4, d5] 46 (0, 0))) :
  RepT (fun b => b < w.heap.size) w (objT [(nm, 0, t), (nm2, 0, q)]) [.int .i64 14, .string ⟨#[]⟩, .int .i64 0, .slice none 0 0, .slice (some ⟨g, 0, none⟩) 2 2, .slice none 0 0] :=
 RepT.of (by decide) (nilT4 _ w) (list_f2 ht hq hlo hs hs2 hh) (nilV4 _ w)
theorem list_lit4 {K : Nat → Prop} {W : World} {t0 t1 t2 t3 : Ty} {c0 c1 c2 c3 c4 c5 d0 d1 d2 d3 d4 d5 e0 e1 e2 e3 e4 e5 f0 f1 f2 f3 f4 f5 : Value} {g : Nat} (h0 : RepT K W t0 [c0, c1, c2, c3, c4, c5]) (h1 : RepT K W t1 [d0, d1, d2, d3, d4, d5]) (h2 : RepT K W t2 [e0, e1, e2, e3, e4, e5]) (h3 : RepT K W t3 [f0, f1, f2, f3, f4, f5]) (hh : W.heap[g]? = some (.cells #[c0, c1, c2, c3, c4, c5, d0, d1, d2, d3, d4, d5, e0, e1, e2, e3, e4, e5, f0, f1, f2, f3, f4, f5] 26 (0, 0))) :
  ∀ i (h : i < [t0, t1, t2, t3].length), ∃ cs, RepT K W ([t0, t1, t2, t3][i]) cs ∧ (∀ j u, cs[j]? = some u → W.cell? ⟨g, i * 6 + j, none⟩ = some u) := by
 intro i hi
 have hi2 : i = 0 ∨ i = 1 ∨ i = 2 ∨ i = 3 := by simp at hi; omega
 rcases hi2 with rfl | rfl | rfl | rfl
 ·refine ⟨_, h0, fun j u hj => ?_⟩
  rw [Lib.cell_of_heap hh]
  rcases j with _ | _ | _ | _ | _ | _ | j
  all_goals first | exact hj | (simp at hj)
 ·refine ⟨_, h1, fun j u hj => ?_⟩
  rw [Lib.cell_of_heap hh]
  rcases j with _ | _ | _ | _ | _ | _ | j
  all_goals first | exact hj | (simp at hj)
 ·refine ⟨_, h2, fun j u hj => ?_⟩
  rw [Lib.cell_of_heap hh]
  rcases j with _ | _ | _ | _ | _ | _ | j
  all_goals first | exact hj | (simp at hj)
 ·refine ⟨_, h3, fun j u hj => ?_⟩
  rw [Lib.cell_of_heap hh]
  rcases j with _ | _ | _ | _ | _ | _ | j
  all_goals first | exact hj | (simp at hj)
theorem chain5 {w w5 : World} (o0 o1 o2 o3 o4 : Obj) (h : w5 = ((((w.alloc o0).alloc o1).alloc o2).alloc o3).alloc o4) :
  Below w.heap.size w w5 ∧ w5.heap[w.heap.size]? = some o0 ∧ w5.heap[w.heap.size + 1]? = some o1 ∧ w5.heap[w.heap.size + 1 + 1]? = some o2 ∧ w5.heap[w.heap.size + 1 + 1 + 1]? = some o3 ∧ w5.heap[w.heap.size + 1 + 1 + 1 + 1]? = some o4 := by
 subst h
 refine ⟨(((((Below.refl w.heap.size w).alloc (Nat.le_refl _) o0).alloc (by simp) o1).alloc (by simp only [World.size_alloc]; omega) o2).alloc (by simp only [World.size_alloc]; omega) o3).alloc (by simp only [World.size_alloc]; omega) o4, ?_, ?_, ?_, ?_, ?_⟩
 ·rw [Below.heap_alloc _ _ _ (by simp only [World.size_alloc]; omega), Below.heap_alloc _ _ _ (by simp only [World.size_alloc]; omega), Below.heap_alloc _ _ _ (by simp only [World.size_alloc]; omega), Below.heap_alloc _ _ _ (by simp only [World.size_alloc]; omega)]
  exact heap_alloc_new w o0
 ·rw [Below.heap_alloc _ _ _ (by simp only [World.size_alloc]; omega), Below.heap_alloc _ _ _ (by simp only [World.size_alloc]; omega), Below.heap_alloc _ _ _ (by simp only [World.size_alloc]; omega)]
  have h := heap_alloc_new (w.alloc o0) o1
  simpa only [World.size_alloc] using h
 ·rw [Below.heap_alloc _ _ _ (by simp only [World.size_alloc]; omega), Below.heap_alloc _ _ _ (by simp only [World.size_alloc]; omega)]
  have h := heap_alloc_new ((w.alloc o0).alloc o1) o2
  simpa only [World.size_alloc] using h
 ·rw [Below.heap_alloc _ _ _ (by simp only [World.size_alloc]; omega)]
  have h := heap_alloc_new (((w.alloc o0).alloc o1).alloc o2) o3
  simpa only [World.size_alloc] using h
 ·have h := heap_alloc_new ((((w.alloc o0).alloc o1).alloc o2).alloc o3) o4
  simpa only [World.size_alloc] using h
theorem al_b {w v : World} {c : Array Value} {T : TypeId} (hb : Below (w.alloc (.cells c T)).heap.size (w.alloc (.cells c T)) v) : Below w.heap.size w v ∧ v.heap[w.heap.size]? = some (.cells c T (0, 0)) :=
 ⟨((Below.refl w.heap.size w).alloc (Nat.le_refl _) _).trans (hb.mono (by simp)), box_up hb (by simp) (heap_alloc_new w _)⟩
theorem chain2 {w w2 : World} (o0 o1 : Obj) (h : w2 = (w.alloc o0).alloc o1) : Below w.heap.size w w2 ∧ w2.heap[w.heap.size]? = some o0 ∧ w2.heap[w.heap.size + 1]? = some o1 := by
 subst h
 refine ⟨((Below.refl w.heap.size w).alloc (Nat.le_refl _) o0).alloc (by simp) o1, ?_, ?_⟩
 ·rw [Below.heap_alloc _ _ _ (by simp only [World.size_alloc]; omega)]
  exact heap_alloc_new w o0
 ·have h := heap_alloc_new (w.alloc o0) o1
  simpa only [World.size_alloc] using h
end Go.Proofs.YtlooadichhpgeaaGreatDoor
