import Derived.Test.YteakkjhcdpbidaaGreatDoorMk46
namespace Go.Proofs.YteakkjhcdpbidaaGreatDoor
set_option maxRecDepth 100000
set_option maxHeartbeats 64000000
open Go.RowKit
theorem KeyV.shape {w : World} {x : Option (List ByteArray)} {cs : List Value} (h : KeyV w x cs) : ∃ bb A n c, cs = [.bool bb, .slice A n c] := by
 rcases x with _ | l
 ·exact ⟨true, none, 0, 0, h⟩
 ·obtain ⟨A, c, e, -⟩ := h
  exact ⟨false, A, _, c, e⟩
theorem KeyV.of {w w' : World} {x : Option (List ByteArray)} {cs : List Value} (h : KeyV w' x cs) (hb : Below w.heap.size w w') : KeyPost w x (.returned (.agg cs.toArray)) w' := by
 rcases x with _ | l
 ·have e : cs = [.bool true, .slice none 0 0] := h
  subst e
  exact ⟨rfl, hb⟩
 ·obtain ⟨A, c, e, h1⟩ := h
  subst e
  exact ⟨⟨A, c, rfl, h1⟩, hb⟩
theorem KeyPost.v {w w' : World} {x : Option (List ByteArray)} {e : Ending} (h : KeyPost w x e w') : ∃ cs, e = .returned (.agg cs.toArray) ∧ KeyV w' x cs ∧ Below w.heap.size w w' := by
 rcases x with _ | l
 ·exact ⟨_, h.1, rfl, h.2⟩
 ·obtain ⟨⟨A, c, e, h1⟩, h2⟩ := h
  exact ⟨_, e, ⟨A, c, rfl, h1⟩, h2⟩
theorem KeyV.set {w : World} {x : Option (List ByteArray)} {cs : List Value} {g : Nat} {bb : Bool} {A : Option Addr} {n c : Nat} {T : TypeId} (h : KeyV w x cs) (hg : w.heap[g]? = some (.cells #[.bool bb, .slice A n c] T (0, 0))) (a b : Value) : KeyV ((w.setCell ⟨g, 0, none⟩ a).setCell ⟨g, 1, none⟩ b) x cs := by
 rcases x with _ | l
 ·exact h
 ·obtain ⟨A', c', e, b', o, h1, h2, h3⟩ := h
  refine ⟨A', c', e, b', o, h1, h2, fun i hi => ?_⟩
  have hc := h3 i hi
  have hne : b' ≠ g := fun e => by
   subst e
   rw [Ch hg] at hc
   match o + i, hc with
   | 0, hc => simp at hc
   | 1, hc => simp at hc
   | j + 2, hc => simp at hc
  exact (World.cell?_of_block ((Below.heap_setCell _ _ _ _ hne).trans (Below.heap_setCell _ _ _ _ hne))).trans hc
theorem lcommon_any {w : World} {x y : Option (List ByteArray)} {aa bs : List Value} (ha : KeyV w x aa) (hb : KeyV w y bs) (hx : Kz x) (hy : Kz y) :
  Calls Tryz.prog 47 #[.agg aa.toArray, .agg bs.toArray] w fun e w' => ∃ cs, e = .returned (.agg cs.toArray) ∧ KeyV w' (commonK x y) cs ∧ Below w.heap.size w w' := by
 rcases x with _ | la
 ·have e : aa = [.bool true, .slice none 0 0] := ha
  subst e
  obtain ⟨bb, A, n, c, rfl⟩ := hb.shape
  refine (lcommon_l bb A n c).mono ?_
  rintro e w' ⟨rfl, h⟩
  exact ⟨_, rfl, hb.later h, h⟩
 ·rcases y with _ | lb
  ·have e : bs = [.bool true, .slice none 0 0] := hb
   subst e
   have ha0 := ha
   obtain ⟨A, c, rfl, -⟩ := ha
   refine (lcommon_r A _ c).mono ?_
   rintro e w' ⟨rfl, h⟩
   exact ⟨_, rfl, ha0.later h, h⟩
  ·obtain ⟨A, c, rfl, h1⟩ := ha
   obtain ⟨B, d, rfl, h2⟩ := hb
   refine (lcommon_b la lb A B c d h1 h2 hx hy).mono ?_
   intro e w' h
   exact h.v
theorem Kz.fold : ∀ (l : List (Option (List ByteArray))) (a : Option (List ByteArray)), Kz a → (∀ x ∈ l, Kz x) → Kz (l.foldl commonK a)
 | [], _, h, _ => h
 | x :: l, a, h, h2 => Kz.fold l (commonK a x) (h.common (h2 x (by simp))) fun y hy => h2 y (by simp [hy])
theorem kz_keys {K : Nat → Prop} {w : World} (t : Ty) : ∀ cs, RepT K w t cs → cntT t ≤ 1000000 → Kz (keysN t) := by
 refine Ty.ind (C := fun t => ∀ cs, RepT K w t cs → cntT t ≤ 1000000 → Kz (keysN t)) (fun k s n ps fs vs hp _ _ cs hr hc => ?_) t
 obtain ⟨_, _, _, _, _, _, -, -, hL, hF, -⟩ := hr.inv
 rw [cntT_mk] at hc
 rw [keysN_mk]
 have hf := cntF_len fs
 split
 ·intro l h; cases h
 ·split
  ·intro l h
   have e := Option.some.inj h
   rw [← e]
   refine ⟨by rw [List.length_map]; omega, fun x hx => ?_⟩
   obtain ⟨y, hy, rfl⟩ := List.mem_map.1 hx
   obtain ⟨i, hi, rfl⟩ := List.mem_iff_getElem.1 hy
   obtain ⟨b, o, -, hat⟩ := hF
   exact (hat i hi).2.2.1
  ·split
   ·refine Kz.fold _ _ (fun l h => by cases h) fun x hx => ?_
    obtain ⟨p, hp2, rfl⟩ := List.mem_map.1 hx
    have h1 := cntL_mem hp2
    obtain ⟨i, hi, rfl⟩ := List.mem_iff_getElem.1 hp2
    obtain ⟨b, o, -, hat⟩ := hL
    obtain ⟨es, -, hre⟩ := hat i hi
    exact hp _ hp2 es hre (by omega)
   ·intro l h
    have e := Option.some.inj h
    rw [← e]
    exact ⟨by simp, fun x hx => absurd hx (by simp)⟩
structure KRes (K : Nat → Prop) (w : World) (k : Int) (s : ByteArray) (n : Int) (ps : List Ty) (fs : FsT) (vs : VsT) (A : Option Addr) (c : Nat) (B : Option Addr) (d : Nat) (C : Option Addr) (e : Nat) (w1 : World) (g : Nat) : Prop where
 HX : Hid (∀ wx, Below w1.heap.size w1 wx → (wx.cell? ⟨w.heap.size, 0, none⟩ = some (.int .i64 k) ∧ wx.cell? ⟨w.heap.size, 1, none⟩ = some (.string s) ∧ wx.cell? ⟨w.heap.size, 2, none⟩ = some (.int .i64 n) ∧ wx.cell? ⟨w.heap.size, 3, none⟩ = some (.slice A ps.length c) ∧ wx.cell? ⟨w.heap.size, 4, none⟩ = some (.slice B fs.length d) ∧ wx.cell? ⟨w.heap.size, 5, none⟩ = some (.slice C vs.length e)))
 HY : Hid (w1.heap[g]? = some (.cells #[.bool false, .slice none 0 0] 49 (0, 0)))
 HB : Hid (Below w.heap.size w w1)
 HS : Hid (w1.heap.size = g + 1)
 HG : Hid (g = w.heap.size + 1)
 HW : Hid (w1 = (w.alloc (.cells #[.int .i64 k, .string s, .int .i64 n, .slice A ps.length c, .slice B fs.length d, .slice C vs.length e] 26)).alloc (.cells #[.bool false, .slice none 0 0] 49))
 HR : Hid (RepT K w1 (.mk k s n ps fs vs) [.int .i64 k, .string s, .int .i64 n, .slice A ps.length c, .slice B fs.length d, .slice C vs.length e])
theorem k_res {K : Nat → Prop} {w : World} {k : Int} {s : ByteArray} {n : Int} {ps : List Ty} {fs : FsT} {vs : VsT} {cs : List Value} {R : Prop} (hr : RepT K w (.mk k s n ps fs vs) cs)
  (main : ∀ (A : Option Addr) (c : Nat) (B : Option Addr) (d : Nat) (C : Option Addr) (e : Nat) (w1 : World) (g : Nat), KRes K w k s n ps fs vs A c B d C e w1 g → cs = [.int .i64 k, .string s, .int .i64 n, .slice A ps.length c, .slice B fs.length d, .slice C vs.length e] → R) : R := by
 obtain ⟨A, c, B, d, C, e, hc, -⟩ := hr.inv
 simp only [cells6T] at hc
 rw [hc] at hr
 obtain ⟨w1, hw1⟩ : ∃ x, x = (w.alloc (.cells #[.int .i64 k, .string s, .int .i64 n, .slice A ps.length c, .slice B fs.length d, .slice C vs.length e] 26)).alloc (.cells #[.bool false, .slice none 0 0] 49) := ⟨_, rfl⟩
 have hb1 : Below w.heap.size w w1 := by rw [hw1]; exact ((Below.refl _ _).alloc (Nat.le_refl _) _).alloc (by simp) _
 have hx0 : w1.heap[w.heap.size]? = some (.cells #[.int .i64 k, .string s, .int .i64 n, .slice A ps.length c, .slice B fs.length d, .slice C vs.length e] 26 (0, 0)) := by rw [hw1, Below.heap_alloc _ _ _ (by simp)]; exact heap_alloc_new w _
 have hy0 : w1.heap[w.heap.size + 1]? = some (.cells #[.bool false, .slice none 0 0] 49 (0, 0)) := by
  rw [hw1]
  have h := heap_alloc_new (w.alloc (.cells #[.int .i64 k, .string s, .int .i64 n, .slice A ps.length c, .slice B fs.length d, .slice C vs.length e] 26)) (.cells #[.bool false, .slice none 0 0] 49)
  rw [World.size_alloc] at h
  exact h
 refine main A c B d C e w1 _ ⟨Hd fun wx hx => ?_, Hd hy0, Hd hb1, Hd (by rw [hw1]; simp), Hd rfl, Hd hw1, Hd (hr.later hb1)⟩ hc
 have h1 := box_up hx (Array.getElem?_eq_some_iff.1 hx0).1 hx0
 exact ⟨Ch h1 0, Ch h1 1, Ch h1 2, Ch h1 3, Ch h1 4, Ch h1 5⟩
theorem keysof_all {K : Nat → Prop} {w : World} (k : Int) (s : ByteArray) (n : Int) (ps : List Ty) (fs : FsT) (vs : VsT) {cs : List Value} (hr : RepT K w (.mk k s n ps fs vs) cs) (h13 : k = 3 ∨ k = 1) :
  Calls Tryz.prog 26 #[.agg cs.toArray] w (KeyPost w (none)) := by
 refine k_res hr fun A c B d C e w1 g h hcs => ?_
 subst hcs
 obtain ⟨HX, HY, HB1, HS1, HG, HW1, -⟩ := h
 clear hr
 rcases h13 with rfl | rfl
 ·go_enter Tryz.func26, Tryz.ntmps26
  go_upto_region 1 with fail
  rw [← HW1.out, ← HG.out]
  obtain ⟨x0, x1, x2, x3, x4, x5⟩ := HX.out _ (Below.refl _ _)
  have rb := HY.out
  have RB := Hd rb
  have u0 := Ch rb 0
  have u1 := Ch rb 1
  have z0 := Lib.frozen_of_heap rb 0
  have z1 := Lib.frozen_of_heap rb 1
  simp only [List.getElem?_toArray, List.getElem?_cons_zero, List.getElem?_cons_succ] at u0 u1
  clear rb
  go_wp2_with fail
  have rs := two_set RB.out (.bool true) (.slice none 0 0)
  have r0 := Ch rs 0
  have r1 := Ch rs 1
  simp only [List.getElem?_toArray, List.getElem?_cons_zero, List.getElem?_cons_succ] at r0 r1
  refine bodyPost_ret (v := .agg #[.bool true, .slice none 0 0]) (by simp [results, Tryz.results26, go_sem, r0, r1]) rfl ?_
  clear r0 r1 u0 u1 z0 z1
  exact ⟨rfl, (HB1.out.setCell (by show w.heap.size ≤ g; have := HG.out; omega) _).setCell (by show w.heap.size ≤ g; have := HG.out; omega) _⟩
 ·go_enter Tryz.func26, Tryz.ntmps26
  go_upto_region 1 with fail
  rw [← HW1.out, ← HG.out]
  obtain ⟨x0, x1, x2, x3, x4, x5⟩ := HX.out _ (Below.refl _ _)
  have rb := HY.out
  have RB := Hd rb
  have u0 := Ch rb 0
  have u1 := Ch rb 1
  have z0 := Lib.frozen_of_heap rb 0
  have z1 := Lib.frozen_of_heap rb 1
  simp only [List.getElem?_toArray, List.getElem?_cons_zero, List.getElem?_cons_succ] at u0 u1
  clear rb
  go_wp2_with fail
  have rs := two_set RB.out (.bool true) (.slice none 0 0)
  have r0 := Ch rs 0
  have r1 := Ch rs 1
  simp only [List.getElem?_toArray, List.getElem?_cons_zero, List.getElem?_cons_succ] at r0 r1
  refine bodyPost_ret (v := .agg #[.bool true, .slice none 0 0]) (by simp [results, Tryz.results26, go_sem, r0, r1]) rfl ?_
  clear r0 r1 u0 u1 z0 z1
  exact ⟨rfl, (HB1.out.setCell (by show w.heap.size ≤ g; have := HG.out; omega) _).setCell (by show w.heap.size ≤ g; have := HG.out; omega) _⟩
theorem keysof_no {K : Nat → Prop} {w : World} (k : Int) (s : ByteArray) (n : Int) (ps : List Ty) (fs : FsT) (vs : VsT) {cs : List Value} (hr : RepT K w (.mk k s n ps fs vs) cs) (h14 : k ≠ 14) (h3 : k ≠ 3) (h1 : k ≠ 1) (h15 : k ≠ 15) :
  Calls Tryz.prog 26 #[.agg cs.toArray] w (KeyPost w (some [])) := by
 refine k_res hr fun A c B d C e w1 g h hcs => ?_
 subst hcs
 obtain ⟨HX, HY, HB1, HS1, HG, HW1, -⟩ := h
 clear hr
 have f14 : (k == 14) = false := beq_eq_false_iff_ne.2 h14
 have f3 : (k == 3) = false := beq_eq_false_iff_ne.2 h3
 have f1 : (k == 1) = false := beq_eq_false_iff_ne.2 h1
 have f15 : (k == 15) = false := beq_eq_false_iff_ne.2 h15
 clear h14 h3 h1 h15
 go_enter Tryz.func26, Tryz.ntmps26
 go_upto_region 1 with fail
 rw [← HW1.out, ← HG.out]
 obtain ⟨x0, x1, x2, x3, x4, x5⟩ := HX.out _ (Below.refl _ _)
 have rb := HY.out
 have RB := Hd rb
 have u0 := Ch rb 0
 have u1 := Ch rb 1
 have z0 := Lib.frozen_of_heap rb 0
 have z1 := Lib.frozen_of_heap rb 1
 simp only [List.getElem?_toArray, List.getElem?_cons_zero, List.getElem?_cons_succ] at u0 u1
 clear rb
 go_wp2_with fail
 have rs := two_set RB.out (.bool false) (.slice none 0 0)
 have r0 := Ch rs 0
 have r1 := Ch rs 1
 simp only [List.getElem?_toArray, List.getElem?_cons_zero, List.getElem?_cons_succ] at r0 r1
 refine bodyPost_ret (v := .agg #[.bool false, .slice none 0 0]) (by simp [results, Tryz.results26, go_sem, r0, r1]) rfl ?_
 clear r0 r1 u0 u1 z0 z1
 exact ⟨⟨none, 0, rfl, 0, 0, fun h => absurd h (by simp), by simp, fun i h => absurd h (by simp)⟩, (HB1.out.setCell (by show w.heap.size ≤ g; have := HG.out; omega) _).setCell (by show w.heap.size ≤ g; have := HG.out; omega) _⟩
theorem keysof_15 {K : Nat → Prop} {w : World} (s : ByteArray) (n : Int) (ps : List Ty) (fs : FsT) (vs : VsT) {cs : List Value} (hr : RepT K w (.mk 15 s n ps fs vs) cs) (hc : cntL ps ≤ 1000000)
  (ih : ∀ p ∈ ps, ∀ (w : World) cs, RepT K w p cs → Calls Tryz.prog 26 #[.agg cs.toArray] w (KeyPost w (keysN p))) :
  Calls Tryz.prog 26 #[.agg cs.toArray] w (KeyPost w ((ps.map keysN).foldl commonK none)) := by
 refine k_res hr fun A c B d C e w1 g h hcs => ?_
 subst hcs
 obtain ⟨HX, HY, HB1, HS1, HG, HW1, HR⟩ := h
 obtain ⟨_, _, _, _, _, _, he, -, hL, -, -⟩ := HR.out.inv
 simp only [cells6T, List.cons.injEq, Value.slice.injEq] at he
 obtain ⟨-, -, -, ⟨rfl, -, rfl⟩, -⟩ := he
 have hkp : ∀ p ∈ ps, Kz (keysN p) := fun p hp2 => by
  have h1 := cntL_mem hp2
  obtain ⟨i, hi, rfl⟩ := List.mem_iff_getElem.1 hp2
  obtain ⟨b, o, -, hat⟩ := hL
  obtain ⟨es, -, hre⟩ := hat i hi
  exact kz_keys _ es hre (by omega)
 have hkn : ∀ i, Kz (((ps.take i).map keysN).foldl commonK none) := fun i => Kz.fold _ _ (fun l h => by cases h) fun x hx => by
  obtain ⟨p, hp2, rfl⟩ := List.mem_map.1 hx
  exact hkp p (List.mem_of_mem_take hp2)
 have hfn := fun i (hi : i < ps.length) => fold_next (ps := ps) hi
 have hf0 : ((ps.take 0).map keysN).foldl commonK none = none := rfl
 have hfl : ((ps.take ps.length).map keysN).foldl commonK none = (ps.map keysN).foldl commonK none := by rw [List.take_length]
 rw [← hfl]
 clear hfl
 generalize hX : (fun i => ((ps.take i).map keysN).foldl commonK none) = X
 have hXi : ∀ i, ((ps.take i).map keysN).foldl commonK none = X i := fun i => by rw [← hX]
 simp only [hXi] at hkn hfn hf0 ⊢
 have HX2 : Hid ((∀ i, Kz (X i)) ∧ X 0 = none ∧ ∀ i (h : i < ps.length), X (i + 1) = commonK (X i) (keysN (ps[i]'h))) := Hd ⟨hkn, hf0, hfn⟩
 have HKP := Hd hkp
 have HIH := Hd ih
 have hll := cntL_len ps
 have HLL : Hid (ps.length ≤ 1000000) := Hd (by omega)
 have HL := Hd hL
 generalize hU : X ps.length = xu
 have HU := Hd hU
 clear hr hc hX hXi hkn hfn hf0 ih hll hL hkp hU
 go_enter Tryz.func26, Tryz.ntmps26
 go_upto_region 1 with fail
 rw [← HW1.out, ← HG.out]
 obtain ⟨x0, x1, x2, x3, x4, x5⟩ := HX.out _ (Below.refl _ _)
 obtain ⟨g6, hg6⟩ : ∃ g6, g6 = w1.heap.size := ⟨_, rfl⟩
 obtain ⟨w3, hw3⟩ : ∃ x, x = w1.alloc (.cells #[.bool true, .slice none 0 0] 49) := ⟨_, rfl⟩
 have hb13 : Below w1.heap.size w1 w3 := by rw [hw3]; exact (Below.refl _ _).alloc (Nat.le_refl _) _
 have hx3 : w3.heap[g6]? = some (.cells #[.bool true, .slice none 0 0] 49 (0, 0)) := by rw [hw3, hg6]; exact heap_alloc_new w1 _
 have HX3 := Hd hx3
 have HB13 := Hd hb13
 have HG6 := Hd hg6
 have HW3 := Hd hw3
 clear hx3 hb13 hw3 hg6
 go_upto_region 15 with fail
 rw [← HW3.out, ← HG6.out]
 clear x0 x1 x2 x3 x4 x5
 obtain ⟨x0, x1, x2, x3, x4, x5⟩ := HX.out _ HB13.out
 go_wp2_with fail
 clear x0 x1 x2 x3 x4 x5
 go_loopw [39] (fun v wr => ∃ (i : Nat) (bb : Bool) (A5 : Option Addr) (n5 c5 : Nat), i ≤ ps.length ∧ v = .int .i64 i ∧ wr.heap[g6]? = some (.cells #[.bool bb, .slice A5 n5 c5] 49 (0, 0)) ∧ KeyV wr (X i) [.bool bb, .slice A5 n5 c5] ∧ Below w1.heap.size w1 wr) (fun v _ => ps.length - (intOf v).toNat)
 case atStart => exact ⟨0, true, none, 0, 0, by omega, rfl, HX3.out, by rw [HX2.out.2.1]; rfl, HB13.out⟩
 case round =>
  obtain ⟨i, bb, A5, n5, c5, hi, rfl, hbx, hkv, hb⟩ := hrel
  have HBR := Hd hb
  have hll := HLL.out
  have hgw : g6 < wr.heap.size := (Array.getElem?_eq_some_iff.1 hbx).1
  by_cases hin : i < ps.length
  ·have t1 : decide ((i : Int) < (ps.length : Int)) = true := by simp; omega
   have wr2 : wrap64 ((i : Int) + 1) = ((i + 1 : Nat) : Int) := wrap_one (by omega)
   have HM := Hd (measI hin)
   obtain ⟨tb, tq, hA, -, hat⟩ := HL.out.at (by omega)
   subst hA
   obtain ⟨es, hes, hrq⟩ := hat i hin
   have HNX := Hd (HX2.out.2.2 i hin)
   have KI : Hid (∀ wx, Below w1.heap.size w1 wx → Calls Tryz.prog 26 #[.agg es.toArray] wx (KeyPost wx (keysN (ps[i]'hin)))) := Hd fun wx hx => HIH.out (ps[i]'hin) (List.getElem_mem hin) wx es (hrq.later hx)
   have KC : Hid (∀ (wx : World) (aa bs : List Value), KeyV wx (X i) aa → KeyV wx (keysN (ps[i]'hin)) bs → Calls Tryz.prog 47 #[.agg aa.toArray, .agg bs.toArray] wx fun e w' => ∃ cs, e = .returned (.agg cs.toArray) ∧ KeyV w' (X (i + 1)) cs ∧ Below wx.heap.size wx w') := Hd fun wx aa bs h1 h2 => by
    rw [HNX.out]
    exact lcommon_any h1 h2 (HX2.out.1 i) (HKP.out _ (List.getElem_mem hin))
   have HIn : Hid (i + 1 ≤ ps.length) := Hd hin
   generalize ps[i]'hin = u at hrq KI KC HNX
   obtain ⟨k4, s4, n4, ps4, fs4, vs4⟩ := u
   obtain ⟨A4, c4, B4, d4, C4, e4, rfl, -⟩ := hrq.inv
   simp only [cells6T] at hes KI
   generalize keysN (.mk k4 s4 n4 ps4 fs4 vs4) = xb at KI KC
   have z0 : wr.cell? ⟨tb, tq + i * 6, none⟩ = some (.int .i64 k4) := cell_stays hb (hes 0 _ rfl)
   have z1 := cell_stays hb (hes 1 _ rfl)
   have z2 := cell_stays hb (hes 2 _ rfl)
   have z3 := cell_stays hb (hes 3 _ rfl)
   have z4 := cell_stays hb (hes 4 _ rfl)
   have z5 := cell_stays hb (hes 5 _ rfl)
   have i1 : (0 : Int) ≤ (i : Int) := by omega
   have i2 : (i : Int) < (ps.length : Int) := by omega
   obtain ⟨ge, hge⟩ : ∃ ge, ge = wr.heap.size := ⟨_, rfl⟩
   obtain ⟨we, hwe⟩ : ∃ x, x = wr.alloc (.cells #[.int .i64 k4, .string s4, .int .i64 n4, .slice A4 ps4.length c4, .slice B4 fs4.length d4, .slice C4 vs4.length e4] 26) := ⟨_, rfl⟩
   have hbe : Below wr.heap.size wr we := by rw [hwe]; exact (Below.refl _ _).alloc (Nat.le_refl _) _
   have hxe : we.heap[ge]? = some (.cells #[.int .i64 k4, .string s4, .int .i64 n4, .slice A4 ps4.length c4, .slice B4 fs4.length d4, .slice C4 vs4.length e4] 26 (0, 0)) := by rw [hwe, hge]; exact heap_alloc_new wr _
   have HBE := Hd (hb.trans (hbe.mono hb.size))
   have HC : Hid (∀ wx, Below we.heap.size we wx → (wx.cell? ⟨ge, 0, none⟩ = some (.int .i64 k4) ∧ wx.cell? ⟨ge, 1, none⟩ = some (.string s4) ∧ wx.cell? ⟨ge, 2, none⟩ = some (.int .i64 n4) ∧ wx.cell? ⟨ge, 3, none⟩ = some (.slice A4 ps4.length c4) ∧ wx.cell? ⟨ge, 4, none⟩ = some (.slice B4 fs4.length d4) ∧ wx.cell? ⟨ge, 5, none⟩ = some (.slice C4 vs4.length e4))) := Hd fun wx hx => by
    have h := box_up hx (Array.getElem?_eq_some_iff.1 hxe).1 hxe
    exact ⟨Ch h 0, Ch h 1, Ch h 2, Ch h 3, Ch h 4, Ch h 5⟩
   have HXE := Hd hxe
   have HBX := Hd (box_up hbe hgw hbx)
   have HKV := Hd (hkv.later hbe)
   have HGW : Hid (g6 < we.heap.size ∧ g6 < ge ∧ w1.heap.size ≤ g6) := Hd ⟨by have := hbe.size; omega, by omega, by have := HG6.out; omega⟩
   have HWE := Hd hwe
   have HGE := Hd hge
   clear hi hat hes hrq hll hb hbx hkv hgw hbe hxe hwe hge
   go_upto_region 18 with fail
   rw [← HWE.out, ← HGE.out]
   clear z0 z1 z2 z3 z4 z5
   refine wp_region_held_drew (S := (fun w' => (w'.cell? ⟨ge, 0, none⟩ = some (.int .i64 k4) ∧ w'.cell? ⟨ge, 1, none⟩ = some (.string s4) ∧ w'.cell? ⟨ge, 2, none⟩ = some (.int .i64 n4) ∧ w'.cell? ⟨ge, 3, none⟩ = some (.slice A4 ps4.length c4) ∧ w'.cell? ⟨ge, 4, none⟩ = some (.slice B4 fs4.length d4) ∧ w'.cell? ⟨ge, 5, none⟩ = some (.slice C4 vs4.length e4)))) (by kernel_rfl) (HC.out _ (Below.refl _ _).drew) (fun hHeld => ?_)
   refine Plan.start [1] ?_
   refine Plan.tk (so rfl) hHeld ?_
   try simp only [Act.put, pz1, pz2, pz3]
   refine Plan.done ?_
   refine wpAnyH_ready (rs := [0, 2]) (by kernel_rfl) (by simp) ?_
   refine AllReadyH.cons (sd (some 43) rfl) (fun Kx hK => ?_) (AllReadyH.cons (sd (some 45) rfl) (fun Kx hK => ?_) AllReadyH.nil)
   ·have h6 := box_up (Below.refl we.heap.size we).drew HGW.out.1 HBX.out
    have b0 := Ch h6 0
    have b1 := Ch h6 1
    simp only [List.getElem?_toArray, List.getElem?_cons_zero, List.getElem?_cons_succ] at b0 b1
    clear h6
    go_simp
    clear b0 b1
    refine hK.out _ _ (HC.out _ (Below.refl _ _).drew) (fun hHeld => ?_)
    clear hK Kx
    try simp only [Act.put, pz1, pz2, pz3]
    refine wpAnyH_ready (rs := [2]) (by kernel_rfl) (by simp) ?_
    refine AllReadyH.cons (sd (some 45) rfl) (fun Kx hK => ?_) AllReadyH.nil
    go_simp
    refine (KI.out _ (HBE.out.trans ((Below.refl we.heap.size we).drew.mono HBE.out.size))).mono ?_
    intro e w5 hpo
    obtain ⟨bs, rfl, hkb, hb5⟩ := hpo.v
    have HB5 := Hd ((Below.refl we.heap.size we).drew.trans hb5)
    have HKB := Hd hkb
    clear hpo hb5
    obtain ⟨b6, A6, n6, c6, rfl⟩ := hkb.shape
    clear hkb
    go_wp2_with fail
    refine hK.out _ _ (HC.out _ HB5.out) (fun hHeld => ?_)
    clear hK Kx
    try simp only [Act.put, pz1, pz2, pz3]
    refine wpAnyH_ready (rs := [3]) (by kernel_rfl) (by simp) ?_
    refine AllReadyH.cons (sd (some 46) rfl) (fun Kx hK => ?_) AllReadyH.nil
    go_simp
    refine (KC.out w5 _ _ (HKV.out.later HB5.out) HKB.out).mono ?_
    rintro e w6 ⟨rs, rfl, hkr, hb6⟩
    have HB6 := Hd (HB5.out.trans (hb6.mono HB5.out.size))
    obtain ⟨b8, A8, n8, c8, rfl⟩ := hkr.shape
    have HKR := Hd hkr
    clear hkr hb6
    go_wp2_with fail
    refine hK.out _ _ (HC.out _ HB6.out) (fun hHeld => ?_)
    clear hK Kx
    try simp only [Act.put, pz1, pz2, pz3]
    refine wpAnyH_ready (rs := [4]) (by kernel_rfl) (by simp) ?_
    refine AllReadyH.cons (sd none rfl) (fun Kx hK => ?_) AllReadyH.nil
    go_simp
    have rb := box_up HB6.out HGW.out.1 HBX.out
    have q0 := Ch rb 0
    have q1 := Ch rb 1
    have z0 := Lib.frozen_of_heap rb 0
    have z1 := Lib.frozen_of_heap rb 1
    simp only [List.getElem?_toArray, List.getElem?_cons_zero, List.getElem?_cons_succ] at q0 q1
    have HSET := Hd (two_set rb (.bool b8) (.slice A8 n8 c8))
    have HKS := Hd (HKR.out.set rb (.bool b8) (.slice A8 n8 c8))
    have HBS : Hid (Below w1.heap.size w1 ((w6.setCell ⟨g6, 0, none⟩ (.bool b8)).setCell ⟨g6, 1, none⟩ (.slice A8 n8 c8))) := Hd (((HBE.out.trans (HB6.out.mono HBE.out.size)).setCell (by show w1.heap.size ≤ g6; exact HGW.out.2.2) _).setCell (by show w1.heap.size ≤ g6; exact HGW.out.2.2) _)
    have HCS : Hid ((((w6.setCell ⟨g6, 0, none⟩ (.bool b8)).setCell ⟨g6, 1, none⟩ (.slice A8 n8 c8)).cell? ⟨ge, 0, none⟩ = some (.int .i64 k4) ∧ ((w6.setCell ⟨g6, 0, none⟩ (.bool b8)).setCell ⟨g6, 1, none⟩ (.slice A8 n8 c8)).cell? ⟨ge, 1, none⟩ = some (.string s4) ∧ ((w6.setCell ⟨g6, 0, none⟩ (.bool b8)).setCell ⟨g6, 1, none⟩ (.slice A8 n8 c8)).cell? ⟨ge, 2, none⟩ = some (.int .i64 n4) ∧ ((w6.setCell ⟨g6, 0, none⟩ (.bool b8)).setCell ⟨g6, 1, none⟩ (.slice A8 n8 c8)).cell? ⟨ge, 3, none⟩ = some (.slice A4 ps4.length c4) ∧ ((w6.setCell ⟨g6, 0, none⟩ (.bool b8)).setCell ⟨g6, 1, none⟩ (.slice A8 n8 c8)).cell? ⟨ge, 4, none⟩ = some (.slice B4 fs4.length d4) ∧ ((w6.setCell ⟨g6, 0, none⟩ (.bool b8)).setCell ⟨g6, 1, none⟩ (.slice A8 n8 c8)).cell? ⟨ge, 5, none⟩ = some (.slice C4 vs4.length e4))) := Hd (by
     have h := box_up HB6.out (Array.getElem?_eq_some_iff.1 HXE.out).1 HXE.out
     have hne : ge ≠ g6 := by have := HGW.out; omega
     have h2 := (Below.heap_setCell (w6.setCell ⟨g6, 0, none⟩ (.bool b8)) ⟨g6, 1, none⟩ (.slice A8 n8 c8) ge hne).trans ((Below.heap_setCell w6 ⟨g6, 0, none⟩ (.bool b8) ge hne).trans h)
     exact ⟨Ch h2 0, Ch h2 1, Ch h2 2, Ch h2 3, Ch h2 4, Ch h2 5⟩)
    clear rb
    go_simp
    refine hK.out _ _ HCS.out (fun hHeld => ?_)
    clear hK Kx q0 q1 z0 z1 HCS
    try simp only [Act.put, pz1, pz2, pz3]
    refine wpAnyH_done (by kernel_rfl) ?_ _
    clear hHeld
    try clear hHeld
    go_wp2_with fail
    refine ⟨⟨i + 1, b8, A8, n8, c8, HIn.out, by first | rfl | rw [wr2], HSET.out, HKS.out, HBS.out⟩, ?_⟩
    first | exact HM.out | (rw [wr2]; exact HM.out)
   ·go_simp
    refine (KI.out _ (HBE.out.trans ((Below.refl we.heap.size we).drew.mono HBE.out.size))).mono ?_
    intro e w5 hpo
    obtain ⟨bs, rfl, hkb, hb5⟩ := hpo.v
    have HB5 := Hd ((Below.refl we.heap.size we).drew.trans hb5)
    have HKB := Hd hkb
    clear hpo hb5
    obtain ⟨b6, A6, n6, c6, rfl⟩ := hkb.shape
    clear hkb
    go_wp2_with fail
    refine hK.out _ _ (HC.out _ HB5.out) (fun hHeld => ?_)
    clear hK Kx
    try simp only [Act.put, pz1, pz2, pz3]
    have h6 := box_up HB5.out HGW.out.1 HBX.out
    have b0 := Ch h6 0
    have b1 := Ch h6 1
    simp only [List.getElem?_toArray, List.getElem?_cons_zero, List.getElem?_cons_succ] at b0 b1
    clear h6
    refine wpAnyH_ready (rs := [0]) (by kernel_rfl) (by simp) ?_
    refine AllReadyH.cons (sd (some 43) rfl) (fun Kx hK => ?_) AllReadyH.nil
    go_simp
    clear b0 b1
    refine hK.out _ _ (HC.out _ HB5.out) (fun hHeld => ?_)
    clear hK Kx
    try simp only [Act.put, pz1, pz2, pz3]
    refine wpAnyH_ready (rs := [3]) (by kernel_rfl) (by simp) ?_
    refine AllReadyH.cons (sd (some 46) rfl) (fun Kx hK => ?_) AllReadyH.nil
    go_simp
    refine (KC.out w5 _ _ (HKV.out.later HB5.out) HKB.out).mono ?_
    rintro e w6 ⟨rs, rfl, hkr, hb6⟩
    have HB6 := Hd (HB5.out.trans (hb6.mono HB5.out.size))
    obtain ⟨b8, A8, n8, c8, rfl⟩ := hkr.shape
    have HKR := Hd hkr
    clear hkr hb6
    go_wp2_with fail
    refine hK.out _ _ (HC.out _ HB6.out) (fun hHeld => ?_)
    clear hK Kx
    try simp only [Act.put, pz1, pz2, pz3]
    refine wpAnyH_ready (rs := [4]) (by kernel_rfl) (by simp) ?_
    refine AllReadyH.cons (sd none rfl) (fun Kx hK => ?_) AllReadyH.nil
    go_simp
    have rb := box_up HB6.out HGW.out.1 HBX.out
    have q0 := Ch rb 0
    have q1 := Ch rb 1
    have z0 := Lib.frozen_of_heap rb 0
    have z1 := Lib.frozen_of_heap rb 1
    simp only [List.getElem?_toArray, List.getElem?_cons_zero, List.getElem?_cons_succ] at q0 q1
    have HSET := Hd (two_set rb (.bool b8) (.slice A8 n8 c8))
    have HKS := Hd (HKR.out.set rb (.bool b8) (.slice A8 n8 c8))
    have HBS : Hid (Below w1.heap.size w1 ((w6.setCell ⟨g6, 0, none⟩ (.bool b8)).setCell ⟨g6, 1, none⟩ (.slice A8 n8 c8))) := Hd (((HBE.out.trans (HB6.out.mono HBE.out.size)).setCell (by show w1.heap.size ≤ g6; exact HGW.out.2.2) _).setCell (by show w1.heap.size ≤ g6; exact HGW.out.2.2) _)
    have HCS : Hid ((((w6.setCell ⟨g6, 0, none⟩ (.bool b8)).setCell ⟨g6, 1, none⟩ (.slice A8 n8 c8)).cell? ⟨ge, 0, none⟩ = some (.int .i64 k4) ∧ ((w6.setCell ⟨g6, 0, none⟩ (.bool b8)).setCell ⟨g6, 1, none⟩ (.slice A8 n8 c8)).cell? ⟨ge, 1, none⟩ = some (.string s4) ∧ ((w6.setCell ⟨g6, 0, none⟩ (.bool b8)).setCell ⟨g6, 1, none⟩ (.slice A8 n8 c8)).cell? ⟨ge, 2, none⟩ = some (.int .i64 n4) ∧ ((w6.setCell ⟨g6, 0, none⟩ (.bool b8)).setCell ⟨g6, 1, none⟩ (.slice A8 n8 c8)).cell? ⟨ge, 3, none⟩ = some (.slice A4 ps4.length c4) ∧ ((w6.setCell ⟨g6, 0, none⟩ (.bool b8)).setCell ⟨g6, 1, none⟩ (.slice A8 n8 c8)).cell? ⟨ge, 4, none⟩ = some (.slice B4 fs4.length d4) ∧ ((w6.setCell ⟨g6, 0, none⟩ (.bool b8)).setCell ⟨g6, 1, none⟩ (.slice A8 n8 c8)).cell? ⟨ge, 5, none⟩ = some (.slice C4 vs4.length e4))) := Hd (by
     have h := box_up HB6.out (Array.getElem?_eq_some_iff.1 HXE.out).1 HXE.out
     have hne : ge ≠ g6 := by have := HGW.out; omega
     have h2 := (Below.heap_setCell (w6.setCell ⟨g6, 0, none⟩ (.bool b8)) ⟨g6, 1, none⟩ (.slice A8 n8 c8) ge hne).trans ((Below.heap_setCell w6 ⟨g6, 0, none⟩ (.bool b8) ge hne).trans h)
     exact ⟨Ch h2 0, Ch h2 1, Ch h2 2, Ch h2 3, Ch h2 4, Ch h2 5⟩)
    clear rb
    go_simp
    refine hK.out _ _ HCS.out (fun hHeld => ?_)
    clear hK Kx q0 q1 z0 z1 HCS
    try simp only [Act.put, pz1, pz2, pz3]
    refine wpAnyH_done (by kernel_rfl) ?_ _
    clear hHeld
    try clear hHeld
    go_wp2_with fail
    refine ⟨⟨i + 1, b8, A8, n8, c8, HIn.out, by first | rfl | rw [wr2], HSET.out, HKS.out, HBS.out⟩, ?_⟩
    first | exact HM.out | (rw [wr2]; exact HM.out)
  ·have t1 : decide ((i : Int) < (ps.length : Int)) = false := by simp; omega
   obtain rfl : i = ps.length := by omega
   rw [HU.out] at hkv
   have HKV := Hd hkv
   have b0 := Ch hbx 0
   have b1 := Ch hbx 1
   simp only [List.getElem?_toArray, List.getElem?_cons_zero, List.getElem?_cons_succ] at b0 b1
   have rb := box_up hb (by have := HS1.out; omega) HY.out
   clear hi hin hll hb hbx hkv hgw
   have RB := Hd rb
   have u0 := Ch rb 0
   have u1 := Ch rb 1
   have z0 := Lib.frozen_of_heap rb 0
   have z1 := Lib.frozen_of_heap rb 1
   simp only [List.getElem?_toArray, List.getElem?_cons_zero, List.getElem?_cons_succ] at u0 u1
   clear rb
   go_wp2_with fail
   have rs := two_set RB.out (.bool bb) (.slice A5 n5 c5)
   have r0 := Ch rs 0
   have r1 := Ch rs 1
   simp only [List.getElem?_toArray, List.getElem?_cons_zero, List.getElem?_cons_succ] at r0 r1
   refine bodyPost_ret (v := .agg #[.bool bb, .slice A5 n5 c5]) (by simp [results, Tryz.results26, go_sem, r0, r1]) rfl ?_
   clear r0 r1 u0 u1 z0 z1
   exact (HKV.out.set RB.out (.bool bb) (.slice A5 n5 c5)).of (((HB1.out.trans (HBR.out.mono HB1.out.size)).setCell (by show w.heap.size ≤ g; have := HG.out; omega) _).setCell (by show w.heap.size ≤ g; have := HG.out; omega) _)
theorem keysof_any (t : Ty) : cntT t ≤ 1000000 → ∀ (K : Nat → Prop) (w : World) (cs : List Value), RepT K w t cs → Calls Tryz.prog 26 #[.agg cs.toArray] w (KeyPost w (keysN t)) := by
 refine Ty.ind (C := fun t => cntT t ≤ 1000000 → ∀ (K : Nat → Prop) (w : World) (cs : List Value), RepT K w t cs → Calls Tryz.prog 26 #[.agg cs.toArray] w (KeyPost w (keysN t))) (fun k s n ps fs vs hp _ _ hc K w cs hr => ?_) t
 rw [cntT_mk] at hc
 rw [keysN_mk]
 by_cases h13 : k = 3 ∨ k = 1
 ·rw [if_pos h13]; exact keysof_all k s n ps fs vs hr h13
 rw [if_neg h13]
 by_cases h14 : k = 14
 ·subst h14; rw [if_pos rfl]; exact keys_14 s n ps fs vs hr (by have := cntF_len fs; omega)
 rw [if_neg h14]
 by_cases h15 : k = 15
 ·subst h15
  rw [if_pos rfl]
  exact keysof_15 s n ps fs vs hr (by omega) fun p hp2 w cs hr => hp p hp2 (by have := cntL_mem hp2; omega) K w cs hr
 rw [if_neg h15]
 exact keysof_no k s n ps fs vs hr h14 (fun h => h13 (.inl h)) (fun h => h13 (.inr h)) h15
theorem lkeys_any (hU : UnionP) {K : Nat → Prop} {w : World} {t : Ty} {cs : List Value} (hr : RepT K w t cs) (hlo : ∀ b, K b → b < w.heap.size) (hc : cntT t ≤ 1000000) :
  Calls Tryz.prog 17 #[.agg cs.toArray] w (TyPost K w (keysT t)) := by
 unfold keysT
 have hz := kz_keys t cs hr hc
 have hk := fun wx (hx : Below w.heap.size w wx) => keysof_any t hc K wx cs (hr.later hx)
 rcases hn : keysN t with _ | l
 ·rw [hn] at hk
  exact lkeys_all hU hr hlo hk
 ·rw [hn] at hk hz
  exact lkeys_some hU hr hlo l (hz l rfl).1 (hz l rfl).2 hk
end Go.Proofs.YteakkjhcdpbidaaGreatDoor
