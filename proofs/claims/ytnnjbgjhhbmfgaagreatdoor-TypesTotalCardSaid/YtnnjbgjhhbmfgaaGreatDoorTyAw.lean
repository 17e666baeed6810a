import Derived.Test.YtnnjbgjhhbmfgaaGreatDoorTyZd
import Derived.Test.YtnnjbgjhhbmfgaaGreatDoorTyTx
import Derived.Test.YtnnjbgjhhbmfgaaGreatDoorTyXf
namespace Go.Proofs.YtnnjbgjhhbmfgaaGreatDoor
open Go.RowKit
theorem Kp.below {C b B : Nat} {a w : World} (h : Kp (fun k => k < C ∧ k ≠ b) a w) (h1 : B ≤ b) (h2 : b < C) (h3 : B ≤ a.heap.size) : Below B a w :=
  ⟨h.os, h.tape, h.output, h.size, fun k hk => h.block k ⟨by omega, by omega⟩ (by omega)⟩
set_option maxRecDepth 100000 in
set_option maxHeartbeats 8000000 in
/-- Formed, by value. -/
theorem formed_val {K : Nat → Prop} {w : World} {t : Ty} {cs : List Value} {r : Bool} (h : RepT K w t cs) (hf : FormIs t r) :
    Calls Tryz.prog 18 #[.agg cs.toArray] w fun e w' => e = .returned (.bool (decide (cntT t ≤ 4096) && r)) ∧ Below w.heap.size w w' := by
  have hb1 : Below w.heap.size w (w.alloc (.cells cs.toArray 26)) := (Below.refl _ _).alloc (Nat.le_refl _) _
  have KN := Lib.hid (nodes_any (h.later hb1))
  have KF := Lib.hid fun wx hx => hf K wx w.heap.size 0 ((AtT.box 26 h).later hx)
  have HB1 := Lib.hid hb1
  have HC : Hid (decide (((capN (cntT t) : Nat) : Int) ≤ 4096) = decide (cntT t ≤ 4096)) := Lib.hid (by unfold capN; congr 1; rw [eq_iff_iff]; omega)
  obtain ⟨k, s, n, ps, fs, vs⟩ := t
  obtain ⟨A, c, A', c', A'', c'', rfl, _⟩ := h.inv
  generalize capN (cntT (.mk k s n ps fs vs)) = q at KN HC
  generalize decide (cntT (.mk k s n ps fs vs) ≤ 4096) = d at HC ⊢
  simp only [cells6T] at KN KF HB1 ⊢
  clear h hf hb1
  cases d with
  | false =>
    have hq : ¬ ((q : Int) ≤ 4096) := by have h := HC.out; simpa using h
    have hq2 : ¬ (q ≤ 4096) := by omega
    go_enter Tryz.func18, Tryz.ntmps18
    go_wp2_with fail
    refine KN.out.mono ?_
    rintro e w1 ⟨rfl, hb1⟩
    have HB2 := Lib.hid (below_then HB1.out hb1)
    clear hb1 KN
    go_wp2_with fail
    go_ret
    exact ⟨rfl, HB2.out⟩
  | true =>
    have hq : ((q : Int) ≤ 4096) := by have h := HC.out; simpa using h
    have hq2 : (q ≤ 4096) := by omega
    go_enter Tryz.func18, Tryz.ntmps18
    go_wp2_with fail
    refine KN.out.mono ?_
    rintro e w1 ⟨rfl, hb1⟩
    have HB2 := Lib.hid (below_then HB1.out hb1)
    have KF2 := Lib.hid (KF.out _ hb1)
    clear hb1 KN KF
    go_wp2_with fail
    refine KF2.out.mono ?_
    rintro e w2 ⟨rfl, hb2⟩
    have HB3 := Lib.hid (below_then HB2.out hb2)
    clear hb2
    go_wp2_with fail
    go_ret
    exact ⟨rfl, HB3.out⟩
set_option maxRecDepth 100000 in
set_option maxHeartbeats 8000000 in
theorem self_4 : SelfIs (tyK 4) true := by
  intro K w b o h
  obtain ⟨_, _, _, _, _, _, ⟨x0, -⟩, -⟩ := AtT.six h
  clear h
  go_enter Tryz.func63, Tryz.ntmps63
  go_wp2_with fail
  go_ret
  exact ⟨rfl, Below.refl _ _⟩
set_option maxRecDepth 100000 in
set_option maxHeartbeats 8000000 in
theorem self_7 : SelfIs (tyK 7) true := by
  intro K w b o h
  obtain ⟨_, _, _, _, _, _, ⟨x0, -⟩, -⟩ := AtT.six h
  clear h
  go_enter Tryz.func63, Tryz.ntmps63
  go_wp2_with fail
  go_ret
  exact ⟨rfl, Below.refl _ _⟩
set_option maxRecDepth 100000 in
set_option maxHeartbeats 8000000 in
theorem self_15 (t : ByteArray) (n : Int) (ps : List Ty) (fs : List (ByteArray × Int × Ty)) (vs : List (ByteArray × List Ty)) : SelfIs (.mk 15 t n ps fs vs) (isUB ps) := by
  intro K w b o h
  obtain ⟨A, c, _, _, _, _, ⟨x0, -, -, x3, -, -⟩, -, hP, -⟩ := h.six
  have KU := Lib.hid (isU_any hP)
  clear h hP
  generalize isUB ps = r at KU ⊢
  go_enter Tryz.func63, Tryz.ntmps63
  go_wp2_with fail
  refine KU.out.mono ?_
  rintro e w2 ⟨rfl, hb2⟩
  have HB2 := Lib.hid hb2
  clear hb2
  go_wp2_with fail
  go_ret
  exact ⟨rfl, HB2.out⟩
theorem ord_kind {k k' : Int} (h : k < k') (t t' : ByteArray) (n n' : Int) (ps ps' : List Ty) (fs fs' : List (ByteArray × Int × Ty)) (vs vs' : List (ByteArray × List Ty)) : ordT (.mk k t n ps fs vs) (.mk k' t' n' ps' fs' vs') = -1 := by
  unfold ordT
  rw [flat_mk, flat_mk]
  have e : cmpTok (.i k) (.i k') = -1 := cmpZ_lt.2 h
  simp only [List.cons_append, lexC, e]
  rfl
theorem ord_kind' {k k' : Int} (h : k' < k) (t t' : ByteArray) (n n' : Int) (ps ps' : List Ty) (fs fs' : List (ByteArray × Int × Ty)) (vs vs' : List (ByteArray × List Ty)) : ordT (.mk k t n ps fs vs) (.mk k' t' n' ps' fs' vs') = 1 := by
  rw [ordT_flip, ord_kind h]; rfl
/-- null | number -/
def nnT : Ty := .mk 15 emptyB 0 [tyK 4, tyK 7] [] []
theorem emptyB_list : emptyB.toList = [] := by rw [ByteArray.toList_eq]; rfl
theorem form_4 : FormIs (tyK 4) true := by
  have h := form_step 4 emptyB 0 [] [] [] true (fun _ => true) self_4 (fun p hp => by cases hp)
  have e : ((shapeK 4).known && fitsB (shapeK 4) emptyB 0 ([] : List Ty).length ([] : List (ByteArray × Int × Ty)).length ([] : List (ByteArray × List Ty)).length && true && ([] : List Ty).all fun _ => true) = true := by simp [shapeK, fitsB, emptyB_list]
  rw [e] at h
  exact h
theorem form_7 : FormIs (tyK 7) true := by
  have h := form_step 7 emptyB 0 [] [] [] true (fun _ => true) self_7 (fun p hp => by cases hp)
  have e : ((shapeK 7).known && fitsB (shapeK 7) emptyB 0 ([] : List Ty).length ([] : List (ByteArray × Int × Ty)).length ([] : List (ByteArray × List Ty)).length && true && ([] : List Ty).all fun _ => true) = true := by simp [shapeK, fitsB, emptyB_list]
  rw [e] at h
  exact h
theorem isUB_nn : isUB [tyK 4, tyK 7] = true := by
  have h : ordT (tyK 4) (tyK 7) = -1 := ord_kind (by decide) _ _ _ _ _ _ _ _ _ _
  have h0 : okU [tyK 4, tyK 7] 0 = true := rfl
  have h1 : okU [tyK 4, tyK 7] 1 = true := by
    show (!((tyK 7).k == 15) && decide (ordT (tyK 4) (tyK 7) < 0)) = true
    rw [h]; rfl
  unfold isUB
  rw [Bool.and_eq_true]
  refine ⟨range_all.2 fun j hj => ?_, by simp [keepT, kindsOf, hasK, tyK, Ty.k]⟩
  match j, hj with
  | 0, _ => exact h0
  | 1, _ => exact h1
theorem form_nn : FormIs nnT true := by
  have h := form_step 15 emptyB 0 [tyK 4, tyK 7] [] [] true (fun _ => true) (isUB_nn ▸ self_15 emptyB 0 [tyK 4, tyK 7] [] []) (fun p hp => by
    rcases List.mem_cons.1 hp with rfl | hp
    · exact form_4
    · rcases List.mem_cons.1 hp with rfl | hp
      · exact form_7
      · cases hp)
  have e : ((shapeK 15).known && fitsB (shapeK 15) emptyB 0 [tyK 4, tyK 7].length ([] : List (ByteArray × Int × Ty)).length ([] : List (ByteArray × List Ty)).length && true && [tyK 4, tyK 7].all fun _ => true) = true := by simp [shapeK, fitsB, emptyB_list]
  rw [e] at h
  exact h
theorem union_nn : unionT [tyK 7, .mk 9 emptyB 5 [] [] [], tyK 4] = nnT := by
  have hf : flatU [tyK 7, .mk 9 emptyB 5 [] [] [], tyK 4] = [tyK 7, .mk 9 emptyB 5 [] [] [], tyK 4] := by
    unfold tyK
    rw [flatU_cons, flatU_cons, flatU_cons, parts1_mk, parts1_mk, parts1_mk]
    rfl
  have hk : keptU [tyK 7, .mk 9 emptyB 5 [] [] [], tyK 4] = [tyK 7, tyK 4] := by
    unfold keptU
    rw [hf]
    simp [keepT, kindsOf, hasK, tyK, Ty.k]
  unfold unionT
  rw [hk]
  have h : ordT (tyK 7) (tyK 4) = 1 := ord_kind' (by decide) _ _ _ _ _ _ _ _ _ _
  have hs : sortT [tyK 7, tyK 4] = [tyK 4, tyK 7] := by
    show insT (tyK 7) (insT (tyK 4) []) = _
    show insT (tyK 7) [tyK 4] = _
    rw [insT, h]
    rfl
  rw [hs]
  rfl
end Go.Proofs.YtnnjbgjhhbmfgaaGreatDoor
