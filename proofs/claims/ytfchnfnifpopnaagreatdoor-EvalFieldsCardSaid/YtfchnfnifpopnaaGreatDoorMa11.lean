import Derived.Test.YtfchnfnifpopnaaGreatDoorMa0
import Derived.Test.YtfchnfnifpopnaaGreatDoorMa6
import Derived.Test.YtfchnfnifpopnaaGreatDoorMa7
import Derived.BigQuiet
namespace Go.Proofs.YtfchnfnifpopnaaGreatDoor
open Go.RowKit
def okU (l : List Ty) (i : Nat) : Bool := match l[i]? with
 | none => true
 | some t => !(t.k == 15) && (match i with | 0 => true | j + 1 => match l[j]? with | none => true | some p => decide (ordT p t < 0))
def isUB (l : List Ty) : Bool := (List.range l.length).all (okU l) && l.all (keepT (kindsOf l))
theorem okU_all {l : List Ty} {i : Nat} : (∀ j, j < i + 1 → okU l j = true) ↔ (∀ j, j < i → okU l j = true) ∧ okU l i = true :=
 ⟨fun h => ⟨fun j hj => h j (by omega), h i (by omega)⟩, fun h j hj => by rcases Nat.lt_or_ge j i with h1 | h1; exact h.1 j h1; rw [show j = i from by omega]; exact h.2⟩
theorem range_all {n : Nat} {p : Nat → Bool} : (List.range n).all p = true ↔ ∀ j, j < n → p j = true := by simp [List.all_eq_true]
theorem isUB_no {l : List Ty} {i : Nat} (hi : i < l.length) (h : okU l i = false) : isUB l = false := by
 unfold isUB
 rw [Bool.and_eq_false_iff]
 exact .inl (Bool.eq_false_iff.2 fun h2 => by have := range_all.1 h2 i hi; rw [h] at this; cases this)
theorem isUB_keep {l : List Ty} {i : Nat} (hi : i < l.length) (h : keepT (kindsOf l) l[i] = false) : isUB l = false := by
 unfold isUB
 rw [Bool.and_eq_false_iff]
 exact .inr (Bool.eq_false_iff.2 fun h2 => by have := List.all_eq_true.1 h2 l[i] (List.getElem_mem hi); rw [h] at this; cases this)
theorem seeL_take {l : List Ty} {i : Nat} (h : i < l.length) (x : Kinds) : seeL x (l.take (i + 1)) = seeK (seeL x (l.take i)) l[i].k := by
 rw [List.take_succ_eq_append_getElem h, seeL_app]; rfl
structure IsR (w wr : World) (l : List Ty) (i : Nat) : Prop where
 le : i ≤ l.length
 ok : ∀ j, j < i → okU l j = true
 kb : KB wr w.heap.size (seeL ⟨false, false, false, false⟩ (l.take i))
 below : Below w.heap.size w wr
theorem IsR.lt {w wr : World} {l : List Ty} {i : Nat} (h : IsR w wr l i) : w.heap.size < wr.heap.size := (Array.getElem?_eq_some_iff.1 h.kb).1
theorem IsR.next {w wr wy wz : World} {l : List Ty} {i : Nat} (h : IsR w wr l i) (hi : i < l.length) (hok : okU l i = true) (hy : Below wr.heap.size wr wy) (hk : KB wz w.heap.size (seeK (seeL ⟨false, false, false, false⟩ (l.take i)) l[i].k)) (hs : SetAt w.heap.size wy wz) : IsR w wz l (i + 1) :=
 ⟨hi, okU_all.2 ⟨h.ok, hok⟩, by rw [seeL_take hi]; exact hk, hs.below (h.below.trans (hy.mono h.below.size)) (Nat.le_refl _)⟩
set_option maxRecDepth 100000 in
set_option maxHeartbeats 16000000 in
theorem isU_any {K : Nat → Prop} {w : World} {l : List Ty} {A : Option Addr} {c : Nat} (hL : ListT K w l A c) :
  Calls Tryz.prog 68 #[.slice A l.length c] w fun e w' => e = .returned (.bool (isUB l)) ∧ Below w.heap.size w w' := by
 have HL := Lib.hid hL
 have hll := hL.short
 have HST : Hid (IsR w (w.alloc (.cells #[.bool false, .bool false, .bool false, .bool false] 76)) l 0) := Lib.hid ⟨Nat.zero_le _, fun j hj => absurd hj (by omega), heap_alloc_new w _, (Below.refl _ _).alloc (Nat.le_refl _) _⟩
 clear hL
 go_enter Tryz.func68, Tryz.ntmps68
 go_wp2_with fail
 go_loopw [8] (fun v wr => ∃ i : Nat, v = .int .i64 (i : Int) ∧ IsR w wr l i) (fun v _ => l.length - (intOf v).toNat)
 case atStart => exact ⟨0, rfl, HST.out⟩
 case round =>
  obtain ⟨i, rfl, hr⟩ := hrel
  have HR := Lib.hid hr
  have hle := hr.le
  by_cases hlt : i < l.length
  ·have t1 : decide ((i : Int) < (l.length : Int)) = true := by simp; omega
   have wr2 : wrap64 ((i : Int) + 1) = ((i + 1 : Nat) : Int) := wrap_one (by omega)
   have HM := Lib.hid (measI hlt)
   obtain ⟨b, o, hA, _, hat⟩ := HL.out.at (by omega)
   subst hA
   have hti : l[i]? = some l[i] := List.getElem?_eq_getElem hlt
   have HAT := Lib.hid fun (j : Nat) (hj : j < l.length) => (hat j hj).later hr.below
   obtain ⟨k, hk, hck⟩ : ∃ k, l[i].k = k ∧ wr.cell? ⟨b, o + i * 6, none⟩ = some (.int .i64 k) := by
    have h1 := HAT.out i hlt
    generalize l[i] = t at h1
    obtain ⟨k, s, n, ps, fs, vs⟩ := t
    obtain ⟨_, _, _, _, _, _, ⟨x0, _⟩, _⟩ := h1.six
    exact ⟨k, rfl, x0⟩
   have HCK : Hid (∀ wx, Below wr.heap.size wr wx → wx.cell? ⟨b, o + i * 6, none⟩ = some (.int .i64 k)) := Lib.hid fun wx hx => cell_stays hx hck
   have HSEE : Hid (∀ wy, Below wr.heap.size wr wy → Calls Tryz.prog 69 #[.pointer (some ⟨w.heap.size, 0, none⟩), .pointer (some ⟨b, o + i * 6, none⟩)] wy fun e w' => e = .returned (.tuple #[]) ∧ KB w' w.heap.size (seeK (seeL ⟨false, false, false, false⟩ (l.take i)) k) ∧ SetAt w.heap.size wy w') := Lib.hid fun wy hy => see_any (by unfold KB; rw [hy.block _ hr.lt]; exact hr.kb) (cell_stays hy hck)
   have HNX : Hid (okU l i = true → ∀ wy wz, Below wr.heap.size wr wy → KB wz w.heap.size (seeK (seeL ⟨false, false, false, false⟩ (l.take i)) k) → SetAt w.heap.size wy wz → IsR w wz l (i + 1)) := Lib.hid fun hok wy wz hy hk2 hs => hr.next hlt hok hy (by rw [hk]; exact hk2) hs
   by_cases hk15 : k = 15
   ·have HNO : Hid (isUB l = false) := Lib.hid (isUB_no hlt (by unfold okU; rw [hti]; simp [hk, hk15]))
    have HB9 := Lib.hid hr.below
    clear hat hr hle hti hck HNX HSEE hk
    subst hk15
    go_wp2_with fail
    refine wp_region_held_drew (S := (fun w' => w'.cell? ⟨b, o + i * 6, none⟩ = some (.int .i64 15))) (by kernel_rfl) (HCK.out _ (Below.refl _ _).drew) (fun hHeld => ?_)
    refine Plan.start [0, 1, 2, 3, 4, 5, 6] ?_
    iterate 7 ((refine Plan.take (v := ?_) (so rfl) (by kernel_rfl) (by kernel_rfl) (by kernel_rfl) (fun _ _ _ h => h) (Or.inl ⟨by rfl, ?_⟩) hHeld ?_; rotate_left; focus (intro w' hSw; (try dsimp only at hSw); go_simp; try with_reducible rfl)); try simp only [Act.put, List.setIfInBounds_toArray, List.set_cons_zero, List.set_cons_succ])
    refine Plan.done ?_
    refine Plan.start [7, 8, 9, 10, 11, 12, 13, 14, 15, 16, 17, 18, 19] ?_
    iterate 13 (refine Plan.take (v := undef) (so rfl) (by kernel_rfl) (by kernel_rfl) (by kernel_rfl) (fun _ _ _ h => h) (Or.inr ⟨by rfl, rfl⟩) hHeld ?_; try simp only [Act.put, List.setIfInBounds_toArray, List.set_cons_zero, List.set_cons_succ])
    refine Plan.done ?_
    refine wpAnyH_take (i := 20) (v := ?_) (sd (some 31) rfl) (by kernel_rfl) (by kernel_rfl) (by kernel_rfl) (fun _ _ _ h => h) (Or.inl ⟨by rfl, ?_⟩) hHeld ?_
    rotate_left
    ·intro w' hSw
     (try dsimp only at hSw)
     go_simp
     try with_reducible rfl
    try simp only [Act.put, List.setIfInBounds_toArray, List.set_cons_zero, List.set_cons_succ]
    refine wpAnyH_done (by kernel_rfl) ?_ _
    clear hHeld
    clear HCK HR
    go_wp2_with fail
    go_ret
    exact ⟨by rw [HNO.out]; rfl, HB9.out.drew⟩
   ·have tk : (k == 15) = false := by simpa using hk15
    cases i with
    | zero =>
     have HOK : Hid (okU l 0 = true) := Lib.hid (by unfold okU; rw [hti]; simp [hk, hk15])
     simp only [Nat.zero_mul, Nat.add_zero] at HCK HSEE
     clear hat hr hle hti hck hk hk15
     go_wp2_with fail
     refine wp_region_held_drew (S := (fun w' => w'.cell? ⟨b, o, none⟩ = some (.int .i64 k))) (by kernel_rfl) (HCK.out _ (Below.refl _ _).drew) (fun hHeld => ?_)
     refine Plan.start [0, 1, 2, 3, 4, 5, 6, 7, 8, 9] ?_
     iterate 10 ((refine Plan.take (v := ?_) (so rfl) (by kernel_rfl) (by kernel_rfl) (by kernel_rfl) (fun _ _ _ h => h) (Or.inl ⟨by rfl, ?_⟩) hHeld ?_; rotate_left; focus (intro w' hSw; (try dsimp only at hSw); go_simp; try with_reducible rfl)); try simp only [Act.put, List.setIfInBounds_toArray, List.set_cons_zero, List.set_cons_succ])
     refine Plan.done ?_
     refine Plan.start [10, 11, 12, 13, 14, 15, 16, 17, 18] ?_
     iterate 9 (refine Plan.take (v := undef) (so rfl) (by kernel_rfl) (by kernel_rfl) (by kernel_rfl) (fun _ _ _ h => h) (Or.inr ⟨by rfl, rfl⟩) hHeld ?_; try simp only [Act.put, List.setIfInBounds_toArray, List.set_cons_zero, List.set_cons_succ])
     refine Plan.done ?_
     refine Plan.start [19, 20] ?_
     iterate 2 ((refine Plan.take (v := ?_) (so rfl) (by kernel_rfl) (by kernel_rfl) (by kernel_rfl) (fun _ _ _ h => h) (Or.inl ⟨by rfl, ?_⟩) hHeld ?_; rotate_left; focus (intro w' hSw; (try dsimp only at hSw); go_simp; try with_reducible rfl)); try simp only [Act.put, List.setIfInBounds_toArray, List.set_cons_zero, List.set_cons_succ])
     refine Plan.done ?_
     refine wpAnyH_done (by kernel_rfl) ?_ _
     clear hHeld
     go_wp2_with fail
     refine (HSEE.out _ (Below.refl _ _).drew).mono ?_
     rintro e w3 ⟨rfl, hkb3, hs3⟩
     have HI3 := Lib.hid (HNX.out HOK.out _ _ (Below.refl _ _).drew hkb3 hs3)
     clear hkb3 hs3 HSEE HNX
     go_wp2_with fail
     refine ⟨⟨0 + 1, by first | rfl | rw [wr2], HI3.out⟩, ?_⟩
     first | exact HM.out | (rw [wr2]; exact HM.out)
    | succ i =>
     have HORD : Hid (∀ wx, Below wr.heap.size wr wx → Calls Tryz.prog 57 #[.pointer (some ⟨b, o + i * 6, none⟩), .pointer (some ⟨b, o + (i + 1) * 6, none⟩)] wx fun e w' => e = .returned (.int .i64 (ordT l[i] l[i + 1])) ∧ Gw wx w') := Lib.hid fun wx hx => (order_any l[i] K K l[i + 1]).ok wx _ _ _ _ ((HAT.out i (by omega)).later hx) ((HAT.out (i + 1) hlt).later hx)
     have hoks : okU l (i + 1) = decide (ordT l[i] l[i + 1] < 0) := by
      unfold okU
      rw [hti]
      show (!(l[i + 1].k == 15) && (match l[i]? with | none => true | some p => decide (ordT p l[i + 1] < 0))) = _
      rw [List.getElem?_eq_getElem (by omega : i < l.length)]
      simp [hk, hk15]
     have HNO : Hid (ordT l[i] l[i + 1] < 0 ∨ isUB l = false) := Lib.hid (by
      by_cases h0 : ordT l[i] l[i + 1] < 0
      ·exact .inl h0
      ·exact .inr (isUB_no hlt (by rw [hoks]; simpa using h0)))
     have HOKS := Lib.hid hoks
     have HB9 := Lib.hid hr.below
     generalize ordT l[i] l[i + 1] = oo at HORD HNO HOKS
     have wr1 : wrap64 (((i + 1 : Nat) : Int) - 1) = ((i : Nat) : Int) := by rw [wrap_in (by omega) (by omega)]; omega
     have wr1' : IntKind.i64.wrap (((i + 1 : Nat) : Int) - 1) = ((i : Nat) : Int) := by
      have e : IntKind.i64.wrap (((i + 1 : Nat) : Int) - 1) = wrap64 (((i + 1 : Nat) : Int) - 1) := by unfold wrap64; exact IntKind.wrap_i64 _
      rw [e, wr1]
     have wr3 : wrap64 (i : Int) = (i : Int) := wrap_in (by omega) (by omega)
     have wr3' : IntKind.i64.wrap (i : Int) = (i : Int) := by
      have e : IntKind.i64.wrap (i : Int) = wrap64 (i : Int) := by unfold wrap64; exact IntKind.wrap_i64 _
      rw [e, wr3]
     have i0 : (0 : Int) ≤ (i : Int) + 1 := by omega
     have i1 : (i : Int) + 1 < (l.length : Int) := by omega
     have i2 : (0 : Int) ≤ (i : Int) := by omega
     have i3 : (i : Int) < (l.length : Int) := by omega
     have i4 : (0 : Int) < (i : Int) + 1 := by omega
     clear hat hr hle hti hck hk hk15 hoks
     go_wp2_with fail
     refine wp_region_held_drew (S := (fun w' => w'.cell? ⟨b, o + (i + 1) * 6, none⟩ = some (.int .i64 k))) (by kernel_rfl) (HCK.out _ (Below.refl _ _).drew) (fun hHeld => ?_)
     refine Plan.start [0, 1, 2, 3, 4, 5, 6, 7, 8, 9, 10, 11, 12, 13, 14, 15, 16] ?_
     iterate 17 ((refine Plan.take (v := ?_) (so rfl) (by kernel_rfl) (by kernel_rfl) (by kernel_rfl) (fun _ _ _ h => h) (Or.inl ⟨by rfl, ?_⟩) hHeld ?_; rotate_left; focus (intro w' hSw; (try dsimp only at hSw); go_simp; try with_reducible rfl)); try simp only [Act.put, List.setIfInBounds_toArray, List.set_cons_zero, List.set_cons_succ])
     refine Plan.done ?_
     refine wpAnyH_ready (rs := [17]) (by kernel_rfl) (by simp) ?_
     refine AllReadyH.cons (sd (some 28) rfl) (fun K hK => ?_) AllReadyH.nil
     go_simp
     refine (HORD.out _ (Below.refl _ _).drew).mono ?_
     rintro e w2 ⟨rfl, hb2⟩
     have HB2 := Lib.hid ((Below.refl wr.heap.size wr).drew.trans hb2.below)
     clear hb2
     go_wp2_with fail
     refine hK.out _ _ (HCK.out _ HB2.out) (fun hHeld => ?_)
     clear hK K
     try simp only [Act.put, List.setIfInBounds_toArray, List.set_cons_zero, List.set_cons_succ]
     refine Plan.start [18, 19, 20] ?_
     iterate 3 ((refine Plan.take (v := ?_) (so rfl) (by kernel_rfl) (by kernel_rfl) (by kernel_rfl) (fun _ _ _ h => h) (Or.inl ⟨by rfl, ?_⟩) hHeld ?_; rotate_left; focus (intro w' hSw; (try dsimp only at hSw); go_simp; try with_reducible rfl)); try simp only [Act.put, List.setIfInBounds_toArray, List.set_cons_zero, List.set_cons_succ])
     refine Plan.done ?_
     refine wpAnyH_done (by kernel_rfl) ?_ _
     clear hHeld
     by_cases h0 : oo < 0
     ·have h1 : ¬ (0 ≤ oo) := by omega
      have HOK : Hid (okU l (i + 1) = true) := Lib.hid (by rw [HOKS.out]; simpa using h0)
      clear i0 i1 i2 i3 i4 wr1 wr1' wr3 wr3' HORD h0
      go_wp2_with fail
      refine (HSEE.out _ HB2.out).mono ?_
      rintro e w3 ⟨rfl, hkb3, hs3⟩
      have HI3 := Lib.hid (HNX.out HOK.out _ _ HB2.out hkb3 hs3)
      clear hkb3 hs3 HSEE HNX
      go_wp2_with fail
      refine ⟨⟨(i + 1) + 1, by first | rfl | rw [wr2], HI3.out⟩, ?_⟩
      first | exact HM.out | (rw [wr2]; exact HM.out)
     ·have h1 : 0 ≤ oo := by omega
      have HN2 : Hid (isUB l = false) := Lib.hid (HNO.out.resolve_left h0)
      clear i0 i1 i2 i3 i4 wr1 wr1' wr3 wr3' HORD h0
      go_wp2_with fail
      go_ret
      exact ⟨by rw [HN2.out]; rfl, HB9.out.trans (HB2.out.mono HB9.out.size)⟩
  ·have t1 : decide ((i : Int) < (l.length : Int)) = false := by simp; omega
   have hil : i = l.length := by omega
   have HOK : Hid ((List.range l.length).all (okU l) = true) := Lib.hid (range_all.2 fun j hj => hr.ok j (by omega))
   have HKB : Hid (KB wr w.heap.size (kindsOf l)) := Lib.hid (by have h := hr.kb; rw [List.take_of_length_le (by omega), seeL_kinds] at h; exact h)
   have HB9 := Lib.hid hr.below
   clear hr hle hil HR
   go_wp2_with fail
   go_loopw [39] (fun v wx => ∃ i : Nat, i ≤ l.length ∧ v = .int .i64 (i : Int) ∧ (∀ j (h : j < l.length), j < i → keepT (kindsOf l) l[j] = true) ∧ wx = wr) (fun v _ => l.length - (intOf v).toNat)
   case atStart => exact ⟨0, by omega, rfl, fun j _ hj => absurd hj (by omega), rfl⟩
   case round =>
    obtain ⟨i, hi, rfl, hkp, rfl⟩ := hrel
    have HKP := Lib.hid hkp
    clear hkp
    by_cases hlt : i < l.length
    ·have t1 : decide ((i : Int) < (l.length : Int)) = true := by simp; omega
     have wr2 : wrap64 ((i : Int) + 1) = ((i + 1 : Nat) : Int) := wrap_one (by omega)
     have HM := Lib.hid (measI hlt)
     obtain ⟨b, o, hA, _, hat⟩ := HL.out.at (by omega)
     subst hA
     have KK := Lib.hid (keep_any (t := l[i]) HKB.out ((hat i hlt).later HB9.out))
     have HIN := Lib.hid hlt
     generalize hq : keepT (kindsOf l) l[i] = qq at KK
     cases qq with
     | false =>
      have HNO : Hid (isUB l = false) := Lib.hid (isUB_keep hlt hq)
      clear hq hat hi
      go_wp2_with fail
      refine KK.out.mono ?_
      rintro e w2 ⟨rfl, rfl⟩
      go_wp2_with fail
      go_ret
      exact ⟨by rw [HNO.out]; rfl, HB9.out⟩
     | true =>
      have HK2 : Hid (∀ j (h : j < l.length), j < i + 1 → keepT (kindsOf l) l[j] = true) := Lib.hid fun j h hj => by
       rcases Nat.lt_or_ge j i with h1 | h1
       ·exact HKP.out j h h1
       ·have : j = i := by omega
        subst this
        exact hq
      clear hq hat hi
      go_wp2_with fail
      refine KK.out.mono ?_
      rintro e w2 ⟨rfl, rfl⟩
      go_wp2_with fail
      refine ⟨⟨i + 1, HIN.out, by first | rfl | rw [wr2], HK2.out, by first | rfl | trivial⟩, ?_⟩
      first | exact HM.out | (rw [wr2]; exact HM.out)
    ·have t1 : decide ((i : Int) < (l.length : Int)) = false := by simp; omega
     have HYES : Hid (isUB l = true) := Lib.hid (by
      unfold isUB
      rw [HOK.out, Bool.true_and, List.all_eq_true]
      intro x hx
      obtain ⟨j, hj, rfl⟩ := List.getElem_of_mem hx
      exact HKP.out j hj (by omega))
     clear hi
     go_wp2_with fail
     go_ret
     exact ⟨by rw [HYES.out]; rfl, HB9.out⟩
structure Shp where
 t : Bool
 n : Bool
 f : Bool
 v : Bool
 lo : Int
 hi : Int
 known : Bool
def shapeK (k : Int) : Shp :=
 if 1 ≤ k ∧ k ≤ 8 then ⟨false, false, false, false, 0, 0, true⟩ else if k = 9 then ⟨false, true, false, false, 0, 0, true⟩ else if k = 10 ∨ k = 16 ∨ k = 22 then ⟨true, false, false, false, 0, 0, true⟩
 else if k = 11 ∨ k = 18 then ⟨false, false, false, false, 1, 1, true⟩ else if k = 12 then ⟨false, false, false, false, 0, -1, true⟩ else if k = 13 then ⟨false, false, false, true, 1, -1, true⟩
 else if k = 14 then ⟨false, false, true, false, 0, 0, true⟩ else if k = 15 ∨ k = 23 then ⟨false, false, false, false, 2, -1, true⟩ else if k = 17 then ⟨true, false, false, false, 0, -1, true⟩
 else if k = 19 then ⟨false, false, false, false, 2, 2, true⟩ else if k = 20 then ⟨true, true, false, false, 2, 2, true⟩ else if k = 21 then ⟨true, true, false, false, 4, 4, true⟩ else ⟨false, false, false, false, 0, 0, false⟩
def shpV (s : Shp) : Value := .agg #[.bool s.t, .bool s.n, .bool s.f, .bool s.v, .int .i64 s.lo, .int .i64 s.hi]
set_option maxRecDepth 100000 in
set_option maxHeartbeats 16000000 in
theorem shape_1 (w : World) : Calls Tryz.prog 47 #[.int .i64 1] w fun e w' => e = .returned (.tuple #[shpV (shapeK 1), .bool (shapeK 1).known]) ∧ Below w.heap.size w w' := by
 go_enter Tryz.func47, Tryz.ntmps47
 go_wp2_with fail
 exact bodyPost_ret (v := .tuple #[shpV (shapeK 1), .bool (shapeK 1).known]) (by simp [results, Tryz.results47, go_sem, shpV, shapeK]) rfl ⟨rfl, (Below.refl _ _).alloc (Nat.le_refl _) _⟩
set_option maxRecDepth 100000 in
set_option maxHeartbeats 16000000 in
theorem shape_2 (w : World) : Calls Tryz.prog 47 #[.int .i64 2] w fun e w' => e = .returned (.tuple #[shpV (shapeK 2), .bool (shapeK 2).known]) ∧ Below w.heap.size w w' := by
 go_enter Tryz.func47, Tryz.ntmps47
 go_wp2_with fail
 exact bodyPost_ret (v := .tuple #[shpV (shapeK 2), .bool (shapeK 2).known]) (by simp [results, Tryz.results47, go_sem, shpV, shapeK]) rfl ⟨rfl, (Below.refl _ _).alloc (Nat.le_refl _) _⟩
set_option maxRecDepth 100000 in
set_option maxHeartbeats 16000000 in
theorem shape_3 (w : World) : Calls Tryz.prog 47 #[.int .i64 3] w fun e w' => e = .returned (.tuple #[shpV (shapeK 3), .bool (shapeK 3).known]) ∧ Below w.heap.size w w' := by
 go_enter Tryz.func47, Tryz.ntmps47
 go_wp2_with fail
 exact bodyPost_ret (v := .tuple #[shpV (shapeK 3), .bool (shapeK 3).known]) (by simp [results, Tryz.results47, go_sem, shpV, shapeK]) rfl ⟨rfl, (Below.refl _ _).alloc (Nat.le_refl _) _⟩
set_option maxRecDepth 100000 in
set_option maxHeartbeats 16000000 in
theorem shape_4 (w : World) : Calls Tryz.prog 47 #[.int .i64 4] w fun e w' => e = .returned (.tuple #[shpV (shapeK 4), .bool (shapeK 4).known]) ∧ Below w.heap.size w w' := by
 go_enter Tryz.func47, Tryz.ntmps47
 go_wp2_with fail
 exact bodyPost_ret (v := .tuple #[shpV (shapeK 4), .bool (shapeK 4).known]) (by simp [results, Tryz.results47, go_sem, shpV, shapeK]) rfl ⟨rfl, (Below.refl _ _).alloc (Nat.le_refl _) _⟩
set_option maxRecDepth 100000 in
set_option maxHeartbeats 16000000 in
theorem shape_5 (w : World) : Calls Tryz.prog 47 #[.int .i64 5] w fun e w' => e = .returned (.tuple #[shpV (shapeK 5), .bool (shapeK 5).known]) ∧ Below w.heap.size w w' := by
 go_enter Tryz.func47, Tryz.ntmps47
 go_wp2_with fail
 exact bodyPost_ret (v := .tuple #[shpV (shapeK 5), .bool (shapeK 5).known]) (by simp [results, Tryz.results47, go_sem, shpV, shapeK]) rfl ⟨rfl, (Below.refl _ _).alloc (Nat.le_refl _) _⟩
set_option maxRecDepth 100000 in
set_option maxHeartbeats 16000000 in
theorem shape_6 (w : World) : Calls Tryz.prog 47 #[.int .i64 6] w fun e w' => e = .returned (.tuple #[shpV (shapeK 6), .bool (shapeK 6).known]) ∧ Below w.heap.size w w' := by
 go_enter Tryz.func47, Tryz.ntmps47
 go_wp2_with fail
 exact bodyPost_ret (v := .tuple #[shpV (shapeK 6), .bool (shapeK 6).known]) (by simp [results, Tryz.results47, go_sem, shpV, shapeK]) rfl ⟨rfl, (Below.refl _ _).alloc (Nat.le_refl _) _⟩
set_option maxRecDepth 100000 in
set_option maxHeartbeats 16000000 in
theorem shape_7 (w : World) : Calls Tryz.prog 47 #[.int .i64 7] w fun e w' => e = .returned (.tuple #[shpV (shapeK 7), .bool (shapeK 7).known]) ∧ Below w.heap.size w w' := by
 go_enter Tryz.func47, Tryz.ntmps47
 go_wp2_with fail
 exact bodyPost_ret (v := .tuple #[shpV (shapeK 7), .bool (shapeK 7).known]) (by simp [results, Tryz.results47, go_sem, shpV, shapeK]) rfl ⟨rfl, (Below.refl _ _).alloc (Nat.le_refl _) _⟩
set_option maxRecDepth 100000 in
set_option maxHeartbeats 16000000 in
theorem shape_8 (w : World) : Calls Tryz.prog 47 #[.int .i64 8] w fun e w' => e = .returned (.tuple #[shpV (shapeK 8), .bool (shapeK 8).known]) ∧ Below w.heap.size w w' := by
 go_enter Tryz.func47, Tryz.ntmps47
 go_wp2_with fail
 exact bodyPost_ret (v := .tuple #[shpV (shapeK 8), .bool (shapeK 8).known]) (by simp [results, Tryz.results47, go_sem, shpV, shapeK]) rfl ⟨rfl, (Below.refl _ _).alloc (Nat.le_refl _) _⟩
set_option maxRecDepth 100000 in
set_option maxHeartbeats 16000000 in
theorem shape_9 (w : World) : Calls Tryz.prog 47 #[.int .i64 9] w fun e w' => e = .returned (.tuple #[shpV (shapeK 9), .bool (shapeK 9).known]) ∧ Below w.heap.size w w' := by
 go_enter Tryz.func47, Tryz.ntmps47
 go_wp2_with fail
 exact bodyPost_ret (v := .tuple #[shpV (shapeK 9), .bool (shapeK 9).known]) (by simp [results, Tryz.results47, go_sem, shpV, shapeK]) rfl ⟨rfl, (Below.refl _ _).alloc (Nat.le_refl _) _⟩
set_option maxRecDepth 100000 in
set_option maxHeartbeats 16000000 in
theorem shape_10 (w : World) : Calls Tryz.prog 47 #[.int .i64 10] w fun e w' => e = .returned (.tuple #[shpV (shapeK 10), .bool (shapeK 10).known]) ∧ Below w.heap.size w w' := by
 go_enter Tryz.func47, Tryz.ntmps47
 go_wp2_with fail
 exact bodyPost_ret (v := .tuple #[shpV (shapeK 10), .bool (shapeK 10).known]) (by simp [results, Tryz.results47, go_sem, shpV, shapeK]) rfl ⟨rfl, (Below.refl _ _).alloc (Nat.le_refl _) _⟩
set_option maxRecDepth 100000 in
set_option maxHeartbeats 16000000 in
theorem shape_11 (w : World) : Calls Tryz.prog 47 #[.int .i64 11] w fun e w' => e = .returned (.tuple #[shpV (shapeK 11), .bool (shapeK 11).known]) ∧ Below w.heap.size w w' := by
 go_enter Tryz.func47, Tryz.ntmps47
 go_wp2_with fail
 exact bodyPost_ret (v := .tuple #[shpV (shapeK 11), .bool (shapeK 11).known]) (by simp [results, Tryz.results47, go_sem, shpV, shapeK]) rfl ⟨rfl, (Below.refl _ _).alloc (Nat.le_refl _) _⟩
set_option maxRecDepth 100000 in
set_option maxHeartbeats 16000000 in
theorem shape_12 (w : World) : Calls Tryz.prog 47 #[.int .i64 12] w fun e w' => e = .returned (.tuple #[shpV (shapeK 12), .bool (shapeK 12).known]) ∧ Below w.heap.size w w' := by
 go_enter Tryz.func47, Tryz.ntmps47
 go_wp2_with fail
 exact bodyPost_ret (v := .tuple #[shpV (shapeK 12), .bool (shapeK 12).known]) (by simp [results, Tryz.results47, go_sem, shpV, shapeK]) rfl ⟨rfl, (Below.refl _ _).alloc (Nat.le_refl _) _⟩
set_option maxRecDepth 100000 in
set_option maxHeartbeats 16000000 in
theorem shape_13 (w : World) : Calls Tryz.prog 47 #[.int .i64 13] w fun e w' => e = .returned (.tuple #[shpV (shapeK 13), .bool (shapeK 13).known]) ∧ Below w.heap.size w w' := by
 go_enter Tryz.func47, Tryz.ntmps47
 go_wp2_with fail
 exact bodyPost_ret (v := .tuple #[shpV (shapeK 13), .bool (shapeK 13).known]) (by simp [results, Tryz.results47, go_sem, shpV, shapeK]) rfl ⟨rfl, (Below.refl _ _).alloc (Nat.le_refl _) _⟩
set_option maxRecDepth 100000 in
set_option maxHeartbeats 16000000 in
theorem shape_14 (w : World) : Calls Tryz.prog 47 #[.int .i64 14] w fun e w' => e = .returned (.tuple #[shpV (shapeK 14), .bool (shapeK 14).known]) ∧ Below w.heap.size w w' := by
 go_enter Tryz.func47, Tryz.ntmps47
 go_wp2_with fail
 exact bodyPost_ret (v := .tuple #[shpV (shapeK 14), .bool (shapeK 14).known]) (by simp [results, Tryz.results47, go_sem, shpV, shapeK]) rfl ⟨rfl, (Below.refl _ _).alloc (Nat.le_refl _) _⟩
set_option maxRecDepth 100000 in
set_option maxHeartbeats 16000000 in
theorem shape_15 (w : World) : Calls Tryz.prog 47 #[.int .i64 15] w fun e w' => e = .returned (.tuple #[shpV (shapeK 15), .bool (shapeK 15).known]) ∧ Below w.heap.size w w' := by
 go_enter Tryz.func47, Tryz.ntmps47
 go_wp2_with fail
 exact bodyPost_ret (v := .tuple #[shpV (shapeK 15), .bool (shapeK 15).known]) (by simp [results, Tryz.results47, go_sem, shpV, shapeK]) rfl ⟨rfl, (Below.refl _ _).alloc (Nat.le_refl _) _⟩
set_option maxRecDepth 100000 in
set_option maxHeartbeats 16000000 in
theorem shape_16 (w : World) : Calls Tryz.prog 47 #[.int .i64 16] w fun e w' => e = .returned (.tuple #[shpV (shapeK 16), .bool (shapeK 16).known]) ∧ Below w.heap.size w w' := by
 go_enter Tryz.func47, Tryz.ntmps47
 go_wp2_with fail
 exact bodyPost_ret (v := .tuple #[shpV (shapeK 16), .bool (shapeK 16).known]) (by simp [results, Tryz.results47, go_sem, shpV, shapeK]) rfl ⟨rfl, (Below.refl _ _).alloc (Nat.le_refl _) _⟩
set_option maxRecDepth 100000 in
set_option maxHeartbeats 16000000 in
theorem shape_17 (w : World) : Calls Tryz.prog 47 #[.int .i64 17] w fun e w' => e = .returned (.tuple #[shpV (shapeK 17), .bool (shapeK 17).known]) ∧ Below w.heap.size w w' := by
 go_enter Tryz.func47, Tryz.ntmps47
 go_wp2_with fail
 exact bodyPost_ret (v := .tuple #[shpV (shapeK 17), .bool (shapeK 17).known]) (by simp [results, Tryz.results47, go_sem, shpV, shapeK]) rfl ⟨rfl, (Below.refl _ _).alloc (Nat.le_refl _) _⟩
set_option maxRecDepth 100000 in
set_option maxHeartbeats 16000000 in
theorem shape_18 (w : World) : Calls Tryz.prog 47 #[.int .i64 18] w fun e w' => e = .returned (.tuple #[shpV (shapeK 18), .bool (shapeK 18).known]) ∧ Below w.heap.size w w' := by
 go_enter Tryz.func47, Tryz.ntmps47
 go_wp2_with fail
 exact bodyPost_ret (v := .tuple #[shpV (shapeK 18), .bool (shapeK 18).known]) (by simp [results, Tryz.results47, go_sem, shpV, shapeK]) rfl ⟨rfl, (Below.refl _ _).alloc (Nat.le_refl _) _⟩
set_option maxRecDepth 100000 in
set_option maxHeartbeats 16000000 in
theorem shape_19 (w : World) : Calls Tryz.prog 47 #[.int .i64 19] w fun e w' => e = .returned (.tuple #[shpV (shapeK 19), .bool (shapeK 19).known]) ∧ Below w.heap.size w w' := by
 go_enter Tryz.func47, Tryz.ntmps47
 go_wp2_with fail
 exact bodyPost_ret (v := .tuple #[shpV (shapeK 19), .bool (shapeK 19).known]) (by simp [results, Tryz.results47, go_sem, shpV, shapeK]) rfl ⟨rfl, (Below.refl _ _).alloc (Nat.le_refl _) _⟩
set_option maxRecDepth 100000 in
set_option maxHeartbeats 16000000 in
theorem shape_20 (w : World) : Calls Tryz.prog 47 #[.int .i64 20] w fun e w' => e = .returned (.tuple #[shpV (shapeK 20), .bool (shapeK 20).known]) ∧ Below w.heap.size w w' := by
 go_enter Tryz.func47, Tryz.ntmps47
 go_wp2_with fail
 exact bodyPost_ret (v := .tuple #[shpV (shapeK 20), .bool (shapeK 20).known]) (by simp [results, Tryz.results47, go_sem, shpV, shapeK]) rfl ⟨rfl, (Below.refl _ _).alloc (Nat.le_refl _) _⟩
set_option maxRecDepth 100000 in
set_option maxHeartbeats 16000000 in
theorem shape_21 (w : World) : Calls Tryz.prog 47 #[.int .i64 21] w fun e w' => e = .returned (.tuple #[shpV (shapeK 21), .bool (shapeK 21).known]) ∧ Below w.heap.size w w' := by
 go_enter Tryz.func47, Tryz.ntmps47
 go_wp2_with fail
 exact bodyPost_ret (v := .tuple #[shpV (shapeK 21), .bool (shapeK 21).known]) (by simp [results, Tryz.results47, go_sem, shpV, shapeK]) rfl ⟨rfl, (Below.refl _ _).alloc (Nat.le_refl _) _⟩
set_option maxRecDepth 100000 in
set_option maxHeartbeats 16000000 in
theorem shape_22 (w : World) : Calls Tryz.prog 47 #[.int .i64 22] w fun e w' => e = .returned (.tuple #[shpV (shapeK 22), .bool (shapeK 22).known]) ∧ Below w.heap.size w w' := by
 go_enter Tryz.func47, Tryz.ntmps47
 go_wp2_with fail
 exact bodyPost_ret (v := .tuple #[shpV (shapeK 22), .bool (shapeK 22).known]) (by simp [results, Tryz.results47, go_sem, shpV, shapeK]) rfl ⟨rfl, (Below.refl _ _).alloc (Nat.le_refl _) _⟩
set_option maxRecDepth 100000 in
set_option maxHeartbeats 16000000 in
theorem shape_23 (w : World) : Calls Tryz.prog 47 #[.int .i64 23] w fun e w' => e = .returned (.tuple #[shpV (shapeK 23), .bool (shapeK 23).known]) ∧ Below w.heap.size w w' := by
 go_enter Tryz.func47, Tryz.ntmps47
 go_wp2_with fail
 exact bodyPost_ret (v := .tuple #[shpV (shapeK 23), .bool (shapeK 23).known]) (by simp [results, Tryz.results47, go_sem, shpV, shapeK]) rfl ⟨rfl, (Below.refl _ _).alloc (Nat.le_refl _) _⟩
set_option maxRecDepth 100000 in
set_option maxHeartbeats 16000000 in
theorem shape_no (k : Int) (w : World) (hk : k < 1 ∨ 23 < k) : Calls Tryz.prog 47 #[.int .i64 k] w fun e w' => e = .returned (.tuple #[shpV (shapeK k), .bool (shapeK k).known]) ∧ Below w.heap.size w w' := by
 have HS : Hid (shapeK k = ⟨false, false, false, false, 0, 0, false⟩) := Lib.hid (by
  unfold shapeK
  repeat rw [if_neg (by omega)])
 have t1 : (k == 1) = false := by rw [beq_eq_false_iff_ne]; omega
 have t2 : (k == 2) = false := by rw [beq_eq_false_iff_ne]; omega
 have t3 : (k == 3) = false := by rw [beq_eq_false_iff_ne]; omega
 have t4 : (k == 4) = false := by rw [beq_eq_false_iff_ne]; omega
 have t5 : (k == 5) = false := by rw [beq_eq_false_iff_ne]; omega
 have t6 : (k == 6) = false := by rw [beq_eq_false_iff_ne]; omega
 have t7 : (k == 7) = false := by rw [beq_eq_false_iff_ne]; omega
 have t8 : (k == 8) = false := by rw [beq_eq_false_iff_ne]; omega
 have t9 : (k == 9) = false := by rw [beq_eq_false_iff_ne]; omega
 have t10 : (k == 10) = false := by rw [beq_eq_false_iff_ne]; omega
 have t11 : (k == 11) = false := by rw [beq_eq_false_iff_ne]; omega
 have t12 : (k == 12) = false := by rw [beq_eq_false_iff_ne]; omega
 have t13 : (k == 13) = false := by rw [beq_eq_false_iff_ne]; omega
 have t14 : (k == 14) = false := by rw [beq_eq_false_iff_ne]; omega
 have t15 : (k == 15) = false := by rw [beq_eq_false_iff_ne]; omega
 have t16 : (k == 16) = false := by rw [beq_eq_false_iff_ne]; omega
 have t17 : (k == 17) = false := by rw [beq_eq_false_iff_ne]; omega
 have t18 : (k == 18) = false := by rw [beq_eq_false_iff_ne]; omega
 have t19 : (k == 19) = false := by rw [beq_eq_false_iff_ne]; omega
 have t20 : (k == 20) = false := by rw [beq_eq_false_iff_ne]; omega
 have t21 : (k == 21) = false := by rw [beq_eq_false_iff_ne]; omega
 have t22 : (k == 22) = false := by rw [beq_eq_false_iff_ne]; omega
 have t23 : (k == 23) = false := by rw [beq_eq_false_iff_ne]; omega
 rw [HS.out]
 clear hk
 go_enter Tryz.func47, Tryz.ntmps47
 go_wp2_with fail
 exact bodyPost_ret (v := .tuple #[shpV ⟨false, false, false, false, 0, 0, false⟩, .bool false]) (by simp [results, Tryz.results47, go_sem, shpV]) rfl ⟨rfl, (Below.refl _ _).alloc (Nat.le_refl _) _⟩
theorem shape_any (k : Int) (w : World) : Calls Tryz.prog 47 #[.int .i64 k] w fun e w' => e = .returned (.tuple #[shpV (shapeK k), .bool (shapeK k).known]) ∧ Below w.heap.size w w' := by
 by_cases h : k < 1 ∨ 23 < k
 ·exact shape_no k w h
 ·have : k = 1 ∨ k = 2 ∨ k = 3 ∨ k = 4 ∨ k = 5 ∨ k = 6 ∨ k = 7 ∨ k = 8 ∨ k = 9 ∨ k = 10 ∨ k = 11 ∨ k = 12 ∨ k = 13 ∨ k = 14 ∨ k = 15 ∨ k = 16 ∨ k = 17 ∨ k = 18 ∨ k = 19 ∨ k = 20 ∨ k = 21 ∨ k = 22 ∨ k = 23 := by omega
  rcases this with rfl | rfl | rfl | rfl | rfl | rfl | rfl | rfl | rfl | rfl | rfl | rfl | rfl | rfl | rfl | rfl | rfl | rfl | rfl | rfl | rfl | rfl | rfl
  ·exact shape_1 w
  ·exact shape_2 w
  ·exact shape_3 w
  ·exact shape_4 w
  ·exact shape_5 w
  ·exact shape_6 w
  ·exact shape_7 w
  ·exact shape_8 w
  ·exact shape_9 w
  ·exact shape_10 w
  ·exact shape_11 w
  ·exact shape_12 w
  ·exact shape_13 w
  ·exact shape_14 w
  ·exact shape_15 w
  ·exact shape_16 w
  ·exact shape_17 w
  ·exact shape_18 w
  ·exact shape_19 w
  ·exact shape_20 w
  ·exact shape_21 w
  ·exact shape_22 w
  ·exact shape_23 w
theorem drewN_below {B : Nat} {a w : World} (h : Below B a w) : ∀ n, Below B a (w.drewN n)
 | 0 => h
 | n + 1 => (drewN_below h n).drew
def fitsB (s : Shp) (t : ByteArray) (n : Int) (np nf nv : Nat) : Bool :=
 !((!s.t && !(t.toList == [])) || (!s.n && n != 0) || (!s.f && decide (0 < nf)) || (!s.v && decide (0 < nv))) && (decide (s.lo ≤ (np : Int)) && (s.hi == -1 || decide ((np : Int) ≤ s.hi)))
end Go.Proofs.YtfchnfnifpopnaaGreatDoor
