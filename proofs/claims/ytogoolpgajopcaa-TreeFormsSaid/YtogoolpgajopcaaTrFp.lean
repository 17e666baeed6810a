import Derived.Test.YtogoolpgajopcaaTrFo
namespace Go.Proofs.Ytogoolpgajopcaa
open Go.RowKit
set_option maxRecDepth 100000 in
set_option maxHeartbeats 4000000 in
theorem times_Type (F : Fo) (hall : AllC (FunP 11 (·.ty)) F) (q : Int) {g i : Nat} {A : Option Addr} {c B : Nat} {W : World} (h : Wk g i F A c B W) (hi : i ≤ F.len) (hlc : F.len ≤ c) (hcc : c ≤ 1000000000000000) :
    Calls Try.prog 75 #[.pointer (some ⟨g, 0, none⟩), .int .i64 q, .func (.func 11) #[] #[]] W fun e w' => ∃ b, e = .returned (.bool b) ∧ b = timesB (·.ty) (F.inf.drop i) q ∧ (b = true → Wk g (i + q.toNat) F A c B w') ∧ Below B W w' := by
  have c0 := h.c0
  have c1 := h.c1
  have hl : F.len ≤ 1000000000000000 := by omega
  have HW := Lib.hid h
  by_cases hq0 : q < 0
  · have HT : Hid (false = timesB (·.ty) (F.inf.drop i) q) := Lib.hid (by unfold timesB; rw [decide_eq_false (by omega)]; rfl)
    have tq : decide (q < 0) = true := by simpa using hq0
    clear h hall
    go_enter Try.func75, Try.ntmps75
    go_wp2_with fail
    go_quiet (fail)
    go_wp2_with fail
    go_ret
    exact ⟨false, rfl, HT.out, fun h => (by cases h), below_drewN (Below.refl _ _) _⟩
  have tq : decide (q < 0) = false := by simpa using hq0
  by_cases hq1 : (F.len : Int) - i < q
  · have HT : Hid (false = timesB (·.ty) (F.inf.drop i) q) := Lib.hid (by unfold timesB; rw [List.length_drop, inf_len, decide_eq_false (by omega)]; rfl)
    have tq1 : decide ((F.len : Int) - (i : Int) < q) = true := by simpa using hq1
    clear h hall
    go_enter Try.func75, Try.ntmps75
    go_wp2_with fail
    go_quiet (fail)
    go_wp2_with fail
    go_ret
    exact ⟨false, rfl, HT.out, fun h => (by cases h), below_drewN (Below.refl _ _) _⟩
  obtain ⟨x, rfl⟩ : ∃ x : Nat, q = x := ⟨q.toNat, by omega⟩
  have tq1 : decide ((F.len : Int) - (i : Int) < (x : Int)) = false := by simpa using hq1
  have hxF : i + x ≤ F.len := by omega
  have HT : Hid (timesB (·.ty) (F.inf.drop i) x = ((F.inf.drop i).take x).all (·.ty)) := Lib.hid (by
    unfold timesB; rw [List.length_drop, inf_len, decide_eq_true (by omega)]; simp)
  rw [HT.out]
  have HA := Lib.hid hall
  clear h hall hq0 hq1
  go_enter Try.func75, Try.ntmps75
  go_wp2_with fail
  go_quiet (fail)
  go_wp2_with fail
  clear c0 c1 tq tq1
  go_loopw [25] (fun v wr => ∃ j : Nat, j ≤ x ∧ v = .int .i64 j ∧ Wk g (i + j) F A c B wr ∧ ((F.inf.drop i).take j).all (·.ty) = true ∧ Below B W wr) (fun v _ => x - (intOf v).toNat)
  case atStart => exact ⟨0, by omega, by go_num, HW.out.later (below_drewN (Below.refl _ _) _), rfl, below_drewN (Below.refl _ _) _⟩
  case round =>
    obtain ⟨j, hj, rfl, hWk, ha, hB⟩ := hrel
    have HWk := Lib.hid hWk
    have HAl := Lib.hid ha
    have HBw := Lib.hid hB
    clear ha hB
    by_cases hlt : j < x
    · obtain ⟨k1, t1, n1, m1, a1, Q1, ad, A1, d1, R1, rfl, hd1, hR1, hP1⟩ := part_at (hWk.hold.more (by have := hWk.lt; have := hWk.ge; omega)) (j := i + j) (by omega)
      have K := Lib.hid (hP1.good _ _ HA.out)
      have MK := Lib.hid (fun w' (h : BD wr w') => (⟨h, (hWk.later h).c0, (hWk.later h).c1, hP1.cells w' h⟩ : BD wr w' ∧ w'.cell? ⟨g, 0, none⟩ = some (.int .i64 ((i + j : Nat) : Int)) ∧ w'.cell? ⟨g, 1, none⟩ = some (.slice (some ad) F.len c) ∧ At6 w' (ad.add ((i + j) * 6)) k1 t1 n1 m1 a1 Q1.len A1 d1))
      have HS : Hid (((F.inf.drop i).take (j + 1)).all (·.ty) = (mk k1 t1 n1 m1 Q1.inf).ty) := Lib.hid (by
        have e : (F.inf.drop i)[j]? = some (mk k1 t1 n1 m1 Q1.inf) := by
          rw [List.getElem?_drop]
          have := congrArg List.head? hd1
          simpa using this
        rw [List.take_add_one, e, List.all_append, HAl.out]; simp)
      have B0 := MK.out wr (Below.refl _ _)
      have hjF : i + j < F.len := by omega
      have hIJ : (i : Int) + (j : Int) < (F.len : Int) := by omega
      have hIJ0 : (0 : Int) ≤ (i : Int) + (j : Int) := by omega
      have hIJ2 : ((i : Int) + (j : Int)).toNat = i + j := by omega
      clear hWk hd1 hR1 hP1 hj
      generalize (mk k1 t1 n1 m1 Q1.inf).ty = o at *
      generalize Q1.len = x1 at *
      unfold At6 at MK B0
      cases o with
      | false =>
        go_wp2_with fail
        go_region_held3 (fun w' => BD wr w' ∧ w'.cell? ⟨g, 0, none⟩ = some (.int .i64 ((i + j : Nat) : Int)) ∧ w'.cell? ⟨g, 1, none⟩ = some (.slice (some ad) F.len c) ∧ w'.cell? (ad.add ((i + j) * 6)) = some (.int .i64 k1) ∧ w'.cell? ⟨(ad.add ((i + j) * 6)).block, (ad.add ((i + j) * 6)).off + 1, none⟩ = some (.string t1) ∧ w'.cell? ⟨(ad.add ((i + j) * 6)).block, (ad.add ((i + j) * 6)).off + 2, none⟩ = some (.int .i64 n1) ∧ w'.cell? ⟨(ad.add ((i + j) * 6)).block, (ad.add ((i + j) * 6)).off + 3, none⟩ = some (.int .i64 m1) ∧ w'.cell? ⟨(ad.add ((i + j) * 6)).block, (ad.add ((i + j) * 6)).off + 4, none⟩ = some (.int .i64 a1) ∧ w'.cell? ⟨(ad.add ((i + j) * 6)).block, (ad.add ((i + j) * 6)).off + 5, none⟩ = some (.slice A1 x1 d1))
          (first | exact B0 | exact MK.out _ (Below.drew (Below.refl _ _)) | exact MK.out _ (by assumption) | exact MK.out _ (below_step (And.left (by assumption)) (by assumption)) | exact MK.out _ (below_step (by assumption) (by assumption)))
          (first | (go_at_call 11; refine (K.out _ ?_).mono ?_; (first | exact And.left (by assumption) | exact Below.refl _ _ | exact Below.drew (Below.refl _ _) | assumption); rintro e w' ⟨rfl, hb⟩))
        rename_i w5 hS
        have HS5 := Lib.hid hS.1
        clear hS B0
        go_wp2_with fail
        go_ret
        exact ⟨false, rfl, (take_all_false HS.out (by omega)).symm, fun h => (by cases h), below_trans HBw.out HS5.out (by have := HWk.out.lt; have := HWk.out.ge; omega)⟩
      | true =>
        go_wp2_with fail
        go_region_held3 (fun w' => BD wr w' ∧ w'.cell? ⟨g, 0, none⟩ = some (.int .i64 ((i + j : Nat) : Int)) ∧ w'.cell? ⟨g, 1, none⟩ = some (.slice (some ad) F.len c) ∧ w'.cell? (ad.add ((i + j) * 6)) = some (.int .i64 k1) ∧ w'.cell? ⟨(ad.add ((i + j) * 6)).block, (ad.add ((i + j) * 6)).off + 1, none⟩ = some (.string t1) ∧ w'.cell? ⟨(ad.add ((i + j) * 6)).block, (ad.add ((i + j) * 6)).off + 2, none⟩ = some (.int .i64 n1) ∧ w'.cell? ⟨(ad.add ((i + j) * 6)).block, (ad.add ((i + j) * 6)).off + 3, none⟩ = some (.int .i64 m1) ∧ w'.cell? ⟨(ad.add ((i + j) * 6)).block, (ad.add ((i + j) * 6)).off + 4, none⟩ = some (.int .i64 a1) ∧ w'.cell? ⟨(ad.add ((i + j) * 6)).block, (ad.add ((i + j) * 6)).off + 5, none⟩ = some (.slice A1 x1 d1))
          (first | exact B0 | exact MK.out _ (Below.drew (Below.refl _ _)) | exact MK.out _ (by assumption) | exact MK.out _ (below_step (And.left (by assumption)) (by assumption)) | exact MK.out _ (below_step (by assumption) (by assumption)))
          (first | (go_at_call 11; refine (K.out _ ?_).mono ?_; (first | exact And.left (by assumption) | exact Below.refl _ _ | exact Below.drew (Below.refl _ _) | assumption); rintro e w' ⟨rfl, hb⟩))
        rename_i w5 hS
        have HS5 := Lib.hid hS.1
        clear hS B0
        have KS := Lib.hid (step_any (HWk.out.later HS5.out) (by omega))
        go_wp2_with fail
        refine KS.out.mono ?_
        rintro e w6 ⟨rfl, hk6, hb6⟩
        have HK6 := Lib.hid hk6
        have HB6 := Lib.hid ((below_trans HBw.out HS5.out (by have := HWk.out.lt; have := HWk.out.ge; omega)).trans hb6)
        clear hk6 hb6
        go_wp2_with fail
        go_roundw
        case rel => exact ⟨j + 1, by omega, by go_num, HK6.out, HS.out, HB6.out⟩
        case measure => simp [intOf]; omega
    · obtain rfl : j = x := by omega
      clear hWk
      have tj : decide ((j : Int) < (j : Int)) = false := by simp
      go_wp2_with fail
      go_ret
      exact ⟨true, rfl, HAl.out.symm, fun _ => by simpa using HWk.out, HBw.out⟩
set_option maxRecDepth 100000 in
set_option maxHeartbeats 4000000 in
theorem times_param (F : Fo) (hall : AllC (FunP 35 (·.par)) F) (q : Int) {g i : Nat} {A : Option Addr} {c B : Nat} {W : World} (h : Wk g i F A c B W) (hi : i ≤ F.len) (hlc : F.len ≤ c) (hcc : c ≤ 1000000000000000) :
    Calls Try.prog 75 #[.pointer (some ⟨g, 0, none⟩), .int .i64 q, .func (.func 35) #[] #[]] W fun e w' => ∃ b, e = .returned (.bool b) ∧ b = timesB (·.par) (F.inf.drop i) q ∧ (b = true → Wk g (i + q.toNat) F A c B w') ∧ Below B W w' := by
  have c0 := h.c0
  have c1 := h.c1
  have hl : F.len ≤ 1000000000000000 := by omega
  have HW := Lib.hid h
  by_cases hq0 : q < 0
  · have HT : Hid (false = timesB (·.par) (F.inf.drop i) q) := Lib.hid (by unfold timesB; rw [decide_eq_false (by omega)]; rfl)
    have tq : decide (q < 0) = true := by simpa using hq0
    clear h hall
    go_enter Try.func75, Try.ntmps75
    go_wp2_with fail
    go_quiet (fail)
    go_wp2_with fail
    go_ret
    exact ⟨false, rfl, HT.out, fun h => (by cases h), below_drewN (Below.refl _ _) _⟩
  have tq : decide (q < 0) = false := by simpa using hq0
  by_cases hq1 : (F.len : Int) - i < q
  · have HT : Hid (false = timesB (·.par) (F.inf.drop i) q) := Lib.hid (by unfold timesB; rw [List.length_drop, inf_len, decide_eq_false (by omega)]; rfl)
    have tq1 : decide ((F.len : Int) - (i : Int) < q) = true := by simpa using hq1
    clear h hall
    go_enter Try.func75, Try.ntmps75
    go_wp2_with fail
    go_quiet (fail)
    go_wp2_with fail
    go_ret
    exact ⟨false, rfl, HT.out, fun h => (by cases h), below_drewN (Below.refl _ _) _⟩
  obtain ⟨x, rfl⟩ : ∃ x : Nat, q = x := ⟨q.toNat, by omega⟩
  have tq1 : decide ((F.len : Int) - (i : Int) < (x : Int)) = false := by simpa using hq1
  have hxF : i + x ≤ F.len := by omega
  have HT : Hid (timesB (·.par) (F.inf.drop i) x = ((F.inf.drop i).take x).all (·.par)) := Lib.hid (by
    unfold timesB; rw [List.length_drop, inf_len, decide_eq_true (by omega)]; simp)
  rw [HT.out]
  have HA := Lib.hid hall
  clear h hall hq0 hq1
  go_enter Try.func75, Try.ntmps75
  go_wp2_with fail
  go_quiet (fail)
  go_wp2_with fail
  clear c0 c1 tq tq1
  go_loopw [25] (fun v wr => ∃ j : Nat, j ≤ x ∧ v = .int .i64 j ∧ Wk g (i + j) F A c B wr ∧ ((F.inf.drop i).take j).all (·.par) = true ∧ Below B W wr) (fun v _ => x - (intOf v).toNat)
  case atStart => exact ⟨0, by omega, by go_num, HW.out.later (below_drewN (Below.refl _ _) _), rfl, below_drewN (Below.refl _ _) _⟩
  case round =>
    obtain ⟨j, hj, rfl, hWk, ha, hB⟩ := hrel
    have HWk := Lib.hid hWk
    have HAl := Lib.hid ha
    have HBw := Lib.hid hB
    clear ha hB
    by_cases hlt : j < x
    · obtain ⟨k1, t1, n1, m1, a1, Q1, ad, A1, d1, R1, rfl, hd1, hR1, hP1⟩ := part_at (hWk.hold.more (by have := hWk.lt; have := hWk.ge; omega)) (j := i + j) (by omega)
      have K := Lib.hid (hP1.good _ _ HA.out)
      have MK := Lib.hid (fun w' (h : BD wr w') => (⟨h, (hWk.later h).c0, (hWk.later h).c1, hP1.cells w' h⟩ : BD wr w' ∧ w'.cell? ⟨g, 0, none⟩ = some (.int .i64 ((i + j : Nat) : Int)) ∧ w'.cell? ⟨g, 1, none⟩ = some (.slice (some ad) F.len c) ∧ At6 w' (ad.add ((i + j) * 6)) k1 t1 n1 m1 a1 Q1.len A1 d1))
      have HS : Hid (((F.inf.drop i).take (j + 1)).all (·.par) = (mk k1 t1 n1 m1 Q1.inf).par) := Lib.hid (by
        have e : (F.inf.drop i)[j]? = some (mk k1 t1 n1 m1 Q1.inf) := by
          rw [List.getElem?_drop]
          have := congrArg List.head? hd1
          simpa using this
        rw [List.take_add_one, e, List.all_append, HAl.out]; simp)
      have B0 := MK.out wr (Below.refl _ _)
      have hjF : i + j < F.len := by omega
      have hIJ : (i : Int) + (j : Int) < (F.len : Int) := by omega
      have hIJ0 : (0 : Int) ≤ (i : Int) + (j : Int) := by omega
      have hIJ2 : ((i : Int) + (j : Int)).toNat = i + j := by omega
      clear hWk hd1 hR1 hP1 hj
      generalize (mk k1 t1 n1 m1 Q1.inf).par = o at *
      generalize Q1.len = x1 at *
      unfold At6 at MK B0
      cases o with
      | false =>
        go_wp2_with fail
        go_region_held3 (fun w' => BD wr w' ∧ w'.cell? ⟨g, 0, none⟩ = some (.int .i64 ((i + j : Nat) : Int)) ∧ w'.cell? ⟨g, 1, none⟩ = some (.slice (some ad) F.len c) ∧ w'.cell? (ad.add ((i + j) * 6)) = some (.int .i64 k1) ∧ w'.cell? ⟨(ad.add ((i + j) * 6)).block, (ad.add ((i + j) * 6)).off + 1, none⟩ = some (.string t1) ∧ w'.cell? ⟨(ad.add ((i + j) * 6)).block, (ad.add ((i + j) * 6)).off + 2, none⟩ = some (.int .i64 n1) ∧ w'.cell? ⟨(ad.add ((i + j) * 6)).block, (ad.add ((i + j) * 6)).off + 3, none⟩ = some (.int .i64 m1) ∧ w'.cell? ⟨(ad.add ((i + j) * 6)).block, (ad.add ((i + j) * 6)).off + 4, none⟩ = some (.int .i64 a1) ∧ w'.cell? ⟨(ad.add ((i + j) * 6)).block, (ad.add ((i + j) * 6)).off + 5, none⟩ = some (.slice A1 x1 d1))
          (first | exact B0 | exact MK.out _ (Below.drew (Below.refl _ _)) | exact MK.out _ (by assumption) | exact MK.out _ (below_step (And.left (by assumption)) (by assumption)) | exact MK.out _ (below_step (by assumption) (by assumption)))
          (first | (go_at_call 35; refine (K.out _ ?_).mono ?_; (first | exact And.left (by assumption) | exact Below.refl _ _ | exact Below.drew (Below.refl _ _) | assumption); rintro e w' ⟨rfl, hb⟩))
        rename_i w5 hS
        have HS5 := Lib.hid hS.1
        clear hS B0
        go_wp2_with fail
        go_ret
        exact ⟨false, rfl, (take_all_false HS.out (by omega)).symm, fun h => (by cases h), below_trans HBw.out HS5.out (by have := HWk.out.lt; have := HWk.out.ge; omega)⟩
      | true =>
        go_wp2_with fail
        go_region_held3 (fun w' => BD wr w' ∧ w'.cell? ⟨g, 0, none⟩ = some (.int .i64 ((i + j : Nat) : Int)) ∧ w'.cell? ⟨g, 1, none⟩ = some (.slice (some ad) F.len c) ∧ w'.cell? (ad.add ((i + j) * 6)) = some (.int .i64 k1) ∧ w'.cell? ⟨(ad.add ((i + j) * 6)).block, (ad.add ((i + j) * 6)).off + 1, none⟩ = some (.string t1) ∧ w'.cell? ⟨(ad.add ((i + j) * 6)).block, (ad.add ((i + j) * 6)).off + 2, none⟩ = some (.int .i64 n1) ∧ w'.cell? ⟨(ad.add ((i + j) * 6)).block, (ad.add ((i + j) * 6)).off + 3, none⟩ = some (.int .i64 m1) ∧ w'.cell? ⟨(ad.add ((i + j) * 6)).block, (ad.add ((i + j) * 6)).off + 4, none⟩ = some (.int .i64 a1) ∧ w'.cell? ⟨(ad.add ((i + j) * 6)).block, (ad.add ((i + j) * 6)).off + 5, none⟩ = some (.slice A1 x1 d1))
          (first | exact B0 | exact MK.out _ (Below.drew (Below.refl _ _)) | exact MK.out _ (by assumption) | exact MK.out _ (below_step (And.left (by assumption)) (by assumption)) | exact MK.out _ (below_step (by assumption) (by assumption)))
          (first | (go_at_call 35; refine (K.out _ ?_).mono ?_; (first | exact And.left (by assumption) | exact Below.refl _ _ | exact Below.drew (Below.refl _ _) | assumption); rintro e w' ⟨rfl, hb⟩))
        rename_i w5 hS
        have HS5 := Lib.hid hS.1
        clear hS B0
        have KS := Lib.hid (step_any (HWk.out.later HS5.out) (by omega))
        go_wp2_with fail
        refine KS.out.mono ?_
        rintro e w6 ⟨rfl, hk6, hb6⟩
        have HK6 := Lib.hid hk6
        have HB6 := Lib.hid ((below_trans HBw.out HS5.out (by have := HWk.out.lt; have := HWk.out.ge; omega)).trans hb6)
        clear hk6 hb6
        go_wp2_with fail
        go_roundw
        case rel => exact ⟨j + 1, by omega, by go_num, HK6.out, HS.out, HB6.out⟩
        case measure => simp [intOf]; omega
    · obtain rfl : j = x := by omega
      clear hWk
      have tj : decide ((j : Int) < (j : Int)) = false := by simp
      go_wp2_with fail
      go_ret
      exact ⟨true, rfl, HAl.out.symm, fun _ => by simpa using HWk.out, HBw.out⟩
set_option maxRecDepth 100000 in
set_option maxHeartbeats 4000000 in
theorem times_Expr (F : Fo) (hall : AllC (FunP 13 (·.ex)) F) (q : Int) {g i : Nat} {A : Option Addr} {c B : Nat} {W : World} (h : Wk g i F A c B W) (hi : i ≤ F.len) (hlc : F.len ≤ c) (hcc : c ≤ 1000000000000000) :
    Calls Try.prog 75 #[.pointer (some ⟨g, 0, none⟩), .int .i64 q, .func (.func 13) #[] #[]] W fun e w' => ∃ b, e = .returned (.bool b) ∧ b = timesB (·.ex) (F.inf.drop i) q ∧ (b = true → Wk g (i + q.toNat) F A c B w') ∧ Below B W w' := by
  have c0 := h.c0
  have c1 := h.c1
  have hl : F.len ≤ 1000000000000000 := by omega
  have HW := Lib.hid h
  by_cases hq0 : q < 0
  · have HT : Hid (false = timesB (·.ex) (F.inf.drop i) q) := Lib.hid (by unfold timesB; rw [decide_eq_false (by omega)]; rfl)
    have tq : decide (q < 0) = true := by simpa using hq0
    clear h hall
    go_enter Try.func75, Try.ntmps75
    go_wp2_with fail
    go_quiet (fail)
    go_wp2_with fail
    go_ret
    exact ⟨false, rfl, HT.out, fun h => (by cases h), below_drewN (Below.refl _ _) _⟩
  have tq : decide (q < 0) = false := by simpa using hq0
  by_cases hq1 : (F.len : Int) - i < q
  · have HT : Hid (false = timesB (·.ex) (F.inf.drop i) q) := Lib.hid (by unfold timesB; rw [List.length_drop, inf_len, decide_eq_false (by omega)]; rfl)
    have tq1 : decide ((F.len : Int) - (i : Int) < q) = true := by simpa using hq1
    clear h hall
    go_enter Try.func75, Try.ntmps75
    go_wp2_with fail
    go_quiet (fail)
    go_wp2_with fail
    go_ret
    exact ⟨false, rfl, HT.out, fun h => (by cases h), below_drewN (Below.refl _ _) _⟩
  obtain ⟨x, rfl⟩ : ∃ x : Nat, q = x := ⟨q.toNat, by omega⟩
  have tq1 : decide ((F.len : Int) - (i : Int) < (x : Int)) = false := by simpa using hq1
  have hxF : i + x ≤ F.len := by omega
  have HT : Hid (timesB (·.ex) (F.inf.drop i) x = ((F.inf.drop i).take x).all (·.ex)) := Lib.hid (by
    unfold timesB; rw [List.length_drop, inf_len, decide_eq_true (by omega)]; simp)
  rw [HT.out]
  have HA := Lib.hid hall
  clear h hall hq0 hq1
  go_enter Try.func75, Try.ntmps75
  go_wp2_with fail
  go_quiet (fail)
  go_wp2_with fail
  clear c0 c1 tq tq1
  go_loopw [25] (fun v wr => ∃ j : Nat, j ≤ x ∧ v = .int .i64 j ∧ Wk g (i + j) F A c B wr ∧ ((F.inf.drop i).take j).all (·.ex) = true ∧ Below B W wr) (fun v _ => x - (intOf v).toNat)
  case atStart => exact ⟨0, by omega, by go_num, HW.out.later (below_drewN (Below.refl _ _) _), rfl, below_drewN (Below.refl _ _) _⟩
  case round =>
    obtain ⟨j, hj, rfl, hWk, ha, hB⟩ := hrel
    have HWk := Lib.hid hWk
    have HAl := Lib.hid ha
    have HBw := Lib.hid hB
    clear ha hB
    by_cases hlt : j < x
    · obtain ⟨k1, t1, n1, m1, a1, Q1, ad, A1, d1, R1, rfl, hd1, hR1, hP1⟩ := part_at (hWk.hold.more (by have := hWk.lt; have := hWk.ge; omega)) (j := i + j) (by omega)
      have K := Lib.hid (hP1.good _ _ HA.out)
      have MK := Lib.hid (fun w' (h : BD wr w') => (⟨h, (hWk.later h).c0, (hWk.later h).c1, hP1.cells w' h⟩ : BD wr w' ∧ w'.cell? ⟨g, 0, none⟩ = some (.int .i64 ((i + j : Nat) : Int)) ∧ w'.cell? ⟨g, 1, none⟩ = some (.slice (some ad) F.len c) ∧ At6 w' (ad.add ((i + j) * 6)) k1 t1 n1 m1 a1 Q1.len A1 d1))
      have HS : Hid (((F.inf.drop i).take (j + 1)).all (·.ex) = (mk k1 t1 n1 m1 Q1.inf).ex) := Lib.hid (by
        have e : (F.inf.drop i)[j]? = some (mk k1 t1 n1 m1 Q1.inf) := by
          rw [List.getElem?_drop]
          have := congrArg List.head? hd1
          simpa using this
        rw [List.take_add_one, e, List.all_append, HAl.out]; simp)
      have B0 := MK.out wr (Below.refl _ _)
      have hjF : i + j < F.len := by omega
      have hIJ : (i : Int) + (j : Int) < (F.len : Int) := by omega
      have hIJ0 : (0 : Int) ≤ (i : Int) + (j : Int) := by omega
      have hIJ2 : ((i : Int) + (j : Int)).toNat = i + j := by omega
      clear hWk hd1 hR1 hP1 hj
      generalize (mk k1 t1 n1 m1 Q1.inf).ex = o at *
      generalize Q1.len = x1 at *
      unfold At6 at MK B0
      cases o with
      | false =>
        go_wp2_with fail
        go_region_held3 (fun w' => BD wr w' ∧ w'.cell? ⟨g, 0, none⟩ = some (.int .i64 ((i + j : Nat) : Int)) ∧ w'.cell? ⟨g, 1, none⟩ = some (.slice (some ad) F.len c) ∧ w'.cell? (ad.add ((i + j) * 6)) = some (.int .i64 k1) ∧ w'.cell? ⟨(ad.add ((i + j) * 6)).block, (ad.add ((i + j) * 6)).off + 1, none⟩ = some (.string t1) ∧ w'.cell? ⟨(ad.add ((i + j) * 6)).block, (ad.add ((i + j) * 6)).off + 2, none⟩ = some (.int .i64 n1) ∧ w'.cell? ⟨(ad.add ((i + j) * 6)).block, (ad.add ((i + j) * 6)).off + 3, none⟩ = some (.int .i64 m1) ∧ w'.cell? ⟨(ad.add ((i + j) * 6)).block, (ad.add ((i + j) * 6)).off + 4, none⟩ = some (.int .i64 a1) ∧ w'.cell? ⟨(ad.add ((i + j) * 6)).block, (ad.add ((i + j) * 6)).off + 5, none⟩ = some (.slice A1 x1 d1))
          (first | exact B0 | exact MK.out _ (Below.drew (Below.refl _ _)) | exact MK.out _ (by assumption) | exact MK.out _ (below_step (And.left (by assumption)) (by assumption)) | exact MK.out _ (below_step (by assumption) (by assumption)))
          (first | (go_at_call 13; refine (K.out _ ?_).mono ?_; (first | exact And.left (by assumption) | exact Below.refl _ _ | exact Below.drew (Below.refl _ _) | assumption); rintro e w' ⟨rfl, hb⟩))
        rename_i w5 hS
        have HS5 := Lib.hid hS.1
        clear hS B0
        go_wp2_with fail
        go_ret
        exact ⟨false, rfl, (take_all_false HS.out (by omega)).symm, fun h => (by cases h), below_trans HBw.out HS5.out (by have := HWk.out.lt; have := HWk.out.ge; omega)⟩
      | true =>
        go_wp2_with fail
        go_region_held3 (fun w' => BD wr w' ∧ w'.cell? ⟨g, 0, none⟩ = some (.int .i64 ((i + j : Nat) : Int)) ∧ w'.cell? ⟨g, 1, none⟩ = some (.slice (some ad) F.len c) ∧ w'.cell? (ad.add ((i + j) * 6)) = some (.int .i64 k1) ∧ w'.cell? ⟨(ad.add ((i + j) * 6)).block, (ad.add ((i + j) * 6)).off + 1, none⟩ = some (.string t1) ∧ w'.cell? ⟨(ad.add ((i + j) * 6)).block, (ad.add ((i + j) * 6)).off + 2, none⟩ = some (.int .i64 n1) ∧ w'.cell? ⟨(ad.add ((i + j) * 6)).block, (ad.add ((i + j) * 6)).off + 3, none⟩ = some (.int .i64 m1) ∧ w'.cell? ⟨(ad.add ((i + j) * 6)).block, (ad.add ((i + j) * 6)).off + 4, none⟩ = some (.int .i64 a1) ∧ w'.cell? ⟨(ad.add ((i + j) * 6)).block, (ad.add ((i + j) * 6)).off + 5, none⟩ = some (.slice A1 x1 d1))
          (first | exact B0 | exact MK.out _ (Below.drew (Below.refl _ _)) | exact MK.out _ (by assumption) | exact MK.out _ (below_step (And.left (by assumption)) (by assumption)) | exact MK.out _ (below_step (by assumption) (by assumption)))
          (first | (go_at_call 13; refine (K.out _ ?_).mono ?_; (first | exact And.left (by assumption) | exact Below.refl _ _ | exact Below.drew (Below.refl _ _) | assumption); rintro e w' ⟨rfl, hb⟩))
        rename_i w5 hS
        have HS5 := Lib.hid hS.1
        clear hS B0
        have KS := Lib.hid (step_any (HWk.out.later HS5.out) (by omega))
        go_wp2_with fail
        refine KS.out.mono ?_
        rintro e w6 ⟨rfl, hk6, hb6⟩
        have HK6 := Lib.hid hk6
        have HB6 := Lib.hid ((below_trans HBw.out HS5.out (by have := HWk.out.lt; have := HWk.out.ge; omega)).trans hb6)
        clear hk6 hb6
        go_wp2_with fail
        go_roundw
        case rel => exact ⟨j + 1, by omega, by go_num, HK6.out, HS.out, HB6.out⟩
        case measure => simp [intOf]; omega
    · obtain rfl : j = x := by omega
      clear hWk
      have tj : decide ((j : Int) < (j : Int)) = false := by simp
      go_wp2_with fail
      go_ret
      exact ⟨true, rfl, HAl.out.symm, fun _ => by simpa using HWk.out, HBw.out⟩
set_option maxRecDepth 100000 in
set_option maxHeartbeats 4000000 in
theorem times_base (F : Fo) (hall : AllC (FunP 92 (·.base)) F) (q : Int) {g i : Nat} {A : Option Addr} {c B : Nat} {W : World} (h : Wk g i F A c B W) (hi : i ≤ F.len) (hlc : F.len ≤ c) (hcc : c ≤ 1000000000000000) :
    Calls Try.prog 75 #[.pointer (some ⟨g, 0, none⟩), .int .i64 q, .func (.func 92) #[] #[]] W fun e w' => ∃ b, e = .returned (.bool b) ∧ b = timesB (·.base) (F.inf.drop i) q ∧ (b = true → Wk g (i + q.toNat) F A c B w') ∧ Below B W w' := by
  have c0 := h.c0
  have c1 := h.c1
  have hl : F.len ≤ 1000000000000000 := by omega
  have HW := Lib.hid h
  by_cases hq0 : q < 0
  · have HT : Hid (false = timesB (·.base) (F.inf.drop i) q) := Lib.hid (by unfold timesB; rw [decide_eq_false (by omega)]; rfl)
    have tq : decide (q < 0) = true := by simpa using hq0
    clear h hall
    go_enter Try.func75, Try.ntmps75
    go_wp2_with fail
    go_quiet (fail)
    go_wp2_with fail
    go_ret
    exact ⟨false, rfl, HT.out, fun h => (by cases h), below_drewN (Below.refl _ _) _⟩
  have tq : decide (q < 0) = false := by simpa using hq0
  by_cases hq1 : (F.len : Int) - i < q
  · have HT : Hid (false = timesB (·.base) (F.inf.drop i) q) := Lib.hid (by unfold timesB; rw [List.length_drop, inf_len, decide_eq_false (by omega)]; rfl)
    have tq1 : decide ((F.len : Int) - (i : Int) < q) = true := by simpa using hq1
    clear h hall
    go_enter Try.func75, Try.ntmps75
    go_wp2_with fail
    go_quiet (fail)
    go_wp2_with fail
    go_ret
    exact ⟨false, rfl, HT.out, fun h => (by cases h), below_drewN (Below.refl _ _) _⟩
  obtain ⟨x, rfl⟩ : ∃ x : Nat, q = x := ⟨q.toNat, by omega⟩
  have tq1 : decide ((F.len : Int) - (i : Int) < (x : Int)) = false := by simpa using hq1
  have hxF : i + x ≤ F.len := by omega
  have HT : Hid (timesB (·.base) (F.inf.drop i) x = ((F.inf.drop i).take x).all (·.base)) := Lib.hid (by
    unfold timesB; rw [List.length_drop, inf_len, decide_eq_true (by omega)]; simp)
  rw [HT.out]
  have HA := Lib.hid hall
  clear h hall hq0 hq1
  go_enter Try.func75, Try.ntmps75
  go_wp2_with fail
  go_quiet (fail)
  go_wp2_with fail
  clear c0 c1 tq tq1
  go_loopw [25] (fun v wr => ∃ j : Nat, j ≤ x ∧ v = .int .i64 j ∧ Wk g (i + j) F A c B wr ∧ ((F.inf.drop i).take j).all (·.base) = true ∧ Below B W wr) (fun v _ => x - (intOf v).toNat)
  case atStart => exact ⟨0, by omega, by go_num, HW.out.later (below_drewN (Below.refl _ _) _), rfl, below_drewN (Below.refl _ _) _⟩
  case round =>
    obtain ⟨j, hj, rfl, hWk, ha, hB⟩ := hrel
    have HWk := Lib.hid hWk
    have HAl := Lib.hid ha
    have HBw := Lib.hid hB
    clear ha hB
    by_cases hlt : j < x
    · obtain ⟨k1, t1, n1, m1, a1, Q1, ad, A1, d1, R1, rfl, hd1, hR1, hP1⟩ := part_at (hWk.hold.more (by have := hWk.lt; have := hWk.ge; omega)) (j := i + j) (by omega)
      have K := Lib.hid (hP1.good _ _ HA.out)
      have MK := Lib.hid (fun w' (h : BD wr w') => (⟨h, (hWk.later h).c0, (hWk.later h).c1, hP1.cells w' h⟩ : BD wr w' ∧ w'.cell? ⟨g, 0, none⟩ = some (.int .i64 ((i + j : Nat) : Int)) ∧ w'.cell? ⟨g, 1, none⟩ = some (.slice (some ad) F.len c) ∧ At6 w' (ad.add ((i + j) * 6)) k1 t1 n1 m1 a1 Q1.len A1 d1))
      have HS : Hid (((F.inf.drop i).take (j + 1)).all (·.base) = (mk k1 t1 n1 m1 Q1.inf).base) := Lib.hid (by
        have e : (F.inf.drop i)[j]? = some (mk k1 t1 n1 m1 Q1.inf) := by
          rw [List.getElem?_drop]
          have := congrArg List.head? hd1
          simpa using this
        rw [List.take_add_one, e, List.all_append, HAl.out]; simp)
      have B0 := MK.out wr (Below.refl _ _)
      have hjF : i + j < F.len := by omega
      have hIJ : (i : Int) + (j : Int) < (F.len : Int) := by omega
      have hIJ0 : (0 : Int) ≤ (i : Int) + (j : Int) := by omega
      have hIJ2 : ((i : Int) + (j : Int)).toNat = i + j := by omega
      clear hWk hd1 hR1 hP1 hj
      generalize (mk k1 t1 n1 m1 Q1.inf).base = o at *
      generalize Q1.len = x1 at *
      unfold At6 at MK B0
      cases o with
      | false =>
        go_wp2_with fail
        go_region_held3 (fun w' => BD wr w' ∧ w'.cell? ⟨g, 0, none⟩ = some (.int .i64 ((i + j : Nat) : Int)) ∧ w'.cell? ⟨g, 1, none⟩ = some (.slice (some ad) F.len c) ∧ w'.cell? (ad.add ((i + j) * 6)) = some (.int .i64 k1) ∧ w'.cell? ⟨(ad.add ((i + j) * 6)).block, (ad.add ((i + j) * 6)).off + 1, none⟩ = some (.string t1) ∧ w'.cell? ⟨(ad.add ((i + j) * 6)).block, (ad.add ((i + j) * 6)).off + 2, none⟩ = some (.int .i64 n1) ∧ w'.cell? ⟨(ad.add ((i + j) * 6)).block, (ad.add ((i + j) * 6)).off + 3, none⟩ = some (.int .i64 m1) ∧ w'.cell? ⟨(ad.add ((i + j) * 6)).block, (ad.add ((i + j) * 6)).off + 4, none⟩ = some (.int .i64 a1) ∧ w'.cell? ⟨(ad.add ((i + j) * 6)).block, (ad.add ((i + j) * 6)).off + 5, none⟩ = some (.slice A1 x1 d1))
          (first | exact B0 | exact MK.out _ (Below.drew (Below.refl _ _)) | exact MK.out _ (by assumption) | exact MK.out _ (below_step (And.left (by assumption)) (by assumption)) | exact MK.out _ (below_step (by assumption) (by assumption)))
          (first | (go_at_call 92; refine (K.out _ ?_).mono ?_; (first | exact And.left (by assumption) | exact Below.refl _ _ | exact Below.drew (Below.refl _ _) | assumption); rintro e w' ⟨rfl, hb⟩))
        rename_i w5 hS
        have HS5 := Lib.hid hS.1
        clear hS B0
        go_wp2_with fail
        go_ret
        exact ⟨false, rfl, (take_all_false HS.out (by omega)).symm, fun h => (by cases h), below_trans HBw.out HS5.out (by have := HWk.out.lt; have := HWk.out.ge; omega)⟩
      | true =>
        go_wp2_with fail
        go_region_held3 (fun w' => BD wr w' ∧ w'.cell? ⟨g, 0, none⟩ = some (.int .i64 ((i + j : Nat) : Int)) ∧ w'.cell? ⟨g, 1, none⟩ = some (.slice (some ad) F.len c) ∧ w'.cell? (ad.add ((i + j) * 6)) = some (.int .i64 k1) ∧ w'.cell? ⟨(ad.add ((i + j) * 6)).block, (ad.add ((i + j) * 6)).off + 1, none⟩ = some (.string t1) ∧ w'.cell? ⟨(ad.add ((i + j) * 6)).block, (ad.add ((i + j) * 6)).off + 2, none⟩ = some (.int .i64 n1) ∧ w'.cell? ⟨(ad.add ((i + j) * 6)).block, (ad.add ((i + j) * 6)).off + 3, none⟩ = some (.int .i64 m1) ∧ w'.cell? ⟨(ad.add ((i + j) * 6)).block, (ad.add ((i + j) * 6)).off + 4, none⟩ = some (.int .i64 a1) ∧ w'.cell? ⟨(ad.add ((i + j) * 6)).block, (ad.add ((i + j) * 6)).off + 5, none⟩ = some (.slice A1 x1 d1))
          (first | exact B0 | exact MK.out _ (Below.drew (Below.refl _ _)) | exact MK.out _ (by assumption) | exact MK.out _ (below_step (And.left (by assumption)) (by assumption)) | exact MK.out _ (below_step (by assumption) (by assumption)))
          (first | (go_at_call 92; refine (K.out _ ?_).mono ?_; (first | exact And.left (by assumption) | exact Below.refl _ _ | exact Below.drew (Below.refl _ _) | assumption); rintro e w' ⟨rfl, hb⟩))
        rename_i w5 hS
        have HS5 := Lib.hid hS.1
        clear hS B0
        have KS := Lib.hid (step_any (HWk.out.later HS5.out) (by omega))
        go_wp2_with fail
        refine KS.out.mono ?_
        rintro e w6 ⟨rfl, hk6, hb6⟩
        have HK6 := Lib.hid hk6
        have HB6 := Lib.hid ((below_trans HBw.out HS5.out (by have := HWk.out.lt; have := HWk.out.ge; omega)).trans hb6)
        clear hk6 hb6
        go_wp2_with fail
        go_roundw
        case rel => exact ⟨j + 1, by omega, by go_num, HK6.out, HS.out, HB6.out⟩
        case measure => simp [intOf]; omega
    · obtain rfl : j = x := by omega
      clear hWk
      have tj : decide ((j : Int) < (j : Int)) = false := by simp
      go_wp2_with fail
      go_ret
      exact ⟨true, rfl, HAl.out.symm, fun _ => by simpa using HWk.out, HBw.out⟩
end Go.Proofs.Ytogoolpgajopcaa
