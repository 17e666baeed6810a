import Derived.Test.YtogoolpgajopcaaTrFo
import Derived.Deep.LoopGhost
namespace Go.Proofs.Ytogoolpgajopcaa
open Go.RowKit
set_option maxRecDepth 100000 in
set_option maxHeartbeats 4000000 in
theorem while_variable (F : Fo) (hall : AllC (FunP 76 (·.var)) F) {g i0 : Nat} {A : Option Addr} {c B : Nat} {W : World} (h : Wk g i0 F A c B W) (hi0 : i0 ≤ F.len) (hlc : F.len ≤ c) (hcc : c ≤ 1000000000000000) :
    Calls Try.prog 78 #[.pointer (some ⟨g, 0, none⟩), .int .i64 73, .func (.func 76) #[] #[]] W fun e w' => ∃ b, e = .returned (.bool b) ∧ b = runB 73 (·.var) (F.inf.drop i0) ∧ (b = true → Wk g (i0 + runN 73 (F.inf.drop i0)) F A c B w') ∧ Below B W w' := by
  have hl : F.len ≤ 1000000000000000 := by omega
  have HW := Lib.hid h
  have HA := Lib.hid hall
  clear h hall
  go_enter Try.func78, Try.ntmps78
  go_wp2_with fail
  go_loopg [7] (F.len - i0) (fun gk _ wr => ∃ i : Nat, i ≤ F.len ∧ gk = F.len - i ∧ Wk g i F A c B wr ∧ runB 73 (·.var) (F.inf.drop i) = runB 73 (·.var) (F.inf.drop i0) ∧ i + runN 73 (F.inf.drop i) = i0 + runN 73 (F.inf.drop i0) ∧ Below B W wr)
  case atStart => exact ⟨i0, hi0, rfl, HW.out, rfl, rfl, Below.refl _ _⟩
  case round =>
    obtain ⟨i, hi, hgk, hWk, hrb, hrn, hB⟩ := hrel
    have HWk := Lib.hid hWk
    have HBw := Lib.hid hB
    have HRB := Lib.hid hrb
    have HRN := Lib.hid hrn
    have HGK := Lib.hid hgk
    have c0 := hWk.c0
    have c1 := hWk.c1
    clear hB hrb hrn hgk
    by_cases hlt : i < F.len
    case neg =>
      have hil : F.inf.drop i = [] := List.eq_nil_of_length_eq_zero (by simp [inf_len]; omega)
      rw [hil] at HRB HRN
      have tl : decide ((i : Int) < (F.len : Int)) = false := by simp; omega
      have tl2 : decide (i < F.len) = false := by simp; omega
      clear hWk hlt hil
      go_wp2_with fail
      go_quiet (fail)
      go_wp2_with fail
      go_ret
      exact ⟨true, rfl, HRB.out, fun _ => by rw [← HRN.out]; exact HWk.out.later (below_drewN (Below.refl _ _) _), below_drewN HBw.out _⟩
    obtain ⟨k1, t1, n1, m1, a1, Q1, ad, A1, d1, R1, rfl, hd1, hR1, hP1⟩ := part_at (hWk.hold.more (by have := hWk.lt; have := hWk.ge; omega)) (j := i) hlt
    have tl : decide ((i : Int) < (F.len : Int)) = true := by simp; omega
    have tl2 : decide (i < F.len) = true := by simp; omega
    by_cases hk : k1 = 73
    case neg =>
      have tk : (k1 == 73) = false := beq_eq_false_iff_ne.2 hk
      have h0 := (hP1.cells wr (Below.refl _ _)).1
      rw [hd1, show runB 73 (·.var) (mk k1 t1 n1 m1 Q1.inf :: R1) = true by simp [runB, mk, tk]] at HRB
      rw [hd1, show runN 73 (mk k1 t1 n1 m1 Q1.inf :: R1) = 0 by simp [runN, mk, tk]] at HRN
      clear hWk hk hd1 hR1 hP1
      go_wp2_with fail
      go_quiet (fail)
      go_wp2_with fail
      go_ret
      exact ⟨true, rfl, HRB.out, fun _ => by rw [← HRN.out]; exact HWk.out.later (below_drewN (Below.refl _ _) _), below_drewN HBw.out _⟩
    subst hk
    have h0 := (hP1.cells wr (Below.refl _ _)).1
    have KF := Lib.hid (hP1.good _ _ HA.out)
    have MK := Lib.hid (fun w' (h : BD wr w') => (⟨h, (hWk.later h).c0, (hWk.later h).c1, hP1.cells w' h⟩ : BD wr w' ∧ w'.cell? ⟨g, 0, none⟩ = some (.int .i64 ((i : Nat) : Int)) ∧ w'.cell? ⟨g, 1, none⟩ = some (.slice (some ad) F.len c) ∧ At6 w' (ad.add (i * 6)) 73 t1 n1 m1 a1 Q1.len A1 d1))
    rw [hd1, show runB 73 (·.var) (mk 73 t1 n1 m1 Q1.inf :: R1) = ((mk 73 t1 n1 m1 Q1.inf).var && runB 73 (·.var) R1) by simp [runB, mk]] at HRB
    rw [hd1, show runN 73 (mk 73 t1 n1 m1 Q1.inf :: R1) = runN 73 R1 + 1 by simp [runN, mk]] at HRN
    rw [hR1] at HRB HRN
    have B0 := MK.out wr (Below.refl _ _)
    clear hWk hd1 hR1 hP1
    generalize (mk 73 t1 n1 m1 Q1.inf).var = o at *
    generalize Q1.len = x1 at *
    unfold At6 at MK B0
    go_wp2_with fail
    go_quiet (fail)
    generalize hW2 : wr.drewN _ = W2
    have hb2 : Below wr.heap.size wr W2 := by rw [← hW2]; exact below_drewN (Below.refl _ _) _
    have MK2 := Lib.hid (fun w' (h : BD W2 w') => (⟨h, (MK.out w' (below_step hb2 h)).2⟩ : BD W2 w' ∧ w'.cell? ⟨g, 0, none⟩ = some (.int .i64 ((i : Nat) : Int)) ∧ w'.cell? ⟨g, 1, none⟩ = some (.slice (some ad) F.len c) ∧ w'.cell? (ad.add ((i) * 6)) = some (.int .i64 73) ∧ w'.cell? ⟨(ad.add ((i) * 6)).block, (ad.add ((i) * 6)).off + 1, none⟩ = some (.string t1) ∧ w'.cell? ⟨(ad.add ((i) * 6)).block, (ad.add ((i) * 6)).off + 2, none⟩ = some (.int .i64 n1) ∧ w'.cell? ⟨(ad.add ((i) * 6)).block, (ad.add ((i) * 6)).off + 3, none⟩ = some (.int .i64 m1) ∧ w'.cell? ⟨(ad.add ((i) * 6)).block, (ad.add ((i) * 6)).off + 4, none⟩ = some (.int .i64 a1) ∧ w'.cell? ⟨(ad.add ((i) * 6)).block, (ad.add ((i) * 6)).off + 5, none⟩ = some (.slice A1 x1 d1)))
    have KF2 := Lib.hid (fun w' (h : BD W2 w') => KF.out w' (below_step hb2 h))
    have HWk2 := Lib.hid (HWk.out.later hb2)
    have HBw2 := Lib.hid (below_trans HBw.out hb2 (by have := HWk.out.lt; have := HWk.out.ge; omega))
    have B2 := MK2.out W2 (Below.refl _ _)
    clear hW2 hb2 MK KF B0 HWk HBw c0 c1 h0
    cases o with
    | false =>
      go_wp2_with fail
      go_region_held3 (fun w' => BD W2 w' ∧ w'.cell? ⟨g, 0, none⟩ = some (.int .i64 ((i : Nat) : Int)) ∧ w'.cell? ⟨g, 1, none⟩ = some (.slice (some ad) F.len c) ∧ w'.cell? (ad.add ((i) * 6)) = some (.int .i64 73) ∧ w'.cell? ⟨(ad.add ((i) * 6)).block, (ad.add ((i) * 6)).off + 1, none⟩ = some (.string t1) ∧ w'.cell? ⟨(ad.add ((i) * 6)).block, (ad.add ((i) * 6)).off + 2, none⟩ = some (.int .i64 n1) ∧ w'.cell? ⟨(ad.add ((i) * 6)).block, (ad.add ((i) * 6)).off + 3, none⟩ = some (.int .i64 m1) ∧ w'.cell? ⟨(ad.add ((i) * 6)).block, (ad.add ((i) * 6)).off + 4, none⟩ = some (.int .i64 a1) ∧ w'.cell? ⟨(ad.add ((i) * 6)).block, (ad.add ((i) * 6)).off + 5, none⟩ = some (.slice A1 x1 d1))
        (first | exact B2 | exact MK2.out _ (Below.drew (Below.refl _ _)) | exact MK2.out _ (by assumption) | exact MK2.out _ (below_step (And.left (by assumption)) (by assumption)) | exact MK2.out _ (below_step (by assumption) (by assumption)))
        (first | (go_at_call 76; refine (KF2.out _ ?_).mono ?_; (first | exact And.left (by assumption) | exact Below.refl _ _ | exact Below.drew (Below.refl _ _) | assumption); rintro e w' ⟨rfl, hb⟩))
      rename_i w5 hS
      have HS5 := Lib.hid hS.1
      clear hS B2
      go_wp2_with fail
      go_ret
      exact ⟨false, rfl, by rw [← HRB.out]; rfl, fun h => (by cases h), below_trans HBw2.out HS5.out (by have := HWk2.out.lt; have := HWk2.out.ge; omega)⟩
    | true =>
      go_wp2_with fail
      go_region_held3 (fun w' => BD W2 w' ∧ w'.cell? ⟨g, 0, none⟩ = some (.int .i64 ((i : Nat) : Int)) ∧ w'.cell? ⟨g, 1, none⟩ = some (.slice (some ad) F.len c) ∧ w'.cell? (ad.add ((i) * 6)) = some (.int .i64 73) ∧ w'.cell? ⟨(ad.add ((i) * 6)).block, (ad.add ((i) * 6)).off + 1, none⟩ = some (.string t1) ∧ w'.cell? ⟨(ad.add ((i) * 6)).block, (ad.add ((i) * 6)).off + 2, none⟩ = some (.int .i64 n1) ∧ w'.cell? ⟨(ad.add ((i) * 6)).block, (ad.add ((i) * 6)).off + 3, none⟩ = some (.int .i64 m1) ∧ w'.cell? ⟨(ad.add ((i) * 6)).block, (ad.add ((i) * 6)).off + 4, none⟩ = some (.int .i64 a1) ∧ w'.cell? ⟨(ad.add ((i) * 6)).block, (ad.add ((i) * 6)).off + 5, none⟩ = some (.slice A1 x1 d1))
        (first | exact B2 | exact MK2.out _ (Below.drew (Below.refl _ _)) | exact MK2.out _ (by assumption) | exact MK2.out _ (below_step (And.left (by assumption)) (by assumption)) | exact MK2.out _ (below_step (by assumption) (by assumption)))
        (first | (go_at_call 76; refine (KF2.out _ ?_).mono ?_; (first | exact And.left (by assumption) | exact Below.refl _ _ | exact Below.drew (Below.refl _ _) | assumption); rintro e w' ⟨rfl, hb⟩))
      rename_i w5 hS
      have HS5 := Lib.hid hS.1
      clear hS B2
      have KS := Lib.hid (step_any (HWk2.out.later HS5.out) (by omega))
      go_wp2_with fail
      refine KS.out.mono ?_
      rintro e w6 ⟨rfl, hk6, hb6⟩
      have HK6 := Lib.hid hk6
      have HB6 := Lib.hid ((below_trans HBw2.out HS5.out (by have := HWk2.out.lt; have := HWk2.out.ge; omega)).trans hb6)
      have HR6 : Hid (runB 73 (·.var) (F.inf.drop (i + 1)) = runB 73 (·.var) (F.inf.drop i0)) := Lib.hid (by rw [← HRB.out]; rfl)
      have HN6 : Hid (i + 1 + runN 73 (F.inf.drop (i + 1)) = i0 + runN 73 (F.inf.drop i0)) := Lib.hid (by rw [← HRN.out]; omega)
      clear hk6 hb6
      go_wp2_with fail
      go_roundg (F.len - (i + 1))
      case measure => have := HGK.out; omega
      case rel => exact ⟨i + 1, by omega, rfl, HK6.out, HR6.out, HN6.out, HB6.out⟩
set_option maxRecDepth 100000 in
set_option maxHeartbeats 4000000 in
theorem while_refers75 (F : Fo) (hall : AllC (FunP 79 (·.refs)) F) {g i0 : Nat} {A : Option Addr} {c B : Nat} {W : World} (h : Wk g i0 F A c B W) (hi0 : i0 ≤ F.len) (hlc : F.len ≤ c) (hcc : c ≤ 1000000000000000) :
    Calls Try.prog 78 #[.pointer (some ⟨g, 0, none⟩), .int .i64 75, .func (.func 79) #[] #[]] W fun e w' => ∃ b, e = .returned (.bool b) ∧ b = runB 75 (·.refs) (F.inf.drop i0) ∧ (b = true → Wk g (i0 + runN 75 (F.inf.drop i0)) F A c B w') ∧ Below B W w' := by
  have hl : F.len ≤ 1000000000000000 := by omega
  have HW := Lib.hid h
  have HA := Lib.hid hall
  clear h hall
  go_enter Try.func78, Try.ntmps78
  go_wp2_with fail
  go_loopg [7] (F.len - i0) (fun gk _ wr => ∃ i : Nat, i ≤ F.len ∧ gk = F.len - i ∧ Wk g i F A c B wr ∧ runB 75 (·.refs) (F.inf.drop i) = runB 75 (·.refs) (F.inf.drop i0) ∧ i + runN 75 (F.inf.drop i) = i0 + runN 75 (F.inf.drop i0) ∧ Below B W wr)
  case atStart => exact ⟨i0, hi0, rfl, HW.out, rfl, rfl, Below.refl _ _⟩
  case round =>
    obtain ⟨i, hi, hgk, hWk, hrb, hrn, hB⟩ := hrel
    have HWk := Lib.hid hWk
    have HBw := Lib.hid hB
    have HRB := Lib.hid hrb
    have HRN := Lib.hid hrn
    have HGK := Lib.hid hgk
    have c0 := hWk.c0
    have c1 := hWk.c1
    clear hB hrb hrn hgk
    by_cases hlt : i < F.len
    case neg =>
      have hil : F.inf.drop i = [] := List.eq_nil_of_length_eq_zero (by simp [inf_len]; omega)
      rw [hil] at HRB HRN
      have tl : decide ((i : Int) < (F.len : Int)) = false := by simp; omega
      have tl2 : decide (i < F.len) = false := by simp; omega
      clear hWk hlt hil
      go_wp2_with fail
      go_quiet (fail)
      go_wp2_with fail
      go_ret
      exact ⟨true, rfl, HRB.out, fun _ => by rw [← HRN.out]; exact HWk.out.later (below_drewN (Below.refl _ _) _), below_drewN HBw.out _⟩
    obtain ⟨k1, t1, n1, m1, a1, Q1, ad, A1, d1, R1, rfl, hd1, hR1, hP1⟩ := part_at (hWk.hold.more (by have := hWk.lt; have := hWk.ge; omega)) (j := i) hlt
    have tl : decide ((i : Int) < (F.len : Int)) = true := by simp; omega
    have tl2 : decide (i < F.len) = true := by simp; omega
    by_cases hk : k1 = 75
    case neg =>
      have tk : (k1 == 75) = false := beq_eq_false_iff_ne.2 hk
      have h0 := (hP1.cells wr (Below.refl _ _)).1
      rw [hd1, show runB 75 (·.refs) (mk k1 t1 n1 m1 Q1.inf :: R1) = true by simp [runB, mk, tk]] at HRB
      rw [hd1, show runN 75 (mk k1 t1 n1 m1 Q1.inf :: R1) = 0 by simp [runN, mk, tk]] at HRN
      clear hWk hk hd1 hR1 hP1
      go_wp2_with fail
      go_quiet (fail)
      go_wp2_with fail
      go_ret
      exact ⟨true, rfl, HRB.out, fun _ => by rw [← HRN.out]; exact HWk.out.later (below_drewN (Below.refl _ _) _), below_drewN HBw.out _⟩
    subst hk
    have h0 := (hP1.cells wr (Below.refl _ _)).1
    have KF := Lib.hid (hP1.good _ _ HA.out)
    have MK := Lib.hid (fun w' (h : BD wr w') => (⟨h, (hWk.later h).c0, (hWk.later h).c1, hP1.cells w' h⟩ : BD wr w' ∧ w'.cell? ⟨g, 0, none⟩ = some (.int .i64 ((i : Nat) : Int)) ∧ w'.cell? ⟨g, 1, none⟩ = some (.slice (some ad) F.len c) ∧ At6 w' (ad.add (i * 6)) 75 t1 n1 m1 a1 Q1.len A1 d1))
    rw [hd1, show runB 75 (·.refs) (mk 75 t1 n1 m1 Q1.inf :: R1) = ((mk 75 t1 n1 m1 Q1.inf).refs && runB 75 (·.refs) R1) by simp [runB, mk]] at HRB
    rw [hd1, show runN 75 (mk 75 t1 n1 m1 Q1.inf :: R1) = runN 75 R1 + 1 by simp [runN, mk]] at HRN
    rw [hR1] at HRB HRN
    have B0 := MK.out wr (Below.refl _ _)
    clear hWk hd1 hR1 hP1
    generalize (mk 75 t1 n1 m1 Q1.inf).refs = o at *
    generalize Q1.len = x1 at *
    unfold At6 at MK B0
    go_wp2_with fail
    go_quiet (fail)
    generalize hW2 : wr.drewN _ = W2
    have hb2 : Below wr.heap.size wr W2 := by rw [← hW2]; exact below_drewN (Below.refl _ _) _
    have MK2 := Lib.hid (fun w' (h : BD W2 w') => (⟨h, (MK.out w' (below_step hb2 h)).2⟩ : BD W2 w' ∧ w'.cell? ⟨g, 0, none⟩ = some (.int .i64 ((i : Nat) : Int)) ∧ w'.cell? ⟨g, 1, none⟩ = some (.slice (some ad) F.len c) ∧ w'.cell? (ad.add ((i) * 6)) = some (.int .i64 75) ∧ w'.cell? ⟨(ad.add ((i) * 6)).block, (ad.add ((i) * 6)).off + 1, none⟩ = some (.string t1) ∧ w'.cell? ⟨(ad.add ((i) * 6)).block, (ad.add ((i) * 6)).off + 2, none⟩ = some (.int .i64 n1) ∧ w'.cell? ⟨(ad.add ((i) * 6)).block, (ad.add ((i) * 6)).off + 3, none⟩ = some (.int .i64 m1) ∧ w'.cell? ⟨(ad.add ((i) * 6)).block, (ad.add ((i) * 6)).off + 4, none⟩ = some (.int .i64 a1) ∧ w'.cell? ⟨(ad.add ((i) * 6)).block, (ad.add ((i) * 6)).off + 5, none⟩ = some (.slice A1 x1 d1)))
    have KF2 := Lib.hid (fun w' (h : BD W2 w') => KF.out w' (below_step hb2 h))
    have HWk2 := Lib.hid (HWk.out.later hb2)
    have HBw2 := Lib.hid (below_trans HBw.out hb2 (by have := HWk.out.lt; have := HWk.out.ge; omega))
    have B2 := MK2.out W2 (Below.refl _ _)
    clear hW2 hb2 MK KF B0 HWk HBw c0 c1 h0
    cases o with
    | false =>
      go_wp2_with fail
      go_region_held3 (fun w' => BD W2 w' ∧ w'.cell? ⟨g, 0, none⟩ = some (.int .i64 ((i : Nat) : Int)) ∧ w'.cell? ⟨g, 1, none⟩ = some (.slice (some ad) F.len c) ∧ w'.cell? (ad.add ((i) * 6)) = some (.int .i64 75) ∧ w'.cell? ⟨(ad.add ((i) * 6)).block, (ad.add ((i) * 6)).off + 1, none⟩ = some (.string t1) ∧ w'.cell? ⟨(ad.add ((i) * 6)).block, (ad.add ((i) * 6)).off + 2, none⟩ = some (.int .i64 n1) ∧ w'.cell? ⟨(ad.add ((i) * 6)).block, (ad.add ((i) * 6)).off + 3, none⟩ = some (.int .i64 m1) ∧ w'.cell? ⟨(ad.add ((i) * 6)).block, (ad.add ((i) * 6)).off + 4, none⟩ = some (.int .i64 a1) ∧ w'.cell? ⟨(ad.add ((i) * 6)).block, (ad.add ((i) * 6)).off + 5, none⟩ = some (.slice A1 x1 d1))
        (first | exact B2 | exact MK2.out _ (Below.drew (Below.refl _ _)) | exact MK2.out _ (by assumption) | exact MK2.out _ (below_step (And.left (by assumption)) (by assumption)) | exact MK2.out _ (below_step (by assumption) (by assumption)))
        (first | (go_at_call 79; refine (KF2.out _ ?_).mono ?_; (first | exact And.left (by assumption) | exact Below.refl _ _ | exact Below.drew (Below.refl _ _) | assumption); rintro e w' ⟨rfl, hb⟩))
      rename_i w5 hS
      have HS5 := Lib.hid hS.1
      clear hS B2
      go_wp2_with fail
      go_ret
      exact ⟨false, rfl, by rw [← HRB.out]; rfl, fun h => (by cases h), below_trans HBw2.out HS5.out (by have := HWk2.out.lt; have := HWk2.out.ge; omega)⟩
    | true =>
      go_wp2_with fail
      go_region_held3 (fun w' => BD W2 w' ∧ w'.cell? ⟨g, 0, none⟩ = some (.int .i64 ((i : Nat) : Int)) ∧ w'.cell? ⟨g, 1, none⟩ = some (.slice (some ad) F.len c) ∧ w'.cell? (ad.add ((i) * 6)) = some (.int .i64 75) ∧ w'.cell? ⟨(ad.add ((i) * 6)).block, (ad.add ((i) * 6)).off + 1, none⟩ = some (.string t1) ∧ w'.cell? ⟨(ad.add ((i) * 6)).block, (ad.add ((i) * 6)).off + 2, none⟩ = some (.int .i64 n1) ∧ w'.cell? ⟨(ad.add ((i) * 6)).block, (ad.add ((i) * 6)).off + 3, none⟩ = some (.int .i64 m1) ∧ w'.cell? ⟨(ad.add ((i) * 6)).block, (ad.add ((i) * 6)).off + 4, none⟩ = some (.int .i64 a1) ∧ w'.cell? ⟨(ad.add ((i) * 6)).block, (ad.add ((i) * 6)).off + 5, none⟩ = some (.slice A1 x1 d1))
        (first | exact B2 | exact MK2.out _ (Below.drew (Below.refl _ _)) | exact MK2.out _ (by assumption) | exact MK2.out _ (below_step (And.left (by assumption)) (by assumption)) | exact MK2.out _ (below_step (by assumption) (by assumption)))
        (first | (go_at_call 79; refine (KF2.out _ ?_).mono ?_; (first | exact And.left (by assumption) | exact Below.refl _ _ | exact Below.drew (Below.refl _ _) | assumption); rintro e w' ⟨rfl, hb⟩))
      rename_i w5 hS
      have HS5 := Lib.hid hS.1
      clear hS B2
      have KS := Lib.hid (step_any (HWk2.out.later HS5.out) (by omega))
      go_wp2_with fail
      refine KS.out.mono ?_
      rintro e w6 ⟨rfl, hk6, hb6⟩
      have HK6 := Lib.hid hk6
      have HB6 := Lib.hid ((below_trans HBw2.out HS5.out (by have := HWk2.out.lt; have := HWk2.out.ge; omega)).trans hb6)
      have HR6 : Hid (runB 75 (·.refs) (F.inf.drop (i + 1)) = runB 75 (·.refs) (F.inf.drop i0)) := Lib.hid (by rw [← HRB.out]; rfl)
      have HN6 : Hid (i + 1 + runN 75 (F.inf.drop (i + 1)) = i0 + runN 75 (F.inf.drop i0)) := Lib.hid (by rw [← HRN.out]; omega)
      clear hk6 hb6
      go_wp2_with fail
      go_roundg (F.len - (i + 1))
      case measure => have := HGK.out; omega
      case rel => exact ⟨i + 1, by omega, rfl, HK6.out, HR6.out, HN6.out, HB6.out⟩
set_option maxRecDepth 100000 in
set_option maxHeartbeats 4000000 in
theorem while_refers77 (F : Fo) (hall : AllC (FunP 79 (·.refs)) F) {g i0 : Nat} {A : Option Addr} {c B : Nat} {W : World} (h : Wk g i0 F A c B W) (hi0 : i0 ≤ F.len) (hlc : F.len ≤ c) (hcc : c ≤ 1000000000000000) :
    Calls Try.prog 78 #[.pointer (some ⟨g, 0, none⟩), .int .i64 77, .func (.func 79) #[] #[]] W fun e w' => ∃ b, e = .returned (.bool b) ∧ b = runB 77 (·.refs) (F.inf.drop i0) ∧ (b = true → Wk g (i0 + runN 77 (F.inf.drop i0)) F A c B w') ∧ Below B W w' := by
  have hl : F.len ≤ 1000000000000000 := by omega
  have HW := Lib.hid h
  have HA := Lib.hid hall
  clear h hall
  go_enter Try.func78, Try.ntmps78
  go_wp2_with fail
  go_loopg [7] (F.len - i0) (fun gk _ wr => ∃ i : Nat, i ≤ F.len ∧ gk = F.len - i ∧ Wk g i F A c B wr ∧ runB 77 (·.refs) (F.inf.drop i) = runB 77 (·.refs) (F.inf.drop i0) ∧ i + runN 77 (F.inf.drop i) = i0 + runN 77 (F.inf.drop i0) ∧ Below B W wr)
  case atStart => exact ⟨i0, hi0, rfl, HW.out, rfl, rfl, Below.refl _ _⟩
  case round =>
    obtain ⟨i, hi, hgk, hWk, hrb, hrn, hB⟩ := hrel
    have HWk := Lib.hid hWk
    have HBw := Lib.hid hB
    have HRB := Lib.hid hrb
    have HRN := Lib.hid hrn
    have HGK := Lib.hid hgk
    have c0 := hWk.c0
    have c1 := hWk.c1
    clear hB hrb hrn hgk
    by_cases hlt : i < F.len
    case neg =>
      have hil : F.inf.drop i = [] := List.eq_nil_of_length_eq_zero (by simp [inf_len]; omega)
      rw [hil] at HRB HRN
      have tl : decide ((i : Int) < (F.len : Int)) = false := by simp; omega
      have tl2 : decide (i < F.len) = false := by simp; omega
      clear hWk hlt hil
      go_wp2_with fail
      go_quiet (fail)
      go_wp2_with fail
      go_ret
      exact ⟨true, rfl, HRB.out, fun _ => by rw [← HRN.out]; exact HWk.out.later (below_drewN (Below.refl _ _) _), below_drewN HBw.out _⟩
    obtain ⟨k1, t1, n1, m1, a1, Q1, ad, A1, d1, R1, rfl, hd1, hR1, hP1⟩ := part_at (hWk.hold.more (by have := hWk.lt; have := hWk.ge; omega)) (j := i) hlt
    have tl : decide ((i : Int) < (F.len : Int)) = true := by simp; omega
    have tl2 : decide (i < F.len) = true := by simp; omega
    by_cases hk : k1 = 77
    case neg =>
      have tk : (k1 == 77) = false := beq_eq_false_iff_ne.2 hk
      have h0 := (hP1.cells wr (Below.refl _ _)).1
      rw [hd1, show runB 77 (·.refs) (mk k1 t1 n1 m1 Q1.inf :: R1) = true by simp [runB, mk, tk]] at HRB
      rw [hd1, show runN 77 (mk k1 t1 n1 m1 Q1.inf :: R1) = 0 by simp [runN, mk, tk]] at HRN
      clear hWk hk hd1 hR1 hP1
      go_wp2_with fail
      go_quiet (fail)
      go_wp2_with fail
      go_ret
      exact ⟨true, rfl, HRB.out, fun _ => by rw [← HRN.out]; exact HWk.out.later (below_drewN (Below.refl _ _) _), below_drewN HBw.out _⟩
    subst hk
    have h0 := (hP1.cells wr (Below.refl _ _)).1
    have KF := Lib.hid (hP1.good _ _ HA.out)
    have MK := Lib.hid (fun w' (h : BD wr w') => (⟨h, (hWk.later h).c0, (hWk.later h).c1, hP1.cells w' h⟩ : BD wr w' ∧ w'.cell? ⟨g, 0, none⟩ = some (.int .i64 ((i : Nat) : Int)) ∧ w'.cell? ⟨g, 1, none⟩ = some (.slice (some ad) F.len c) ∧ At6 w' (ad.add (i * 6)) 77 t1 n1 m1 a1 Q1.len A1 d1))
    rw [hd1, show runB 77 (·.refs) (mk 77 t1 n1 m1 Q1.inf :: R1) = ((mk 77 t1 n1 m1 Q1.inf).refs && runB 77 (·.refs) R1) by simp [runB, mk]] at HRB
    rw [hd1, show runN 77 (mk 77 t1 n1 m1 Q1.inf :: R1) = runN 77 R1 + 1 by simp [runN, mk]] at HRN
    rw [hR1] at HRB HRN
    have B0 := MK.out wr (Below.refl _ _)
    clear hWk hd1 hR1 hP1
    generalize (mk 77 t1 n1 m1 Q1.inf).refs = o at *
    generalize Q1.len = x1 at *
    unfold At6 at MK B0
    go_wp2_with fail
    go_quiet (fail)
    generalize hW2 : wr.drewN _ = W2
    have hb2 : Below wr.heap.size wr W2 := by rw [← hW2]; exact below_drewN (Below.refl _ _) _
    have MK2 := Lib.hid (fun w' (h : BD W2 w') => (⟨h, (MK.out w' (below_step hb2 h)).2⟩ : BD W2 w' ∧ w'.cell? ⟨g, 0, none⟩ = some (.int .i64 ((i : Nat) : Int)) ∧ w'.cell? ⟨g, 1, none⟩ = some (.slice (some ad) F.len c) ∧ w'.cell? (ad.add ((i) * 6)) = some (.int .i64 77) ∧ w'.cell? ⟨(ad.add ((i) * 6)).block, (ad.add ((i) * 6)).off + 1, none⟩ = some (.string t1) ∧ w'.cell? ⟨(ad.add ((i) * 6)).block, (ad.add ((i) * 6)).off + 2, none⟩ = some (.int .i64 n1) ∧ w'.cell? ⟨(ad.add ((i) * 6)).block, (ad.add ((i) * 6)).off + 3, none⟩ = some (.int .i64 m1) ∧ w'.cell? ⟨(ad.add ((i) * 6)).block, (ad.add ((i) * 6)).off + 4, none⟩ = some (.int .i64 a1) ∧ w'.cell? ⟨(ad.add ((i) * 6)).block, (ad.add ((i) * 6)).off + 5, none⟩ = some (.slice A1 x1 d1)))
    have KF2 := Lib.hid (fun w' (h : BD W2 w') => KF.out w' (below_step hb2 h))
    have HWk2 := Lib.hid (HWk.out.later hb2)
    have HBw2 := Lib.hid (below_trans HBw.out hb2 (by have := HWk.out.lt; have := HWk.out.ge; omega))
    have B2 := MK2.out W2 (Below.refl _ _)
    clear hW2 hb2 MK KF B0 HWk HBw c0 c1 h0
    cases o with
    | false =>
      go_wp2_with fail
      go_region_held3 (fun w' => BD W2 w' ∧ w'.cell? ⟨g, 0, none⟩ = some (.int .i64 ((i : Nat) : Int)) ∧ w'.cell? ⟨g, 1, none⟩ = some (.slice (some ad) F.len c) ∧ w'.cell? (ad.add ((i) * 6)) = some (.int .i64 77) ∧ w'.cell? ⟨(ad.add ((i) * 6)).block, (ad.add ((i) * 6)).off + 1, none⟩ = some (.string t1) ∧ w'.cell? ⟨(ad.add ((i) * 6)).block, (ad.add ((i) * 6)).off + 2, none⟩ = some (.int .i64 n1) ∧ w'.cell? ⟨(ad.add ((i) * 6)).block, (ad.add ((i) * 6)).off + 3, none⟩ = some (.int .i64 m1) ∧ w'.cell? ⟨(ad.add ((i) * 6)).block, (ad.add ((i) * 6)).off + 4, none⟩ = some (.int .i64 a1) ∧ w'.cell? ⟨(ad.add ((i) * 6)).block, (ad.add ((i) * 6)).off + 5, none⟩ = some (.slice A1 x1 d1))
        (first | exact B2 | exact MK2.out _ (Below.drew (Below.refl _ _)) | exact MK2.out _ (by assumption) | exact MK2.out _ (below_step (And.left (by assumption)) (by assumption)) | exact MK2.out _ (below_step (by assumption) (by assumption)))
        (first | (go_at_call 79; refine (KF2.out _ ?_).mono ?_; (first | exact And.left (by assumption) | exact Below.refl _ _ | exact Below.drew (Below.refl _ _) | assumption); rintro e w' ⟨rfl, hb⟩))
      rename_i w5 hS
      have HS5 := Lib.hid hS.1
      clear hS B2
      go_wp2_with fail
      go_ret
      exact ⟨false, rfl, by rw [← HRB.out]; rfl, fun h => (by cases h), below_trans HBw2.out HS5.out (by have := HWk2.out.lt; have := HWk2.out.ge; omega)⟩
    | true =>
      go_wp2_with fail
      go_region_held3 (fun w' => BD W2 w' ∧ w'.cell? ⟨g, 0, none⟩ = some (.int .i64 ((i : Nat) : Int)) ∧ w'.cell? ⟨g, 1, none⟩ = some (.slice (some ad) F.len c) ∧ w'.cell? (ad.add ((i) * 6)) = some (.int .i64 77) ∧ w'.cell? ⟨(ad.add ((i) * 6)).block, (ad.add ((i) * 6)).off + 1, none⟩ = some (.string t1) ∧ w'.cell? ⟨(ad.add ((i) * 6)).block, (ad.add ((i) * 6)).off + 2, none⟩ = some (.int .i64 n1) ∧ w'.cell? ⟨(ad.add ((i) * 6)).block, (ad.add ((i) * 6)).off + 3, none⟩ = some (.int .i64 m1) ∧ w'.cell? ⟨(ad.add ((i) * 6)).block, (ad.add ((i) * 6)).off + 4, none⟩ = some (.int .i64 a1) ∧ w'.cell? ⟨(ad.add ((i) * 6)).block, (ad.add ((i) * 6)).off + 5, none⟩ = some (.slice A1 x1 d1))
        (first | exact B2 | exact MK2.out _ (Below.drew (Below.refl _ _)) | exact MK2.out _ (by assumption) | exact MK2.out _ (below_step (And.left (by assumption)) (by assumption)) | exact MK2.out _ (below_step (by assumption) (by assumption)))
        (first | (go_at_call 79; refine (KF2.out _ ?_).mono ?_; (first | exact And.left (by assumption) | exact Below.refl _ _ | exact Below.drew (Below.refl _ _) | assumption); rintro e w' ⟨rfl, hb⟩))
      rename_i w5 hS
      have HS5 := Lib.hid hS.1
      clear hS B2
      have KS := Lib.hid (step_any (HWk2.out.later HS5.out) (by omega))
      go_wp2_with fail
      refine KS.out.mono ?_
      rintro e w6 ⟨rfl, hk6, hb6⟩
      have HK6 := Lib.hid hk6
      have HB6 := Lib.hid ((below_trans HBw2.out HS5.out (by have := HWk2.out.lt; have := HWk2.out.ge; omega)).trans hb6)
      have HR6 : Hid (runB 77 (·.refs) (F.inf.drop (i + 1)) = runB 77 (·.refs) (F.inf.drop i0)) := Lib.hid (by rw [← HRB.out]; rfl)
      have HN6 : Hid (i + 1 + runN 77 (F.inf.drop (i + 1)) = i0 + runN 77 (F.inf.drop i0)) := Lib.hid (by rw [← HRN.out]; omega)
      clear hk6 hb6
      go_wp2_with fail
      go_roundg (F.len - (i + 1))
      case measure => have := HGK.out; omega
      case rel => exact ⟨i + 1, by omega, rfl, HK6.out, HR6.out, HN6.out, HB6.out⟩
set_option maxRecDepth 100000 in
set_option maxHeartbeats 4000000 in
theorem while_field8 (F : Fo) (hall : AllC (FunP 36 (·.fld)) F) {g i0 : Nat} {A : Option Addr} {c B : Nat} {W : World} (h : Wk g i0 F A c B W) (hi0 : i0 ≤ F.len) (hlc : F.len ≤ c) (hcc : c ≤ 1000000000000000) :
    Calls Try.prog 78 #[.pointer (some ⟨g, 0, none⟩), .int .i64 8, .func (.func 36) #[] #[]] W fun e w' => ∃ b, e = .returned (.bool b) ∧ b = runB 8 (·.fld) (F.inf.drop i0) ∧ (b = true → Wk g (i0 + runN 8 (F.inf.drop i0)) F A c B w') ∧ Below B W w' := by
  have hl : F.len ≤ 1000000000000000 := by omega
  have HW := Lib.hid h
  have HA := Lib.hid hall
  clear h hall
  go_enter Try.func78, Try.ntmps78
  go_wp2_with fail
  go_loopg [7] (F.len - i0) (fun gk _ wr => ∃ i : Nat, i ≤ F.len ∧ gk = F.len - i ∧ Wk g i F A c B wr ∧ runB 8 (·.fld) (F.inf.drop i) = runB 8 (·.fld) (F.inf.drop i0) ∧ i + runN 8 (F.inf.drop i) = i0 + runN 8 (F.inf.drop i0) ∧ Below B W wr)
  case atStart => exact ⟨i0, hi0, rfl, HW.out, rfl, rfl, Below.refl _ _⟩
  case round =>
    obtain ⟨i, hi, hgk, hWk, hrb, hrn, hB⟩ := hrel
    have HWk := Lib.hid hWk
    have HBw := Lib.hid hB
    have HRB := Lib.hid hrb
    have HRN := Lib.hid hrn
    have HGK := Lib.hid hgk
    have c0 := hWk.c0
    have c1 := hWk.c1
    clear hB hrb hrn hgk
    by_cases hlt : i < F.len
    case neg =>
      have hil : F.inf.drop i = [] := List.eq_nil_of_length_eq_zero (by simp [inf_len]; omega)
      rw [hil] at HRB HRN
      have tl : decide ((i : Int) < (F.len : Int)) = false := by simp; omega
      have tl2 : decide (i < F.len) = false := by simp; omega
      clear hWk hlt hil
      go_wp2_with fail
      go_quiet (fail)
      go_wp2_with fail
      go_ret
      exact ⟨true, rfl, HRB.out, fun _ => by rw [← HRN.out]; exact HWk.out.later (below_drewN (Below.refl _ _) _), below_drewN HBw.out _⟩
    obtain ⟨k1, t1, n1, m1, a1, Q1, ad, A1, d1, R1, rfl, hd1, hR1, hP1⟩ := part_at (hWk.hold.more (by have := hWk.lt; have := hWk.ge; omega)) (j := i) hlt
    have tl : decide ((i : Int) < (F.len : Int)) = true := by simp; omega
    have tl2 : decide (i < F.len) = true := by simp; omega
    by_cases hk : k1 = 8
    case neg =>
      have tk : (k1 == 8) = false := beq_eq_false_iff_ne.2 hk
      have h0 := (hP1.cells wr (Below.refl _ _)).1
      rw [hd1, show runB 8 (·.fld) (mk k1 t1 n1 m1 Q1.inf :: R1) = true by simp [runB, mk, tk]] at HRB
      rw [hd1, show runN 8 (mk k1 t1 n1 m1 Q1.inf :: R1) = 0 by simp [runN, mk, tk]] at HRN
      clear hWk hk hd1 hR1 hP1
      go_wp2_with fail
      go_quiet (fail)
      go_wp2_with fail
      go_ret
      exact ⟨true, rfl, HRB.out, fun _ => by rw [← HRN.out]; exact HWk.out.later (below_drewN (Below.refl _ _) _), below_drewN HBw.out _⟩
    subst hk
    have h0 := (hP1.cells wr (Below.refl _ _)).1
    have KF := Lib.hid (hP1.good _ _ HA.out)
    have MK := Lib.hid (fun w' (h : BD wr w') => (⟨h, (hWk.later h).c0, (hWk.later h).c1, hP1.cells w' h⟩ : BD wr w' ∧ w'.cell? ⟨g, 0, none⟩ = some (.int .i64 ((i : Nat) : Int)) ∧ w'.cell? ⟨g, 1, none⟩ = some (.slice (some ad) F.len c) ∧ At6 w' (ad.add (i * 6)) 8 t1 n1 m1 a1 Q1.len A1 d1))
    rw [hd1, show runB 8 (·.fld) (mk 8 t1 n1 m1 Q1.inf :: R1) = ((mk 8 t1 n1 m1 Q1.inf).fld && runB 8 (·.fld) R1) by simp [runB, mk]] at HRB
    rw [hd1, show runN 8 (mk 8 t1 n1 m1 Q1.inf :: R1) = runN 8 R1 + 1 by simp [runN, mk]] at HRN
    rw [hR1] at HRB HRN
    have B0 := MK.out wr (Below.refl _ _)
    clear hWk hd1 hR1 hP1
    generalize (mk 8 t1 n1 m1 Q1.inf).fld = o at *
    generalize Q1.len = x1 at *
    unfold At6 at MK B0
    go_wp2_with fail
    go_quiet (fail)
    generalize hW2 : wr.drewN _ = W2
    have hb2 : Below wr.heap.size wr W2 := by rw [← hW2]; exact below_drewN (Below.refl _ _) _
    have MK2 := Lib.hid (fun w' (h : BD W2 w') => (⟨h, (MK.out w' (below_step hb2 h)).2⟩ : BD W2 w' ∧ w'.cell? ⟨g, 0, none⟩ = some (.int .i64 ((i : Nat) : Int)) ∧ w'.cell? ⟨g, 1, none⟩ = some (.slice (some ad) F.len c) ∧ w'.cell? (ad.add ((i) * 6)) = some (.int .i64 8) ∧ w'.cell? ⟨(ad.add ((i) * 6)).block, (ad.add ((i) * 6)).off + 1, none⟩ = some (.string t1) ∧ w'.cell? ⟨(ad.add ((i) * 6)).block, (ad.add ((i) * 6)).off + 2, none⟩ = some (.int .i64 n1) ∧ w'.cell? ⟨(ad.add ((i) * 6)).block, (ad.add ((i) * 6)).off + 3, none⟩ = some (.int .i64 m1) ∧ w'.cell? ⟨(ad.add ((i) * 6)).block, (ad.add ((i) * 6)).off + 4, none⟩ = some (.int .i64 a1) ∧ w'.cell? ⟨(ad.add ((i) * 6)).block, (ad.add ((i) * 6)).off + 5, none⟩ = some (.slice A1 x1 d1)))
    have KF2 := Lib.hid (fun w' (h : BD W2 w') => KF.out w' (below_step hb2 h))
    have HWk2 := Lib.hid (HWk.out.later hb2)
    have HBw2 := Lib.hid (below_trans HBw.out hb2 (by have := HWk.out.lt; have := HWk.out.ge; omega))
    have B2 := MK2.out W2 (Below.refl _ _)
    clear hW2 hb2 MK KF B0 HWk HBw c0 c1 h0
    cases o with
    | false =>
      go_wp2_with fail
      go_region_held3 (fun w' => BD W2 w' ∧ w'.cell? ⟨g, 0, none⟩ = some (.int .i64 ((i : Nat) : Int)) ∧ w'.cell? ⟨g, 1, none⟩ = some (.slice (some ad) F.len c) ∧ w'.cell? (ad.add ((i) * 6)) = some (.int .i64 8) ∧ w'.cell? ⟨(ad.add ((i) * 6)).block, (ad.add ((i) * 6)).off + 1, none⟩ = some (.string t1) ∧ w'.cell? ⟨(ad.add ((i) * 6)).block, (ad.add ((i) * 6)).off + 2, none⟩ = some (.int .i64 n1) ∧ w'.cell? ⟨(ad.add ((i) * 6)).block, (ad.add ((i) * 6)).off + 3, none⟩ = some (.int .i64 m1) ∧ w'.cell? ⟨(ad.add ((i) * 6)).block, (ad.add ((i) * 6)).off + 4, none⟩ = some (.int .i64 a1) ∧ w'.cell? ⟨(ad.add ((i) * 6)).block, (ad.add ((i) * 6)).off + 5, none⟩ = some (.slice A1 x1 d1))
        (first | exact B2 | exact MK2.out _ (Below.drew (Below.refl _ _)) | exact MK2.out _ (by assumption) | exact MK2.out _ (below_step (And.left (by assumption)) (by assumption)) | exact MK2.out _ (below_step (by assumption) (by assumption)))
        (first | (go_at_call 36; refine (KF2.out _ ?_).mono ?_; (first | exact And.left (by assumption) | exact Below.refl _ _ | exact Below.drew (Below.refl _ _) | assumption); rintro e w' ⟨rfl, hb⟩))
      rename_i w5 hS
      have HS5 := Lib.hid hS.1
      clear hS B2
      go_wp2_with fail
      go_ret
      exact ⟨false, rfl, by rw [← HRB.out]; rfl, fun h => (by cases h), below_trans HBw2.out HS5.out (by have := HWk2.out.lt; have := HWk2.out.ge; omega)⟩
    | true =>
      go_wp2_with fail
      go_region_held3 (fun w' => BD W2 w' ∧ w'.cell? ⟨g, 0, none⟩ = some (.int .i64 ((i : Nat) : Int)) ∧ w'.cell? ⟨g, 1, none⟩ = some (.slice (some ad) F.len c) ∧ w'.cell? (ad.add ((i) * 6)) = some (.int .i64 8) ∧ w'.cell? ⟨(ad.add ((i) * 6)).block, (ad.add ((i) * 6)).off + 1, none⟩ = some (.string t1) ∧ w'.cell? ⟨(ad.add ((i) * 6)).block, (ad.add ((i) * 6)).off + 2, none⟩ = some (.int .i64 n1) ∧ w'.cell? ⟨(ad.add ((i) * 6)).block, (ad.add ((i) * 6)).off + 3, none⟩ = some (.int .i64 m1) ∧ w'.cell? ⟨(ad.add ((i) * 6)).block, (ad.add ((i) * 6)).off + 4, none⟩ = some (.int .i64 a1) ∧ w'.cell? ⟨(ad.add ((i) * 6)).block, (ad.add ((i) * 6)).off + 5, none⟩ = some (.slice A1 x1 d1))
        (first | exact B2 | exact MK2.out _ (Below.drew (Below.refl _ _)) | exact MK2.out _ (by assumption) | exact MK2.out _ (below_step (And.left (by assumption)) (by assumption)) | exact MK2.out _ (below_step (by assumption) (by assumption)))
        (first | (go_at_call 36; refine (KF2.out _ ?_).mono ?_; (first | exact And.left (by assumption) | exact Below.refl _ _ | exact Below.drew (Below.refl _ _) | assumption); rintro e w' ⟨rfl, hb⟩))
      rename_i w5 hS
      have HS5 := Lib.hid hS.1
      clear hS B2
      have KS := Lib.hid (step_any (HWk2.out.later HS5.out) (by omega))
      go_wp2_with fail
      refine KS.out.mono ?_
      rintro e w6 ⟨rfl, hk6, hb6⟩
      have HK6 := Lib.hid hk6
      have HB6 := Lib.hid ((below_trans HBw2.out HS5.out (by have := HWk2.out.lt; have := HWk2.out.ge; omega)).trans hb6)
      have HR6 : Hid (runB 8 (·.fld) (F.inf.drop (i + 1)) = runB 8 (·.fld) (F.inf.drop i0)) := Lib.hid (by rw [← HRB.out]; rfl)
      have HN6 : Hid (i + 1 + runN 8 (F.inf.drop (i + 1)) = i0 + runN 8 (F.inf.drop i0)) := Lib.hid (by rw [← HRN.out]; omega)
      clear hk6 hb6
      go_wp2_with fail
      go_roundg (F.len - (i + 1))
      case measure => have := HGK.out; omega
      case rel => exact ⟨i + 1, by omega, rfl, HK6.out, HR6.out, HN6.out, HB6.out⟩
set_option maxRecDepth 100000 in
set_option maxHeartbeats 4000000 in
theorem while_holds78 (F : Fo) (hall : AllC (FunP 93 (·.hold)) F) {g i0 : Nat} {A : Option Addr} {c B : Nat} {W : World} (h : Wk g i0 F A c B W) (hi0 : i0 ≤ F.len) (hlc : F.len ≤ c) (hcc : c ≤ 1000000000000000) :
    Calls Try.prog 78 #[.pointer (some ⟨g, 0, none⟩), .int .i64 78, .func (.func 93) #[] #[]] W fun e w' => ∃ b, e = .returned (.bool b) ∧ b = runB 78 (·.hold) (F.inf.drop i0) ∧ (b = true → Wk g (i0 + runN 78 (F.inf.drop i0)) F A c B w') ∧ Below B W w' := by
  have hl : F.len ≤ 1000000000000000 := by omega
  have HW := Lib.hid h
  have HA := Lib.hid hall
  clear h hall
  go_enter Try.func78, Try.ntmps78
  go_wp2_with fail
  go_loopg [7] (F.len - i0) (fun gk _ wr => ∃ i : Nat, i ≤ F.len ∧ gk = F.len - i ∧ Wk g i F A c B wr ∧ runB 78 (·.hold) (F.inf.drop i) = runB 78 (·.hold) (F.inf.drop i0) ∧ i + runN 78 (F.inf.drop i) = i0 + runN 78 (F.inf.drop i0) ∧ Below B W wr)
  case atStart => exact ⟨i0, hi0, rfl, HW.out, rfl, rfl, Below.refl _ _⟩
  case round =>
    obtain ⟨i, hi, hgk, hWk, hrb, hrn, hB⟩ := hrel
    have HWk := Lib.hid hWk
    have HBw := Lib.hid hB
    have HRB := Lib.hid hrb
    have HRN := Lib.hid hrn
    have HGK := Lib.hid hgk
    have c0 := hWk.c0
    have c1 := hWk.c1
    clear hB hrb hrn hgk
    by_cases hlt : i < F.len
    case neg =>
      have hil : F.inf.drop i = [] := List.eq_nil_of_length_eq_zero (by simp [inf_len]; omega)
      rw [hil] at HRB HRN
      have tl : decide ((i : Int) < (F.len : Int)) = false := by simp; omega
      have tl2 : decide (i < F.len) = false := by simp; omega
      clear hWk hlt hil
      go_wp2_with fail
      go_quiet (fail)
      go_wp2_with fail
      go_ret
      exact ⟨true, rfl, HRB.out, fun _ => by rw [← HRN.out]; exact HWk.out.later (below_drewN (Below.refl _ _) _), below_drewN HBw.out _⟩
    obtain ⟨k1, t1, n1, m1, a1, Q1, ad, A1, d1, R1, rfl, hd1, hR1, hP1⟩ := part_at (hWk.hold.more (by have := hWk.lt; have := hWk.ge; omega)) (j := i) hlt
    have tl : decide ((i : Int) < (F.len : Int)) = true := by simp; omega
    have tl2 : decide (i < F.len) = true := by simp; omega
    by_cases hk : k1 = 78
    case neg =>
      have tk : (k1 == 78) = false := beq_eq_false_iff_ne.2 hk
      have h0 := (hP1.cells wr (Below.refl _ _)).1
      rw [hd1, show runB 78 (·.hold) (mk k1 t1 n1 m1 Q1.inf :: R1) = true by simp [runB, mk, tk]] at HRB
      rw [hd1, show runN 78 (mk k1 t1 n1 m1 Q1.inf :: R1) = 0 by simp [runN, mk, tk]] at HRN
      clear hWk hk hd1 hR1 hP1
      go_wp2_with fail
      go_quiet (fail)
      go_wp2_with fail
      go_ret
      exact ⟨true, rfl, HRB.out, fun _ => by rw [← HRN.out]; exact HWk.out.later (below_drewN (Below.refl _ _) _), below_drewN HBw.out _⟩
    subst hk
    have h0 := (hP1.cells wr (Below.refl _ _)).1
    have KF := Lib.hid (hP1.good _ _ HA.out)
    have MK := Lib.hid (fun w' (h : BD wr w') => (⟨h, (hWk.later h).c0, (hWk.later h).c1, hP1.cells w' h⟩ : BD wr w' ∧ w'.cell? ⟨g, 0, none⟩ = some (.int .i64 ((i : Nat) : Int)) ∧ w'.cell? ⟨g, 1, none⟩ = some (.slice (some ad) F.len c) ∧ At6 w' (ad.add (i * 6)) 78 t1 n1 m1 a1 Q1.len A1 d1))
    rw [hd1, show runB 78 (·.hold) (mk 78 t1 n1 m1 Q1.inf :: R1) = ((mk 78 t1 n1 m1 Q1.inf).hold && runB 78 (·.hold) R1) by simp [runB, mk]] at HRB
    rw [hd1, show runN 78 (mk 78 t1 n1 m1 Q1.inf :: R1) = runN 78 R1 + 1 by simp [runN, mk]] at HRN
    rw [hR1] at HRB HRN
    have B0 := MK.out wr (Below.refl _ _)
    clear hWk hd1 hR1 hP1
    generalize (mk 78 t1 n1 m1 Q1.inf).hold = o at *
    generalize Q1.len = x1 at *
    unfold At6 at MK B0
    go_wp2_with fail
    go_quiet (fail)
    generalize hW2 : wr.drewN _ = W2
    have hb2 : Below wr.heap.size wr W2 := by rw [← hW2]; exact below_drewN (Below.refl _ _) _
    have MK2 := Lib.hid (fun w' (h : BD W2 w') => (⟨h, (MK.out w' (below_step hb2 h)).2⟩ : BD W2 w' ∧ w'.cell? ⟨g, 0, none⟩ = some (.int .i64 ((i : Nat) : Int)) ∧ w'.cell? ⟨g, 1, none⟩ = some (.slice (some ad) F.len c) ∧ w'.cell? (ad.add ((i) * 6)) = some (.int .i64 78) ∧ w'.cell? ⟨(ad.add ((i) * 6)).block, (ad.add ((i) * 6)).off + 1, none⟩ = some (.string t1) ∧ w'.cell? ⟨(ad.add ((i) * 6)).block, (ad.add ((i) * 6)).off + 2, none⟩ = some (.int .i64 n1) ∧ w'.cell? ⟨(ad.add ((i) * 6)).block, (ad.add ((i) * 6)).off + 3, none⟩ = some (.int .i64 m1) ∧ w'.cell? ⟨(ad.add ((i) * 6)).block, (ad.add ((i) * 6)).off + 4, none⟩ = some (.int .i64 a1) ∧ w'.cell? ⟨(ad.add ((i) * 6)).block, (ad.add ((i) * 6)).off + 5, none⟩ = some (.slice A1 x1 d1)))
    have KF2 := Lib.hid (fun w' (h : BD W2 w') => KF.out w' (below_step hb2 h))
    have HWk2 := Lib.hid (HWk.out.later hb2)
    have HBw2 := Lib.hid (below_trans HBw.out hb2 (by have := HWk.out.lt; have := HWk.out.ge; omega))
    have B2 := MK2.out W2 (Below.refl _ _)
    clear hW2 hb2 MK KF B0 HWk HBw c0 c1 h0
    cases o with
    | false =>
      go_wp2_with fail
      go_region_held3 (fun w' => BD W2 w' ∧ w'.cell? ⟨g, 0, none⟩ = some (.int .i64 ((i : Nat) : Int)) ∧ w'.cell? ⟨g, 1, none⟩ = some (.slice (some ad) F.len c) ∧ w'.cell? (ad.add ((i) * 6)) = some (.int .i64 78) ∧ w'.cell? ⟨(ad.add ((i) * 6)).block, (ad.add ((i) * 6)).off + 1, none⟩ = some (.string t1) ∧ w'.cell? ⟨(ad.add ((i) * 6)).block, (ad.add ((i) * 6)).off + 2, none⟩ = some (.int .i64 n1) ∧ w'.cell? ⟨(ad.add ((i) * 6)).block, (ad.add ((i) * 6)).off + 3, none⟩ = some (.int .i64 m1) ∧ w'.cell? ⟨(ad.add ((i) * 6)).block, (ad.add ((i) * 6)).off + 4, none⟩ = some (.int .i64 a1) ∧ w'.cell? ⟨(ad.add ((i) * 6)).block, (ad.add ((i) * 6)).off + 5, none⟩ = some (.slice A1 x1 d1))
        (first | exact B2 | exact MK2.out _ (Below.drew (Below.refl _ _)) | exact MK2.out _ (by assumption) | exact MK2.out _ (below_step (And.left (by assumption)) (by assumption)) | exact MK2.out _ (below_step (by assumption) (by assumption)))
        (first | (go_at_call 93; refine (KF2.out _ ?_).mono ?_; (first | exact And.left (by assumption) | exact Below.refl _ _ | exact Below.drew (Below.refl _ _) | assumption); rintro e w' ⟨rfl, hb⟩))
      rename_i w5 hS
      have HS5 := Lib.hid hS.1
      clear hS B2
      go_wp2_with fail
      go_ret
      exact ⟨false, rfl, by rw [← HRB.out]; rfl, fun h => (by cases h), below_trans HBw2.out HS5.out (by have := HWk2.out.lt; have := HWk2.out.ge; omega)⟩
    | true =>
      go_wp2_with fail
      go_region_held3 (fun w' => BD W2 w' ∧ w'.cell? ⟨g, 0, none⟩ = some (.int .i64 ((i : Nat) : Int)) ∧ w'.cell? ⟨g, 1, none⟩ = some (.slice (some ad) F.len c) ∧ w'.cell? (ad.add ((i) * 6)) = some (.int .i64 78) ∧ w'.cell? ⟨(ad.add ((i) * 6)).block, (ad.add ((i) * 6)).off + 1, none⟩ = some (.string t1) ∧ w'.cell? ⟨(ad.add ((i) * 6)).block, (ad.add ((i) * 6)).off + 2, none⟩ = some (.int .i64 n1) ∧ w'.cell? ⟨(ad.add ((i) * 6)).block, (ad.add ((i) * 6)).off + 3, none⟩ = some (.int .i64 m1) ∧ w'.cell? ⟨(ad.add ((i) * 6)).block, (ad.add ((i) * 6)).off + 4, none⟩ = some (.int .i64 a1) ∧ w'.cell? ⟨(ad.add ((i) * 6)).block, (ad.add ((i) * 6)).off + 5, none⟩ = some (.slice A1 x1 d1))
        (first | exact B2 | exact MK2.out _ (Below.drew (Below.refl _ _)) | exact MK2.out _ (by assumption) | exact MK2.out _ (below_step (And.left (by assumption)) (by assumption)) | exact MK2.out _ (below_step (by assumption) (by assumption)))
        (first | (go_at_call 93; refine (KF2.out _ ?_).mono ?_; (first | exact And.left (by assumption) | exact Below.refl _ _ | exact Below.drew (Below.refl _ _) | assumption); rintro e w' ⟨rfl, hb⟩))
      rename_i w5 hS
      have HS5 := Lib.hid hS.1
      clear hS B2
      have KS := Lib.hid (step_any (HWk2.out.later HS5.out) (by omega))
      go_wp2_with fail
      refine KS.out.mono ?_
      rintro e w6 ⟨rfl, hk6, hb6⟩
      have HK6 := Lib.hid hk6
      have HB6 := Lib.hid ((below_trans HBw2.out HS5.out (by have := HWk2.out.lt; have := HWk2.out.ge; omega)).trans hb6)
      have HR6 : Hid (runB 78 (·.hold) (F.inf.drop (i + 1)) = runB 78 (·.hold) (F.inf.drop i0)) := Lib.hid (by rw [← HRB.out]; rfl)
      have HN6 : Hid (i + 1 + runN 78 (F.inf.drop (i + 1)) = i0 + runN 78 (F.inf.drop i0)) := Lib.hid (by rw [← HRN.out]; omega)
      clear hk6 hb6
      go_wp2_with fail
      go_roundg (F.len - (i + 1))
      case measure => have := HGK.out; omega
      case rel => exact ⟨i + 1, by omega, rfl, HK6.out, HR6.out, HN6.out, HB6.out⟩
set_option maxRecDepth 100000 in
set_option maxHeartbeats 4000000 in
theorem while_method79 (F : Fo) (hall : AllC (FunP 94 (·.meth)) F) {g i0 : Nat} {A : Option Addr} {c B : Nat} {W : World} (h : Wk g i0 F A c B W) (hi0 : i0 ≤ F.len) (hlc : F.len ≤ c) (hcc : c ≤ 1000000000000000) :
    Calls Try.prog 78 #[.pointer (some ⟨g, 0, none⟩), .int .i64 79, .func (.func 94) #[] #[]] W fun e w' => ∃ b, e = .returned (.bool b) ∧ b = runB 79 (·.meth) (F.inf.drop i0) ∧ (b = true → Wk g (i0 + runN 79 (F.inf.drop i0)) F A c B w') ∧ Below B W w' := by
  have hl : F.len ≤ 1000000000000000 := by omega
  have HW := Lib.hid h
  have HA := Lib.hid hall
  clear h hall
  go_enter Try.func78, Try.ntmps78
  go_wp2_with fail
  go_loopg [7] (F.len - i0) (fun gk _ wr => ∃ i : Nat, i ≤ F.len ∧ gk = F.len - i ∧ Wk g i F A c B wr ∧ runB 79 (·.meth) (F.inf.drop i) = runB 79 (·.meth) (F.inf.drop i0) ∧ i + runN 79 (F.inf.drop i) = i0 + runN 79 (F.inf.drop i0) ∧ Below B W wr)
  case atStart => exact ⟨i0, hi0, rfl, HW.out, rfl, rfl, Below.refl _ _⟩
  case round =>
    obtain ⟨i, hi, hgk, hWk, hrb, hrn, hB⟩ := hrel
    have HWk := Lib.hid hWk
    have HBw := Lib.hid hB
    have HRB := Lib.hid hrb
    have HRN := Lib.hid hrn
    have HGK := Lib.hid hgk
    have c0 := hWk.c0
    have c1 := hWk.c1
    clear hB hrb hrn hgk
    by_cases hlt : i < F.len
    case neg =>
      have hil : F.inf.drop i = [] := List.eq_nil_of_length_eq_zero (by simp [inf_len]; omega)
      rw [hil] at HRB HRN
      have tl : decide ((i : Int) < (F.len : Int)) = false := by simp; omega
      have tl2 : decide (i < F.len) = false := by simp; omega
      clear hWk hlt hil
      go_wp2_with fail
      go_quiet (fail)
      go_wp2_with fail
      go_ret
      exact ⟨true, rfl, HRB.out, fun _ => by rw [← HRN.out]; exact HWk.out.later (below_drewN (Below.refl _ _) _), below_drewN HBw.out _⟩
    obtain ⟨k1, t1, n1, m1, a1, Q1, ad, A1, d1, R1, rfl, hd1, hR1, hP1⟩ := part_at (hWk.hold.more (by have := hWk.lt; have := hWk.ge; omega)) (j := i) hlt
    have tl : decide ((i : Int) < (F.len : Int)) = true := by simp; omega
    have tl2 : decide (i < F.len) = true := by simp; omega
    by_cases hk : k1 = 79
    case neg =>
      have tk : (k1 == 79) = false := beq_eq_false_iff_ne.2 hk
      have h0 := (hP1.cells wr (Below.refl _ _)).1
      rw [hd1, show runB 79 (·.meth) (mk k1 t1 n1 m1 Q1.inf :: R1) = true by simp [runB, mk, tk]] at HRB
      rw [hd1, show runN 79 (mk k1 t1 n1 m1 Q1.inf :: R1) = 0 by simp [runN, mk, tk]] at HRN
      clear hWk hk hd1 hR1 hP1
      go_wp2_with fail
      go_quiet (fail)
      go_wp2_with fail
      go_ret
      exact ⟨true, rfl, HRB.out, fun _ => by rw [← HRN.out]; exact HWk.out.later (below_drewN (Below.refl _ _) _), below_drewN HBw.out _⟩
    subst hk
    have h0 := (hP1.cells wr (Below.refl _ _)).1
    have KF := Lib.hid (hP1.good _ _ HA.out)
    have MK := Lib.hid (fun w' (h : BD wr w') => (⟨h, (hWk.later h).c0, (hWk.later h).c1, hP1.cells w' h⟩ : BD wr w' ∧ w'.cell? ⟨g, 0, none⟩ = some (.int .i64 ((i : Nat) : Int)) ∧ w'.cell? ⟨g, 1, none⟩ = some (.slice (some ad) F.len c) ∧ At6 w' (ad.add (i * 6)) 79 t1 n1 m1 a1 Q1.len A1 d1))
    rw [hd1, show runB 79 (·.meth) (mk 79 t1 n1 m1 Q1.inf :: R1) = ((mk 79 t1 n1 m1 Q1.inf).meth && runB 79 (·.meth) R1) by simp [runB, mk]] at HRB
    rw [hd1, show runN 79 (mk 79 t1 n1 m1 Q1.inf :: R1) = runN 79 R1 + 1 by simp [runN, mk]] at HRN
    rw [hR1] at HRB HRN
    have B0 := MK.out wr (Below.refl _ _)
    clear hWk hd1 hR1 hP1
    generalize (mk 79 t1 n1 m1 Q1.inf).meth = o at *
    generalize Q1.len = x1 at *
    unfold At6 at MK B0
    go_wp2_with fail
    go_quiet (fail)
    generalize hW2 : wr.drewN _ = W2
    have hb2 : Below wr.heap.size wr W2 := by rw [← hW2]; exact below_drewN (Below.refl _ _) _
    have MK2 := Lib.hid (fun w' (h : BD W2 w') => (⟨h, (MK.out w' (below_step hb2 h)).2⟩ : BD W2 w' ∧ w'.cell? ⟨g, 0, none⟩ = some (.int .i64 ((i : Nat) : Int)) ∧ w'.cell? ⟨g, 1, none⟩ = some (.slice (some ad) F.len c) ∧ w'.cell? (ad.add ((i) * 6)) = some (.int .i64 79) ∧ w'.cell? ⟨(ad.add ((i) * 6)).block, (ad.add ((i) * 6)).off + 1, none⟩ = some (.string t1) ∧ w'.cell? ⟨(ad.add ((i) * 6)).block, (ad.add ((i) * 6)).off + 2, none⟩ = some (.int .i64 n1) ∧ w'.cell? ⟨(ad.add ((i) * 6)).block, (ad.add ((i) * 6)).off + 3, none⟩ = some (.int .i64 m1) ∧ w'.cell? ⟨(ad.add ((i) * 6)).block, (ad.add ((i) * 6)).off + 4, none⟩ = some (.int .i64 a1) ∧ w'.cell? ⟨(ad.add ((i) * 6)).block, (ad.add ((i) * 6)).off + 5, none⟩ = some (.slice A1 x1 d1)))
    have KF2 := Lib.hid (fun w' (h : BD W2 w') => KF.out w' (below_step hb2 h))
    have HWk2 := Lib.hid (HWk.out.later hb2)
    have HBw2 := Lib.hid (below_trans HBw.out hb2 (by have := HWk.out.lt; have := HWk.out.ge; omega))
    have B2 := MK2.out W2 (Below.refl _ _)
    clear hW2 hb2 MK KF B0 HWk HBw c0 c1 h0
    cases o with
    | false =>
      go_wp2_with fail
      go_region_held3 (fun w' => BD W2 w' ∧ w'.cell? ⟨g, 0, none⟩ = some (.int .i64 ((i : Nat) : Int)) ∧ w'.cell? ⟨g, 1, none⟩ = some (.slice (some ad) F.len c) ∧ w'.cell? (ad.add ((i) * 6)) = some (.int .i64 79) ∧ w'.cell? ⟨(ad.add ((i) * 6)).block, (ad.add ((i) * 6)).off + 1, none⟩ = some (.string t1) ∧ w'.cell? ⟨(ad.add ((i) * 6)).block, (ad.add ((i) * 6)).off + 2, none⟩ = some (.int .i64 n1) ∧ w'.cell? ⟨(ad.add ((i) * 6)).block, (ad.add ((i) * 6)).off + 3, none⟩ = some (.int .i64 m1) ∧ w'.cell? ⟨(ad.add ((i) * 6)).block, (ad.add ((i) * 6)).off + 4, none⟩ = some (.int .i64 a1) ∧ w'.cell? ⟨(ad.add ((i) * 6)).block, (ad.add ((i) * 6)).off + 5, none⟩ = some (.slice A1 x1 d1))
        (first | exact B2 | exact MK2.out _ (Below.drew (Below.refl _ _)) | exact MK2.out _ (by assumption) | exact MK2.out _ (below_step (And.left (by assumption)) (by assumption)) | exact MK2.out _ (below_step (by assumption) (by assumption)))
        (first | (go_at_call 94; refine (KF2.out _ ?_).mono ?_; (first | exact And.left (by assumption) | exact Below.refl _ _ | exact Below.drew (Below.refl _ _) | assumption); rintro e w' ⟨rfl, hb⟩))
      rename_i w5 hS
      have HS5 := Lib.hid hS.1
      clear hS B2
      go_wp2_with fail
      go_ret
      exact ⟨false, rfl, by rw [← HRB.out]; rfl, fun h => (by cases h), below_trans HBw2.out HS5.out (by have := HWk2.out.lt; have := HWk2.out.ge; omega)⟩
    | true =>
      go_wp2_with fail
      go_region_held3 (fun w' => BD W2 w' ∧ w'.cell? ⟨g, 0, none⟩ = some (.int .i64 ((i : Nat) : Int)) ∧ w'.cell? ⟨g, 1, none⟩ = some (.slice (some ad) F.len c) ∧ w'.cell? (ad.add ((i) * 6)) = some (.int .i64 79) ∧ w'.cell? ⟨(ad.add ((i) * 6)).block, (ad.add ((i) * 6)).off + 1, none⟩ = some (.string t1) ∧ w'.cell? ⟨(ad.add ((i) * 6)).block, (ad.add ((i) * 6)).off + 2, none⟩ = some (.int .i64 n1) ∧ w'.cell? ⟨(ad.add ((i) * 6)).block, (ad.add ((i) * 6)).off + 3, none⟩ = some (.int .i64 m1) ∧ w'.cell? ⟨(ad.add ((i) * 6)).block, (ad.add ((i) * 6)).off + 4, none⟩ = some (.int .i64 a1) ∧ w'.cell? ⟨(ad.add ((i) * 6)).block, (ad.add ((i) * 6)).off + 5, none⟩ = some (.slice A1 x1 d1))
        (first | exact B2 | exact MK2.out _ (Below.drew (Below.refl _ _)) | exact MK2.out _ (by assumption) | exact MK2.out _ (below_step (And.left (by assumption)) (by assumption)) | exact MK2.out _ (below_step (by assumption) (by assumption)))
        (first | (go_at_call 94; refine (KF2.out _ ?_).mono ?_; (first | exact And.left (by assumption) | exact Below.refl _ _ | exact Below.drew (Below.refl _ _) | assumption); rintro e w' ⟨rfl, hb⟩))
      rename_i w5 hS
      have HS5 := Lib.hid hS.1
      clear hS B2
      have KS := Lib.hid (step_any (HWk2.out.later HS5.out) (by omega))
      go_wp2_with fail
      refine KS.out.mono ?_
      rintro e w6 ⟨rfl, hk6, hb6⟩
      have HK6 := Lib.hid hk6
      have HB6 := Lib.hid ((below_trans HBw2.out HS5.out (by have := HWk2.out.lt; have := HWk2.out.ge; omega)).trans hb6)
      have HR6 : Hid (runB 79 (·.meth) (F.inf.drop (i + 1)) = runB 79 (·.meth) (F.inf.drop i0)) := Lib.hid (by rw [← HRB.out]; rfl)
      have HN6 : Hid (i + 1 + runN 79 (F.inf.drop (i + 1)) = i0 + runN 79 (F.inf.drop i0)) := Lib.hid (by rw [← HRN.out]; omega)
      clear hk6 hb6
      go_wp2_with fail
      go_roundg (F.len - (i + 1))
      case measure => have := HGK.out; omega
      case rel => exact ⟨i + 1, by omega, rfl, HK6.out, HR6.out, HN6.out, HB6.out⟩
end Go.Proofs.Ytogoolpgajopcaa
