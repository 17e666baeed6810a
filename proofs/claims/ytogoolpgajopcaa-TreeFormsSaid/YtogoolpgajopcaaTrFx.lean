import Derived.Test.YtogoolpgajopcaaTrFw
namespace Go.Proofs.Ytogoolpgajopcaa
open Go.RowKit
theorem allrO (P : Fo) : AllC (FunP 96 (·.refs)) P := AllC.of rone_any P
theorem allrF (P : Fo) : AllC (FunP 73 (·.fld)) P := AllC.of (fun Q => (rtype_prog Q).2.2) P
/-- The parts from a number on, where a slice expression leaves them. -/
theorem Holds.tail {w : World} {B : Nat} {P : Fo} {ad : Addr} (h : Holds w B P (some ad) 0) (i : Nat) {A' : Option Addr} (hA : A' = some (ad.add (i * 6)) ∨ (P.len = i ∧ A' = some ad)) : Holds w B (P.drop i) A' 0 := by
  have h1 := h.drop i
  rw [Nat.zero_add] at h1
  rcases hA with rfl | ⟨h0, rfl⟩
  · exact Holds.shift (r := 0) (by simpa using h1)
  · cases hq : P.drop i with
    | nil => trivial
    | cons k t n m a P' R' =>
      have h5 := drop_len P i
      rw [hq] at h5
      simp [Fo.len] at h5
      omega
set_option maxRecDepth 100000 in
set_option maxHeartbeats 4000000 in
theorem inter_any (P : Fo) (t : ByteArray) (n m a : Int) (A : Option Addr) (c : Nat) (w : World) (hH : Holds w w.heap.size P A 0) (hlc : P.len ≤ c) (hcc : c ≤ 1000000000000000) :
    Calls Try.prog 84 #[.agg #[.int .i64 74, .string t, .int .i64 n, .int .i64 m, .int .i64 a, .slice A P.len c]] w fun e w' => e = .returned (.bool (interR n P.inf)) ∧ Below w.heap.size w w' := by
  have hl : P.len ≤ 1000000000000000 := by omega
  obtain ⟨y, hy⟩ : ∃ y, interR n P.inf = y := ⟨_, rfl⟩
  rw [hy]
  unfold interR at hy
  have KV := Lib.hid (fun W (hW : Below w.heap.size w W) => vars_any P n A c W ((hH.below hW).more hW.size) hl)
  cases hv : varsB P.inf n with
  | false =>
    rw [hv] at KV hy
    have HY : Hid (false = y) := Lib.hid (by rw [← hy]; rfl)
    clear hy hv hH hlc
    generalize P.len = x at *
    go_enter Try.func84, Try.ntmps84
    go_wp2_with (first
      | (go_at_call 83; refine (KV.out _ (by first | exact Box.below (by assumption) | exact (Below.refl _ _).alloc (Nat.le_refl _) _)).mono ?_; rintro e w1 ⟨rfl, hb⟩; have bx := Box.later (by first | assumption | exact Box.new _ _ _ _ _ _ _ _ _) hb; have bx2 := bx; obtain ⟨-, -, c0, c1, c2, c3, c4, c5⟩ := bx2))
    all_goals
      go_ret
      refine ⟨ret_bool ?_, (by first | exact Box.below (by assumption) | exact (Below.refl _ _).alloc (Nat.le_refl _) _)⟩
      exact HY.out
  | true =>
  rw [hv, Bool.true_and] at hy
  rw [hv] at KV
  have hn : 0 ≤ n ∧ n.toNat ≤ P.len := by
    unfold varsB at hv
    simp only [Bool.and_eq_true, decide_eq_true_eq] at hv
    have := runN_le 73 P.inf
    rw [inf_len] at this
    omega
  obtain ⟨i, rfl⟩ : ∃ i : Nat, n = i := ⟨n.toNat, by omega⟩
  have hi : i ≤ P.len := by omega
  rw [show ((i : Int)).toNat = i from by simp] at hy
  have KR := Lib.hid (fun W (hW : Below w.heap.size w W) => run_any P 75 i A c W ((hH.below hW).more hW.size) hi hl)
  have hr : runN 75 (P.inf.drop i) ≤ P.len - i := by have := runN_le 75 (P.inf.drop i); simpa [inf_len] using this
  clear hv hn
  generalize runN 75 (P.inf.drop i) = r at *
  have hG : ((P.drop i).take r).len = r := take_len _ _ (by rw [drop_len]; exact hr)
  have hGi : ((P.drop i).take r).inf = (P.inf.drop i).take r := by rw [take_inf, drop_inf]
  rw [← hGi] at hy
  obtain ⟨gv, hgv⟩ : ∃ gv, ((P.drop i).take r).inf.all (·.refs) = gv := ⟨_, rfl⟩
  rw [hgv] at hy
  have HL : Hid (AllC (FunP 96 (·.refs)) ((P.drop i).take r)) := Lib.hid (((allrO P).drop i).take r)
  have HHG : Hid (∀ W, Below w.heap.size w W → Holds W w.heap.size ((P.drop i).take r) A i) := Lib.hid (fun W hW => by
    have h := ((hH.below hW).drop i).take r
    rwa [Nat.zero_add] at h)
  have KF : Hid (∀ (ad : Addr) (A' : Option Addr) (c' : Nat) (W : World), A = some ad → (A' = some (ad.add ((i + r) * 6)) ∨ (P.len = i + r ∧ A' = some ad)) → Below w.heap.size w W → Calls Try.prog 44 #[.slice A' (P.len - (i + r)) c'] W fun e w' => e = .returned (.bool ((P.inf.drop (i + r)).all (·.fld))) ∧ Below W.heap.size W w') := Lib.hid (fun ad A' c' W hA hA' hW => by
    subst hA
    have hT := (hH.tail (i + r) hA')
    have h := rfields_any (P.drop (i + r)) ((allrF P).drop (i + r)) A' c' W ((hT.below hW).more hW.size) (by rw [drop_len]; omega)
    rw [drop_len, drop_inf] at h
    exact h)
  have HG := Lib.hid hgv
  have HY := Lib.hid hy
  rcases Nat.eq_zero_or_pos P.len with h0 | h0
  · obtain rfl : i = 0 := by omega
    obtain rfl : r = 0 := by omega
    have hP : P = .nil := by
      cases P with
      | nil => rfl
      | cons => simp [Fo.len] at h0
    subst hP
    have HY0 : Hid (true = y) := Lib.hid (by rw [← HY.out, ← HG.out]; rfl)
    have KF0 := Lib.hid (fun A' c' W => rfields_any .nil trivial A' c' W trivial (by decide))
    simp only [Fo.len, Fo.inf, List.all_nil] at KF0 KV KR ⊢
    clear hG hGi HHG HL KF HY HG hy hgv hH h0 hi hr hl
    by_cases hc0 : c = 0
    · subst hc0
      cases A
      all_goals
        go_enter Try.func84, Try.ntmps84
        go_wp2_with (first
          | (go_at_call 83; refine (KV.out _ (by first | exact Box.below (by assumption) | exact (Below.refl _ _).alloc (Nat.le_refl _) _)).mono ?_; rintro e w1 ⟨rfl, hb⟩; have bx := Box.later (by first | assumption | exact Box.new _ _ _ _ _ _ _ _ _) hb; have bx2 := bx; obtain ⟨-, -, c0, c1, c2, c3, c4, c5⟩ := bx2)
          | (go_at_call 82; refine (KR.out _ (Box.below (by assumption))).mono ?_; rintro e w1 ⟨rfl, rfl⟩))
        refine wp_loop_rounds 1 ?_
        rw [rounds_succ]
        go_wp2_with (first
          | (go_at_call 44; refine (KF0.out _ _ _).mono ?_; rintro e w1 ⟨rfl, hb⟩; have bx := Box.later (by assumption) hb))
        go_ret
        exact ⟨ret_bool HY0.out, Box.below (by assumption)⟩
    · have hc1 : 0 < c := by omega
      cases A
      all_goals
        go_enter Try.func84, Try.ntmps84
        go_wp2_with (first
          | (go_at_call 83; refine (KV.out _ (by first | exact Box.below (by assumption) | exact (Below.refl _ _).alloc (Nat.le_refl _) _)).mono ?_; rintro e w1 ⟨rfl, hb⟩; have bx := Box.later (by first | assumption | exact Box.new _ _ _ _ _ _ _ _ _) hb; have bx2 := bx; obtain ⟨-, -, c0, c1, c2, c3, c4, c5⟩ := bx2)
          | (go_at_call 82; refine (KR.out _ (Box.below (by assumption))).mono ?_; rintro e w1 ⟨rfl, rfl⟩))
        refine wp_loop_rounds 1 ?_
        rw [rounds_succ]
        go_wp2_with (first
          | (go_at_call 44; refine (KF0.out _ _ _).mono ?_; rintro e w1 ⟨rfl, hb⟩; have bx := Box.later (by assumption) hb))
        go_ret
        exact ⟨ret_bool HY0.out, Box.below (by assumption)⟩
  obtain ⟨k9, t9, n9, m9, a9, Q9, ad, A9, d9, R9, rfl, -, -, -⟩ := part_at hH (j := 0) h0
  clear hgv hy hGi hH hG
  go_enter Try.func84, Try.ntmps84
  go_wp2_with (first
    | (go_at_call 83; refine (KV.out _ (by first | exact Box.below (by assumption) | exact (Below.refl _ _).alloc (Nat.le_refl _) _)).mono ?_; rintro e w1 ⟨rfl, hb⟩; have bx := Box.later (by first | assumption | exact Box.new _ _ _ _ _ _ _ _ _) hb; have bx2 := bx; obtain ⟨-, -, c0, c1, c2, c3, c4, c5⟩ := bx2)
    | (go_at_call 82; refine (KR.out _ (Box.below (by assumption))).mono ?_; rintro e w1 ⟨rfl, rfl⟩))
  have HBX := Lib.hid bx
  clear bx hb
  go_loopw [5] (fun v wr => ∃ (j : Nat) (Q : Fo), j + Q.len = i + r ∧ v = .int .i64 j ∧ Q.inf.all (·.refs) = gv ∧ AllC (FunP 96 (·.refs)) Q ∧ Holds wr w.heap.size Q (some ad) j ∧ Box w w.heap.size 74 t i m a P.len (some ad) c wr) (fun v _ => i + r - (intOf v).toNat)
  case atStart => exact ⟨i, (P.drop i).take r, by rw [take_len _ _ (by rw [drop_len]; exact hr)], rfl, HG.out, HL.out, HHG.out _ HBX.out.below, HBX.out⟩
  case round =>
    obtain ⟨j, Q, hj, rfl, hq, hlf, hHr, hBox⟩ := hrel
    have HBb := Lib.hid hBox
    have HBw := Lib.hid hBox.below
    have HQ := Lib.hid hq
    obtain ⟨-, -, -, -, -, -, -, x5⟩ := hBox
    clear hq
    cases Q with
    | nil =>
      have tj : decide ((j : Int) < (i : Int) + (r : Int)) = false := by simp; simp [Fo.len] at hj; omega
      have tj2 : decide (j < i + r) = false := by simp; simp [Fo.len] at hj; omega
      clear hj hlf hHr
      have HYt : Hid ((P.inf.drop (i + r)).all (·.fld) = y) := Lib.hid (by rw [← HY.out, ← HQ.out]; rfl)
      clear HQ HY
      have bx9 := HBb.out
      by_cases hcap : i + r = c
      · have hP : P.len = i + r := by omega
        have KF1 := Lib.hid (fun c' W hW => KF.out ad (some ad) c' W rfl (.inr ⟨hP, rfl⟩) hW)
        rw [show P.len - (i + r) = 0 by omega] at KF1
        clear KF
        go_wp2_with (first
          | (go_at_call 44; refine (KF1.out _ _ (by first | exact Box.below (by assumption) | exact (Below.refl _ _).alloc (Nat.le_refl _) _)).mono ?_; rintro e w1 ⟨rfl, hb⟩; have bx := Box.later (by first | assumption | exact Box.new _ _ _ _ _ _ _ _ _) hb; have bx2 := bx; obtain ⟨-, -, c0, c1, c2, c3, c4, c5⟩ := bx2))
        go_ret
        exact ⟨ret_bool (by first | exact HYt.out | (rw [← hcap]; exact HYt.out)), Box.below (by assumption)⟩
      · have hcl : i + r < c := by omega
        have KF1 := Lib.hid (fun c' W hW => KF.out ad (some (ad.add ((i + r) * 6))) c' W rfl (.inl rfl) hW)
        clear KF
        go_wp2_with (first
          | (go_at_call 44; refine (KF1.out _ _ (by first | exact Box.below (by assumption) | exact (Below.refl _ _).alloc (Nat.le_refl _) _)).mono ?_; rintro e w1 ⟨rfl, hb⟩; have bx := Box.later (by first | assumption | exact Box.new _ _ _ _ _ _ _ _ _) hb; have bx2 := bx; obtain ⟨-, -, c0, c1, c2, c3, c4, c5⟩ := bx2))
        go_ret
        exact ⟨ret_bool (by first | exact HYt.out | (rw [← hcap]; exact HYt.out)), Box.below (by assumption)⟩
    | cons k1 t1 n1 m1 a1 P1 R1 =>
      obtain ⟨⟨ad2, A1, c1, hA2, hblk, hcell, hc1, hc2, ht1, hP1⟩, hR1⟩ := hHr
      cases hA2
      obtain ⟨hf1, hlf⟩ := hlf
      have hjl : j + 1 + R1.len = i + r := by simp only [Fo.len] at hj; omega
      have hjl2 : j < i + r := by omega
      have hjl3 : j < P.len := by omega
      obtain ⟨f0, f1, f2, f3, f4, f5⟩ := six hcell
      have hwr := HBw.out.size
      have K := Lib.hid (hf1 k1 t1 n1 m1 a1 A1 c1 wr (hP1.more hwr) hc1 hc2 ht1)
      simp only [val6, cells6] at K
      have HQ2 : Hid (((mk k1 t1 n1 m1 P1.inf).refs && R1.inf.all (·.refs)) = gv) := Lib.hid (by rw [← HQ.out]; simp [Fo.inf])
      have HR1 := Lib.hid hR1
      have HLF := Lib.hid hlf
      generalize (mk k1 t1 n1 m1 P1.inf).refs = b at *
      clear hcell hR1 hlf hj hP1 hf1 HQ
      go_wp2_with fail
      refine K.out.mono ?_
      rintro e w2 ⟨rfl, hb⟩
      have HB3 := Lib.hid hb
      have HBb3 := Lib.hid (HBb.out.later hb)
      have HH2 := Lib.hid (HR1.out.below (HB3.out.mono HBw.out.size))
      clear hb
      cases b with
      | false =>
        have HD : Hid (gv = false) := Lib.hid (by rw [← HQ2.out]; rfl)
        go_wp2_with fail
        go_ret
        exact ⟨ret_bool (by rw [← HY.out, HD.out]; rfl), below_step HBw.out HB3.out⟩
      | true =>
        have HD : Hid (R1.inf.all (·.refs) = gv) := Lib.hid (by rw [← HQ2.out]; rfl)
        go_wp2_with fail
        go_roundw
        case rel => exact ⟨j + 1, R1, hjl, by go_num, HD.out, HLF.out, HH2.out, HBb3.out⟩
        case measure => simp [intOf]; omega
end Go.Proofs.Ytogoolpgajopcaa
