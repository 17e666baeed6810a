import Derived.Test.YtogoolpgajopcaaTrGd
namespace Go.Proofs.Ytogoolpgajopcaa
open Go.RowKit
set_option maxRecDepth 100000 in
set_option maxHeartbeats 4000000 in
theorem imports_any (P : Fo) (t : ByteArray) (n m a : Int) (A : Option Addr) (c : Nat) (w : World) (hH : Holds w w.heap.size P A 0) (hlc : P.len ≤ c) (hcc : c ≤ 1000000000000000) :
    Calls Try.prog 81 #[.agg #[.int .i64 70, .string t, .int .i64 n, .int .i64 m, .int .i64 a, .slice A P.len c]] w fun e w' => e = .returned (.bool (impD n m P.inf)) ∧ Below w.heap.size w w' := by
  have hl : P.len ≤ 1000000000000000 := by omega
  obtain ⟨y, hy⟩ : ∃ y, impD n m P.inf = y := ⟨_, rfl⟩
  rw [hy]
  unfold impD at hy
  rw [inf_len] at hy
  obtain ⟨gv, hgv⟩ : ∃ gv, P.inf.all (·.imp) = gv := ⟨_, rfl⟩
  rw [hgv] at hy
  have HY := Lib.hid hy
  have HG := Lib.hid hgv
  have HH := Lib.hid hH
  clear hy hgv hH
  go_enter Try.func81, Try.ntmps81
  go_wp2_with fail
  have HBX := Lib.hid (Box.new w 70 t n m a P.len A c)
  go_loopw [3] (fun v wr => ∃ (j : Nat) (Q : Fo), j + Q.len = P.len ∧ v = .int .i64 j ∧ Q.inf.all (·.imp) = gv ∧ Holds wr w.heap.size Q A j ∧ Box w w.heap.size 70 t n m a P.len A c wr) (fun v _ => P.len - (intOf v).toNat)
  case atStart => exact ⟨0, P, by omega, rfl, HG.out, HH.out.below ((Below.refl _ _).alloc (Nat.le_refl _) _), HBX.out⟩
  case round =>
    obtain ⟨j, Q, hj, rfl, hq, hHr, hBox⟩ := hrel
    have HBb := Lib.hid hBox
    have HBw := Lib.hid hBox.below
    have HQ := Lib.hid hq
    obtain ⟨-, -, x0, x1, x2, x3, x4, x5⟩ := hBox
    clear hq HBX HG HH
    cases Q with
    | nil =>
      have tj : decide ((j : Int) < (P.len : Int)) = false := by simp; simp [Fo.len] at hj; omega
      have tj2 : decide (j < P.len) = false := by simp; simp [Fo.len] at hj; omega
      have HYt : Hid ((plainB n m && decide (1 ≤ P.len)) = y) := Lib.hid (by rw [← HY.out, ← HQ.out]; simp [Fo.inf])
      clear hj hHr HQ HY
      unfold plainB at HYt
      by_cases h1 : 1 ≤ P.len
      · have t1 : decide ((1 : Int) ≤ (P.len : Int)) = true := by simp; omega
        have t2 : decide (1 ≤ P.len) = true := by simp; omega
        rw [t2] at HYt
        go_wp2_with fail
        all_goals
          go_ret
          refine ⟨ret_bool ?_, HBw.out⟩
          first | exact HYt.out | (rw [← HYt.out]; first | rfl | (simp [*]; done) | (simp_all; done))
      · have t1 : decide ((1 : Int) ≤ (P.len : Int)) = false := by simp; omega
        have t2 : decide (1 ≤ P.len) = false := by simp; omega
        rw [t2] at HYt
        go_wp2_with fail
        all_goals
          go_ret
          refine ⟨ret_bool ?_, HBw.out⟩
          first | exact HYt.out | (rw [← HYt.out]; first | rfl | (simp [*]; done) | (simp_all; done))
    | cons k1 t1 n1 m1 a1 P1 R1 =>
      obtain ⟨⟨ad, A1, c1, rfl, hblk, hcell, hc1, hc2, ht1, hP1⟩, hR1⟩ := hHr
      have hjl : j + 1 + R1.len = P.len := by simp only [Fo.len] at hj; omega
      have hjl2 : j < P.len := by omega
      have tj : decide ((j : Int) < (P.len : Int)) = true := by simp; omega
      obtain ⟨f0, f1, f2, f3, f4, f5⟩ := six hcell
      have hwr := HBw.out.size
      have KN := Lib.hid (rnamed_any k1 t1 n1 m1 a1 P1.len A1 c1 ht1)
      unfold Flat at KN
      have HQ2 : Hid ((impB k1 t1 n1 m1 P1.inf && R1.inf.all (·.imp)) = gv) := Lib.hid (by rw [← HQ.out]; simp [Fo.inf, mk])
      have HR1 := Lib.hid hR1
      clear hcell hR1 hj hP1 HQ
      by_cases hk : k1 = 71
      case neg =>
        have tk : (k1 != 71) = true := by simpa using hk
        have HD : Hid (gv = false) := Lib.hid (by rw [← HQ2.out]; unfold impB; rw [beq_eq_false_iff_ne.2 hk]; rfl)
        clear hk HQ2
        go_wp2_with fail
        go_ret
        exact ⟨ret_bool (by rw [← HY.out, HD.out]; simp), below_step HBw.out ((Below.refl _ _).alloc (Nat.le_refl _) _)⟩
      subst hk
      cases hb9 : (idB t1 && (m1 == 0)) with
      | false =>
        rw [hb9] at KN
        have HD : Hid (gv = false) := Lib.hid (by
          rw [← HQ2.out]; unfold impB plainB
          cases h1 : idB t1 with
          | false => simp
          | true => rw [h1] at hb9; simp only [Bool.true_and] at hb9; simp [hb9])
        clear hb9 HQ2
        go_wp2_with (go_at_call 41; refine (KN.out _).mono ?_; rintro e w2 ⟨rfl, hb⟩; have bp := (Box.new wr 71 t1 n1 m1 a1 P1.len A1 c1).later hb; have HBn := Lib.hid bp.below; obtain ⟨-, -, d0, d1, d2, d3, d4, d5⟩ := bp)
        go_ret
        exact ⟨ret_bool (by rw [← HY.out, HD.out]; simp), below_step HBw.out HBn.out⟩
      | true =>
      rw [hb9] at KN
      by_cases hn : n1 = 0
      case neg =>
        have tn : (n1 != 0) = true := by simpa using hn
        have HD : Hid (gv = false) := Lib.hid (by rw [← HQ2.out]; unfold impB plainB; rw [beq_eq_false_iff_ne.2 hn]; simp)
        clear hb9 hn HQ2
        go_wp2_with (go_at_call 41; refine (KN.out _).mono ?_; rintro e w2 ⟨rfl, hb⟩; have bp := (Box.new wr 71 t1 n1 m1 a1 P1.len A1 c1).later hb; have HBn := Lib.hid bp.below; obtain ⟨-, -, d0, d1, d2, d3, d4, d5⟩ := bp)
        go_ret
        exact ⟨ret_bool (by rw [← HY.out, HD.out]; simp), below_step HBw.out HBn.out⟩
      subst hn
      by_cases h1 : P1.len = 0
      case neg =>
        have tl : decide ((0 : Int) < (P1.len : Int)) = true := by simp; omega
        have tl2 : decide (0 < P1.len) = true := by simp; omega
        have HD : Hid (gv = false) := Lib.hid (by rw [← HQ2.out]; unfold impB lenB; rw [inf_len, decide_eq_false h1]; simp)
        clear hb9 h1 HQ2
        go_wp2_with (go_at_call 41; refine (KN.out _).mono ?_; rintro e w2 ⟨rfl, hb⟩; have bp := (Box.new wr 71 t1 0 m1 a1 P1.len A1 c1).later hb; have HBn := Lib.hid bp.below; obtain ⟨-, -, d0, d1, d2, d3, d4, d5⟩ := bp)
        go_ret
        exact ⟨ret_bool (by rw [← HY.out, HD.out]; simp), below_step HBw.out HBn.out⟩
      have HD : Hid (R1.inf.all (·.imp) = gv) := Lib.hid (by
        rw [← HQ2.out]
        simp only [Bool.and_eq_true] at hb9
        simp [impB, lenB, plainB, hb9.1, beq_iff_eq.1 hb9.2, inf_len, h1])
      rw [h1] at KN f5
      have tl : decide ((0 : Int) < 0) = false := rfl
      clear hb9 h1 HQ2
      go_wp2_with (go_at_call 41; refine (KN.out _).mono ?_; rintro e w2 ⟨rfl, hb⟩; have bp := (Box.new wr 71 t1 0 m1 a1 0 A1 c1).later hb; have HBn := Lib.hid bp.below; obtain ⟨-, -, d0, d1, d2, d3, d4, d5⟩ := bp)
      have HH2 := Lib.hid (HR1.out.below (HBn.out.mono HBw.out.size))
      have HBb3 := Lib.hid (HBb.out.later HBn.out)
      go_roundw
      case rel => exact ⟨j + 1, R1, hjl, by go_num, HD.out, HH2.out, HBb3.out⟩
      case measure => simp [intOf]; omega
end Go.Proofs.Ytogoolpgajopcaa
