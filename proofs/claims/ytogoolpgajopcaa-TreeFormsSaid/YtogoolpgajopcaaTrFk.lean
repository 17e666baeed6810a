import Derived.Test.YtogoolpgajopcaaTrFj
namespace Go.Proofs.Ytogoolpgajopcaa
open Go.RowKit
set_option maxRecDepth 100000 in
set_option maxHeartbeats 4000000 in
theorem robjects_any (F : Fo) (hall : AllC (fun Q => AllC (FunP 14 (·.ex)) Q) F) (A : Option Addr) (c : Nat) (w : World) (hH : Holds w w.heap.size F A 0) (hl : F.len ≤ 1000000000000000) : Calls Try.prog 49 #[.slice A F.len c] w fun e w' => e = .returned (.bool (F.inf.all (·.efl))) ∧ Below w.heap.size w w' := by
  have HL := Lib.hid hall
  have HH := Lib.hid hH
  clear hall hH
  go_enter Try.func49, Try.ntmps49
  go_wp2_with fail
  go_loopw [3] (fun i wr => ∃ (j : Nat) (Q : Fo), j + Q.len = F.len ∧ i = .int .i64 j ∧ Q.inf.all (·.efl) = F.inf.all (·.efl) ∧ AllC (fun Q => AllC (FunP 14 (·.ex)) Q) Q ∧ Holds wr w.heap.size Q A j ∧ Below w.heap.size w wr) (fun i _ => F.len - (intOf i).toNat)
  case atStart => exact ⟨0, F, by omega, by go_num, rfl, HL.out, HH.out, Below.refl _ _⟩
  case round =>
    obtain ⟨j, Q, hj, rfl, hq, hlf, hHr, hB⟩ := hrel
    have HBw := Lib.hid hB
    have HQ := Lib.hid hq
    clear hB hq
    cases Q with
    | nil =>
      have tj : decide ((j : Int) < (F.len : Int)) = false := by simp; simp [Fo.len] at hj; omega
      have tj2 : decide (j < F.len) = false := by simp; simp [Fo.len] at hj; omega
      clear hj hlf hHr
      go_wp2_with fail
      go_ret
      exact ⟨ret_bool HQ.out, HBw.out⟩
    | cons k1 t1 n1 m1 a1 P1 R1 =>
      obtain ⟨⟨ad, A1, c1, rfl, hblk, hcell, hc1, hc2, ht1, hP1⟩, hR1⟩ := hHr
      obtain ⟨hf1, hlf⟩ := hlf
      have hjl : j + 1 + R1.len = F.len := by simp only [Fo.len] at hj; omega
      have hjl2 : j < F.len := by omega
      obtain ⟨f0, f1, f2, f3, f4, f5⟩ := six hcell
      have hwr := HBw.out.size
      have HQ2 : Hid ((eflB k1 t1 n1 m1 P1.inf && R1.inf.all (·.efl)) = F.inf.all (·.efl)) := Lib.hid (by rw [← HQ.out]; simp [Fo.inf, mk])
      have HR1 := Lib.hid hR1
      have HLF := Lib.hid hlf
      have hPr : Holds wr wr.heap.size P1 A1 0 := hP1.more hwr
      have FX := Lib.hid (fun W (hW : Below wr.heap.size wr W) => six (w := W) (fun x u hu => (hW.cell (by rw [block_add, block_add]; omega)).trans (hcell x u hu)))
      have KN := Lib.hid (rnamed_any k1 t1 n1 m1 a1 P1.len A1 c1 ht1)
      unfold Flat at KN
      clear hcell hR1 hlf hj hP1 HQ
      by_cases hk : k1 = 28
      case neg =>
        have tk : (k1 != 28) = true := by simpa using hk
        have HD : Hid (F.inf.all (·.efl) = false) := Lib.hid (by rw [← HQ2.out]; unfold eflB; rw [beq_eq_false_iff_ne.2 hk]; rfl)
        clear hk hf1 hPr
        go_wp2_with fail
        go_ret
        exact ⟨ret_bool HD.out.symm, HBw.out⟩
      subst hk
      cases hb9 : (idB t1 && (m1 == 0)) with
      | false =>
        rw [hb9] at KN
        have HD : Hid (F.inf.all (·.efl) = false) := Lib.hid (by
          rw [← HQ2.out]; unfold eflB plainB
          cases h1 : idB t1 with
          | false => simp
          | true => rw [h1] at hb9; simp only [Bool.true_and] at hb9; simp [hb9])
        clear hb9 hf1 hPr
        go_wp2_with (go_at_call 41; refine (KN.out _).mono ?_; rintro e w2 ⟨rfl, hb⟩; obtain ⟨f0, f1, f2, f3, f4, f5⟩ := FX.out _ hb; have HBn := Lib.hid hb)
        go_ret
        exact ⟨ret_bool HD.out.symm, below_step HBw.out HBn.out⟩
      | true =>
      rw [hb9] at KN
      by_cases hn : n1 = 0
      case neg =>
        have tn : (n1 != 0) = true := by simpa using hn
        have HD : Hid (F.inf.all (·.efl) = false) := Lib.hid (by rw [← HQ2.out]; unfold eflB plainB; rw [beq_eq_false_iff_ne.2 hn]; simp)
        clear hb9 hf1 hn hPr
        go_wp2_with (go_at_call 41; refine (KN.out _).mono ?_; rintro e w2 ⟨rfl, hb⟩; obtain ⟨f0, f1, f2, f3, f4, f5⟩ := FX.out _ hb; have HBn := Lib.hid hb)
        go_ret
        exact ⟨ret_bool HD.out.symm, below_step HBw.out HBn.out⟩
      subst hn
      by_cases h1 : P1.len = 1
      case neg =>
        have tl : (((P1.len : Nat) : Int) != 1) = true := by rw [bne_iff_ne]; omega
        have HD : Hid (F.inf.all (·.efl) = false) := Lib.hid (by rw [← HQ2.out]; unfold eflB exprsB lenB; rw [inf_len, decide_eq_false h1]; simp)
        clear hb9 hf1 h1 hPr
        generalize P1.len = x1 at *
        go_wp2_with (go_at_call 41; refine (KN.out _).mono ?_; rintro e w2 ⟨rfl, hb⟩; obtain ⟨f0, f1, f2, f3, f4, f5⟩ := FX.out _ hb; have HBn := Lib.hid hb)
        go_ret
        exact ⟨ret_bool HD.out.symm, below_step HBw.out HBn.out⟩
      obtain ⟨k2, t2, n2, m2, a2, Q, ad2, A2, c2, R2, rfl, hd, hR, hP⟩ := part_at hPr (j := 0) (by omega)
      have hR0 : R2 = [] := by rw [hR]; exact List.eq_nil_of_length_eq_zero (by simp [inf_len]; omega)
      have hX : exprsB P1.inf 1 = (mk k2 t2 n2 m2 Q.inf).ex := by
        unfold exprsB lenB
        rw [inf_len, decide_eq_true h1, show P1.inf = P1.inf.drop 0 by simp, hd, hR0]; simp
      have K2 := Lib.hid (hP.good _ _ hf1)
      have FX2 : Hid (∀ W, Below wr.heap.size wr W → At6 W ad2 k2 t2 n2 m2 a2 Q.len A2 c2) := Lib.hid (fun W hW => hP.cells W hW)
      unfold At6 at FX2
      have HE : Hid (((mk k2 t2 n2 m2 Q.inf).ex && R1.inf.all (·.efl)) = F.inf.all (·.efl)) := Lib.hid (by
        rw [← HQ2.out, ← hX]
        simp only [Bool.and_eq_true] at hb9
        simp [eflB, plainB, hb9.1, beq_iff_eq.1 hb9.2])
      rw [h1] at KN FX f5
      have h1c : 1 ≤ c1 := by omega
      clear hb9 hf1 h1 hd hR hP hR0 hX HQ2 hPr
      generalize (mk k2 t2 n2 m2 Q.inf).ex = b at *
      generalize Q.len = q at *
      go_wp2_with (first
        | (go_at_call 41; refine (KN.out _).mono ?_; rintro e w2 ⟨rfl, hb⟩; obtain ⟨f0, f1, f2, f3, f4, f5⟩ := FX.out _ hb; have HBn := Lib.hid hb; obtain ⟨g0, g1, g2, g3, g4, g5⟩ := FX2.out _ hb)
        | (go_at_call 14; refine (K2.out _ HBn.out).mono ?_; rintro e w3 ⟨rfl, hb3⟩; have HB3 := Lib.hid (below_step HBn.out hb3); cases b))
      · have HD : Hid (F.inf.all (·.efl) = false) := Lib.hid (by rw [← HE.out]; rfl)
        go_ret
        exact ⟨ret_bool HD.out.symm, below_step HBw.out HB3.out⟩
      · have HD : Hid (R1.inf.all (·.efl) = F.inf.all (·.efl)) := Lib.hid (by rw [← HE.out]; rfl)
        have HH2 := Lib.hid (HR1.out.below (HB3.out.mono HBw.out.size))
        go_roundw
        case rel => exact ⟨j + 1, R1, hjl, by go_num, HD.out, HLF.out, HH2.out, below_step HBw.out HB3.out⟩
        case measure => simp [intOf]; omega
set_option maxRecDepth 100000 in
set_option maxHeartbeats 2000000 in
theorem rfunc_any (P : Fo) (hallb : AllC (FunP 58 (·.blk)) P) (n : Int) (A : Option Addr) (c : Nat) (w : World) (hH : Holds w w.heap.size P A 0) (hlc : P.len ≤ c) (hcc : c ≤ 1000000000000000) :
    Calls Try.prog 51 #[.slice A P.len c, .int .i64 n] w fun e w' => e = .returned (.bool (routB n P.inf true)) ∧ Below w.heap.size w w' := by
  have hallp : AllC (FunP 72 (·.par)) P := AllC.of (fun Q => (rtype_prog Q).2.1) P
  have hallT : AllC (FunP 12 (·.ty)) P := AllC.of (fun Q => (rtype_prog Q).1) P
  obtain ⟨y, hy⟩ : ∃ y, routB n P.inf true = y := ⟨_, rfl⟩
  rw [hy]
  unfold routB at hy
  simp only [inf_len, if_true, Bool.not_true, Bool.false_or] at hy
  have KR := Lib.hid (rpars_any P hallp n A c w hH (by omega))
  by_cases hg : (P.len : Int) = n + 2 ∧ 0 ≤ n
  case neg =>
    have HY : Hid (false = y) := Lib.hid (by
      rw [← hy]
      by_cases h2 : 2 ≤ P.len
      · rw [decide_eq_false (p := n = ((P.len - 2 : Nat) : Int)) (by omega)]; simp
      · rw [decide_eq_false h2]; rfl)
    cases hp : parsB P.inf n with
    | false =>
      rw [hp] at KR
      clear hy hH hallp hallT hallb hlc hp hg
      generalize P.len = x at *
      go_enter Try.func51, Try.ntmps51
      go_wp2_with (go_at_call 43; refine KR.out.mono ?_; rintro e w2 ⟨rfl, hb⟩)
      go_ret
      exact ⟨ret_bool HY.out, hb⟩
    | true =>
      rw [hp] at KR
      have hq : 0 ≤ n ∧ n ≤ (P.len : Int) := by
        unfold parsB at hp
        rw [inf_len] at hp
        simp only [Bool.and_eq_true, decide_eq_true_eq] at hp
        exact hp.1
      have tn : (((P.len : Nat) : Int) != n + 2) = true := by rw [bne_iff_ne]; omega
      have hl : P.len ≤ 1000000000000000 := by omega
      clear hy hH hallp hallT hallb hlc hp hg
      generalize P.len = x at *
      go_enter Try.func51, Try.ntmps51
      go_wp2_with (go_at_call 43; refine KR.out.mono ?_; rintro e w2 ⟨rfl, hb⟩)
      go_ret
      exact ⟨ret_bool HY.out, hb⟩
  obtain ⟨x, rfl⟩ : ∃ x : Nat, n = x := ⟨n.toNat, by omega⟩
  have hx : P.len = x + 2 := by omega
  rw [hx] at hy
  simp only [Nat.add_sub_cancel, show 2 ≤ x + 2 from by omega, decide_true, Bool.true_and] at hy
  obtain ⟨k1, t1, n1, m1, a1, Q1, ad, A1, d1, R1, rfl, hd1, hR1, hP1⟩ := part_at hH (j := x) (by omega)
  obtain ⟨k2, t2, n2, m2, a2, Q2, ad2, A2, d2, R2, had, hd2, hR2, hP2⟩ := part_at hH (j := x + 1) (by omega)
  cases had
  have e2 := drop_last hd2 hR2 (by omega)
  have e1 : (P.inf.drop x).take 1 = [mk k1 t1 n1 m1 Q1.inf] := by rw [hd1]; rfl
  rw [e1, e2] at hy
  have hpb : parsB P.inf (x : Int) = (P.inf.take x).all (·.par) := by
    unfold parsB
    rw [inf_len, hx, decide_eq_true (by omega)]; simp
  rw [hpb, hx] at KR
  have KL1 := Lib.hid (hP1.good _ _ hallT)
  have FX1 := Lib.hid (fun W hW => hP1.cells W hW)
  have KL2 := Lib.hid (hP2.good _ _ hallb)
  have FX2 := Lib.hid (fun W hW => hP2.cells W hW)
  rw [hx]
  have hxc : x + 2 ≤ c := by omega
  unfold At6 at FX1 FX2
  clear e2 e1 hH hallp hallT hallb hd2 hR2 hP2 hlc hg hx hd1 hR1 hP1 hpb
  simp only [List.all_cons, List.all_nil, Bool.and_true] at hy
  generalize (P.inf.take x).all (·.par) = b5 at *
  generalize (mk k1 t1 n1 m1 Q1.inf).ty = b6 at *
  generalize (mk k2 t2 n2 m2 Q2.inf).blk = b7 at *
  generalize Q1.len = x1 at *
  generalize Q2.len = x2 at *
  have tq : (((x + 2 : Nat) : Int) != (x : Int) + 2) = false := by simp
  have HY := Lib.hid hy
  clear hy
  go_enter Try.func51, Try.ntmps51
  go_wp2_with (first
    | (go_at_call 43; refine KR.out.mono ?_; rintro e w2 ⟨rfl, hb⟩; have HB2 := Lib.hid hb; obtain ⟨f0, f1, f2, f3, f4, f5⟩ := FX1.out _ hb)
    | (go_at_call 12; refine (KL1.out _ HB2.out).mono ?_; rintro e w3 ⟨rfl, hb3⟩; have HB2' := Lib.hid (below_step HB2.out hb3); obtain ⟨g0, g1, g2, g3, g4, g5⟩ := FX2.out _ HB2'.out)
    | (go_at_call 58; refine (KL2.out _ HB2'.out).mono ?_; rintro e w4 ⟨rfl, hb4⟩; have HB2'' := Lib.hid (below_step HB2'.out hb4)))
  all_goals
    go_ret
    refine ⟨ret_bool ?_, by first | exact HB2''.out | exact HB2'.out | exact HB2.out⟩
    first | exact HY.out | (rw [← HY.out]; first | rfl | exact beq0 _ | (simp [*]; done) | (simp [*]; omega) | (simp_all; done) | (simp_all; omega))
set_option maxRecDepth 100000 in
set_option maxHeartbeats 2000000 in
theorem rblock_any (P : Fo) (halls : AllC (FunP 16 (·.st)) P) : FunP 58 (·.blk) P := by
  intro k t n m a A c w hH hlc hcc ht
  have hl : P.len ≤ 1000000000000000 := by omega
  simp only [val6, cells6]
  obtain ⟨y, hy⟩ : ∃ y, (mk k t n m P.inf).blk = y := ⟨_, rfl⟩
  rw [hy]
  rw [show (mk k t n m P.inf).blk = ((k == 59) && (bareB t n m && P.inf.all (·.st))) from rfl] at hy
  by_cases hk : k = 59
  case neg =>
    have tk : (k == 59) = false := beq_eq_false_iff_ne.2 hk
    have tk2 : (k != 59) = true := by simpa using hk
    have HY : Hid (false = y) := Lib.hid (by rw [← hy, tk]; rfl)
    clear hy hH halls hk hlc hcc
    go_enter Try.func58, Try.ntmps58
    go_wp2_with fail
    all_goals
      go_ret
      refine ⟨ret_bool ?_, (by first | exact Box.below (by assumption) | exact (Below.refl _ _).alloc (Nat.le_refl _) _)⟩
      exact HY.out
  subst hk
  have KP := Lib.hid (rplain_any 59 t n m a P.len A c)
  unfold Flat at KP
  cases hb0 : bareB t n m with
  | false =>
    rw [hb0] at KP hy
    have HY : Hid (false = y) := Lib.hid (by rw [← hy]; rfl)
    clear hy hH halls hlc hb0
    generalize P.len = x at *
    go_enter Try.func58, Try.ntmps58
    go_wp2_with (first
      | (go_at_call 42; refine (KP.out _).mono ?_; rintro e w1 ⟨rfl, hb⟩; have bx := Box.later (by first | assumption | exact Box.new _ _ _ _ _ _ _ _ _) hb; have bx2 := bx; obtain ⟨-, -, c0, c1, c2, c3, c4, c5⟩ := bx2))
    all_goals
      go_ret
      refine ⟨ret_bool ?_, (by first | exact Box.below (by assumption) | exact (Below.refl _ _).alloc (Nat.le_refl _) _)⟩
      exact HY.out
  | true =>
  rw [hb0] at KP hy
  have HY : Hid (P.inf.all (·.st) = y) := Lib.hid (by rw [← hy]; rfl)
  have HL := Lib.hid halls
  have HH := Lib.hid hH
  clear hy hH halls hlc hb0
  go_enter Try.func58, Try.ntmps58
  go_wp2_with (first
    | (go_at_call 42; refine (KP.out _).mono ?_; rintro e w1 ⟨rfl, hb⟩; have bx := Box.later (by first | assumption | exact Box.new _ _ _ _ _ _ _ _ _) hb; have bx2 := bx; obtain ⟨-, -, c0, c1, c2, c3, c4, c5⟩ := bx2))
  have HBX := Lib.hid bx
  have HH1 := Lib.hid (HH.out.below bx.below)
  clear bx hb
  go_loopw [3] (fun i wr => ∃ (j : Nat) (Q : Fo), j + Q.len = P.len ∧ i = .int .i64 j ∧ Q.inf.all (·.st) = P.inf.all (·.st) ∧ AllC (FunP 16 (·.st)) Q ∧ Holds wr w.heap.size Q A j ∧ Box w w.heap.size 59 t n m a P.len A c wr) (fun i _ => P.len - (intOf i).toNat)
  case atStart => exact ⟨0, P, by omega, by go_num, rfl, HL.out, HH1.out, HBX.out⟩
  case round =>
    obtain ⟨j, Q, hj, rfl, hq, hlf, hHr, hBox⟩ := hrel
    have HBb := Lib.hid hBox
    have HBw := Lib.hid hBox.below
    have HQ := Lib.hid hq
    obtain ⟨-, -, -, -, -, -, -, x5⟩ := hBox
    clear hq
    cases Q with
    | nil =>
      have tj : decide ((j : Int) < (P.len : Int)) = false := by simp; simp [Fo.len] at hj; omega
      have tj2 : decide (j < P.len) = false := by simp; simp [Fo.len] at hj; omega
      clear hj hlf hHr
      go_wp2_with fail
      go_ret
      exact ⟨ret_bool (HQ.out.trans HY.out), HBw.out⟩
    | cons k1 t1 n1 m1 a1 P1 R1 =>
      obtain ⟨⟨ad, A1, c1, rfl, hblk, hcell, hc1, hc2, ht1, hP1⟩, hR1⟩ := hHr
      obtain ⟨hf1, hlf⟩ := hlf
      have hjl : j + 1 + R1.len = P.len := by simp only [Fo.len] at hj; omega
      have hjl2 : j < P.len := by omega
      obtain ⟨f0, f1, f2, f3, f4, f5⟩ := six hcell
      have hwr := HBw.out.size
      have K := Lib.hid (hf1 k1 t1 n1 m1 a1 A1 c1 wr (hP1.more hwr) hc1 hc2 ht1)
      simp only [val6, cells6] at K
      have HQ2 : Hid (((mk k1 t1 n1 m1 P1.inf).st && R1.inf.all (·.st)) = P.inf.all (·.st)) := Lib.hid (by rw [← HQ.out]; simp [Fo.inf])
      have HR1 := Lib.hid hR1
      have HLF := Lib.hid hlf
      generalize (mk k1 t1 n1 m1 P1.inf).st = b at *
      clear hcell hR1 hlf hj hP1 hf1 HQ
      go_wp2_with fail
      refine K.out.mono ?_
      rintro e w2 ⟨rfl, hb⟩
      have HB3 := Lib.hid hb
      have HBb3 := Lib.hid (HBb.out.later hb)
      have HH2 := Lib.hid (HR1.out.below (HB3.out.mono HBw.out.size))
      clear hb
      cases b with
      | false =>
        have HD : Hid (P.inf.all (·.st) = false) := Lib.hid (by rw [← HQ2.out]; rfl)
        go_wp2_with fail
        go_ret
        exact ⟨ret_bool (HD.out.symm.trans HY.out), below_step HBw.out HB3.out⟩
      | true =>
        have HD : Hid (R1.inf.all (·.st) = P.inf.all (·.st)) := Lib.hid (by rw [← HQ2.out]; rfl)
        go_wp2_with fail
        go_roundw
        case rel => exact ⟨j + 1, R1, hjl, by go_num, HD.out, HLF.out, HH2.out, HBb3.out⟩
        case measure => simp [intOf]; omega
end Go.Proofs.Ytogoolpgajopcaa
