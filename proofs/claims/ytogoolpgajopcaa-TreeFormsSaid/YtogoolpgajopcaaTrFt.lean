import Derived.Test.YtogoolpgajopcaaTrFm
namespace Go.Proofs.Ytogoolpgajopcaa
open Go.RowKit
theorem allrT (P : Fo) : AllC (FunP 12 (·.ty)) P := AllC.of (fun Q => (rtype_prog Q).1) P
theorem allrE (P : Fo) : AllC (FunP 14 (·.ex)) P := AllC.of (fun Q => (rexpr_prog Q).1) P
theorem allrB (P : Fo) : AllC (FunP 58 (·.blk)) P := AllC.of (fun Q => (rexpr_prog Q).2.1) P
set_option maxRecDepth 100000 in
set_option maxHeartbeats 2000000 in
theorem rmethod_any (P : Fo) : FunP 98 (·.meth) P := by
  intro k t n m a A c w hH hlc hcc ht
  have hl : P.len ≤ 1000000000000000 := by omega
  simp only [val6, cells6]
  obtain ⟨y, hy⟩ : ∃ y, (mk k t n m P.inf).meth = y := ⟨_, rfl⟩
  rw [hy]
  rw [show (mk k t n m P.inf).meth = (idB t && ((m == 0) && routB n P.inf true)) from rfl] at hy
  have KN := Lib.hid (rnamed_any k t n m a P.len A c ht)
  unfold Flat at KN
  have KF := Lib.hid (fun W (hW : Below w.heap.size w W) => rfunc_any P (allrB P) n A c W ((hH.below hW).more hW.size) hlc hcc)
  generalize idB t = b1 at *
  generalize routB n P.inf true = b2 at *
  clear hH hlc
  generalize P.len = x at *
  have HY := Lib.hid hy
  clear hy
  go_enter Try.func98, Try.ntmps98
  go_wp2_with (first
    | (go_at_call 41; refine (KN.out _).mono ?_; rintro e w1 ⟨rfl, hb⟩; have bx := Box.later (by first | assumption | exact Box.new _ _ _ _ _ _ _ _ _) hb; have bx2 := bx; obtain ⟨-, -, c0, c1, c2, c3, c4, c5⟩ := bx2)
    | (go_at_call 51; refine (KF.out _ (by first | exact Box.below (by assumption) | exact (Below.refl _ _).alloc (Nat.le_refl _) _)).mono ?_; rintro e w1 ⟨rfl, hb⟩; have bx := Box.later (by first | assumption | exact Box.new _ _ _ _ _ _ _ _ _) hb; have bx2 := bx; obtain ⟨-, -, c0, c1, c2, c3, c4, c5⟩ := bx2))
  all_goals
    go_ret
    refine ⟨ret_bool ?_, (by first | exact Box.below (by assumption) | exact (Below.refl _ _).alloc (Nat.le_refl _) _)⟩
    first | rfl | exact HY.out | (rw [← HY.out]; first | rfl | exact beq0 _ | (simp [*]; done) | (simp [*]; omega) | (simp_all; done) | (simp_all; omega))
set_option maxRecDepth 100000 in
set_option maxHeartbeats 2000000 in
theorem rholds_any (P : Fo) : FunP 97 (·.hold) P := by
  intro k t n m a A c w hH hlc hcc ht
  have hl : P.len ≤ 1000000000000000 := by omega
  simp only [val6, cells6]
  obtain ⟨y, hy⟩ : ∃ y, (mk k t n m P.inf).hold = y := ⟨_, rfl⟩
  rw [hy]
  rw [show (mk k t n m P.inf).hold = ((idB t && ((m == 0) && decide (n = 0 ∨ n = 1))) && (lenB P.inf 2 && ((P.inf.take 1).all (·.ty) && (P.inf.drop 1).all (·.ex)))) from rfl] at hy
  unfold lenB at hy
  rw [inf_len] at hy
  have KN := Lib.hid (rnamed_any k t n m a P.len A c ht)
  unfold Flat at KN
  generalize idB t = b1 at *
  by_cases h2 : P.len = 2
  · obtain ⟨k1, t1, n1, m1, a1, Q1, ad, A1, d1, R1, rfl, hd1, hR1, hP1⟩ := part_at hH (j := 0) (by omega)
    have FX1 : Hid (∀ W, Below w.heap.size w W → At6 W ad k1 t1 n1 m1 a1 Q1.len A1 d1) := Lib.hid (fun W hW => hP1.cells W hW)
    unfold At6 at FX1
    obtain ⟨k2, t2, n2, m2, a2, Q2, ad2, A2, d2, R2, had, hd2, hR2, hP2⟩ := part_at hH (j := 1) (by omega)
    cases had
    have FX2 : Hid (∀ W, Below w.heap.size w W → At6 W ⟨ad.block, ad.off + 6, none⟩ k2 t2 n2 m2 a2 Q2.len A2 d2) := Lib.hid (fun W hW => hP2.cells W hW)
    unfold At6 at FX2
    have e2 := drop_last hd2 hR2 (by omega)
    have e1 : P.inf.take 1 = [mk k1 t1 n1 m1 Q1.inf] := by
      rw [show P.inf = P.inf.drop 0 by simp, hd1]; rfl
    rw [decide_eq_true h2, e1, e2] at hy
    simp only [List.all_cons, List.all_nil, Bool.and_true] at hy
    have K1 := Lib.hid (hP1.good _ _ (allrT P))
    have K2 := Lib.hid (hP2.good _ _ (allrE P))
    have h2c : 2 ≤ c := by omega
    rw [h2] at KN ⊢
    generalize (mk k1 t1 n1 m1 Q1.inf).ty = b5 at *
    generalize (mk k2 t2 n2 m2 Q2.inf).ex = b6 at *
    generalize Q1.len = x1 at *
    generalize Q2.len = x2 at *
    clear e1 e2 hd1 hR1 hP1 hd2 hR2 hP2 hH hlc h2 hl
    have HY := Lib.hid hy
    clear hy
    go_enter Try.func97, Try.ntmps97
    go_wp2_with (first
      | (go_at_call 41; refine (KN.out _).mono ?_; rintro e w1 ⟨rfl, hb⟩; have bx := Box.later (by first | assumption | exact Box.new _ _ _ _ _ _ _ _ _) hb; have bx2 := bx; obtain ⟨-, -, c0, c1, c2, c3, c4, c5⟩ := bx2; obtain ⟨f0, f1, f2, f3, f4, f5⟩ := FX1.out _ (Box.below (by assumption)))
      | (go_at_call 12; refine (K1.out _ (by first | exact Box.below (by assumption) | exact (Below.refl _ _).alloc (Nat.le_refl _) _)).mono ?_; rintro e w1 ⟨rfl, hb⟩; have bx := Box.later (by first | assumption | exact Box.new _ _ _ _ _ _ _ _ _) hb; have bx2 := bx; obtain ⟨-, -, c0, c1, c2, c3, c4, c5⟩ := bx2; obtain ⟨g0, g1, g2, g3, g4, g5⟩ := FX2.out _ (Box.below (by assumption)))
      | (go_at_call 14; refine (K2.out _ (by first | exact Box.below (by assumption) | exact (Below.refl _ _).alloc (Nat.le_refl _) _)).mono ?_; rintro e w1 ⟨rfl, hb⟩; have bx := Box.later (by first | assumption | exact Box.new _ _ _ _ _ _ _ _ _) hb; have bx2 := bx; obtain ⟨-, -, c0, c1, c2, c3, c4, c5⟩ := bx2))
    all_goals
      go_ret
      refine ⟨ret_bool ?_, (by first | exact Box.below (by assumption) | exact (Below.refl _ _).alloc (Nat.le_refl _) _)⟩
      first | rfl | exact HY.out | (rw [← HY.out]; first | rfl | exact beq0 _ | (simp [*]; done) | (simp [*]; omega) | (simp_all; done) | (simp_all; omega))
  · have t1 : (((P.len : Nat) : Int) == 2) = false := by simp; omega
    rw [decide_eq_false h2] at hy
    clear hH hlc h2
    generalize P.len = x at *
    have HY := Lib.hid hy
    clear hy
    go_enter Try.func97, Try.ntmps97
    go_wp2_with (first
      | (go_at_call 41; refine (KN.out _).mono ?_; rintro e w1 ⟨rfl, hb⟩; have bx := Box.later (by first | assumption | exact Box.new _ _ _ _ _ _ _ _ _) hb; have bx2 := bx; obtain ⟨-, -, c0, c1, c2, c3, c4, c5⟩ := bx2))
    all_goals
      go_ret
      refine ⟨ret_bool ?_, (by first | exact Box.below (by assumption) | exact (Below.refl _ _).alloc (Nat.le_refl _) _)⟩
      first | rfl | exact HY.out | (rw [← HY.out]; first | rfl | exact beq0 _ | (simp [*]; done) | (simp [*]; omega) | (simp_all; done) | (simp_all; omega))
set_option maxRecDepth 100000 in
set_option maxHeartbeats 2000000 in
theorem rVar_any (P : Fo) : FunP 95 (·.var) P := by
  intro k t n m a A c w hH hlc hcc ht
  have hl : P.len ≤ 1000000000000000 := by omega
  simp only [val6, cells6]
  obtain ⟨y, hy⟩ : ∃ y, (mk k t n m P.inf).var = y := ⟨_, rfl⟩
  rw [hy]
  rw [show (mk k t n m P.inf).var = ((k == 73) && (idB t && ((m == 0) && (decide (n = 0 ∨ n = 1) && (decide ((P.inf.length : Int) = n) && P.inf.all (·.ty)))))) from rfl] at hy
  rw [inf_len] at hy
  by_cases hk : k = 73
  case neg =>
    have tk : (k == 73) = false := beq_eq_false_iff_ne.2 hk
    rw [tk] at hy
    clear hH hlc hk
    generalize P.len = x at *
    have HY := Lib.hid hy
    clear hy
    go_enter Try.func95, Try.ntmps95
    go_wp2_with fail
    all_goals
      go_ret
      refine ⟨ret_bool ?_, (by first | exact Box.below (by assumption) | exact (Below.refl _ _).alloc (Nat.le_refl _) _)⟩
      first | rfl | exact HY.out | (rw [← HY.out]; first | rfl | exact beq0 _ | (simp [*]; done) | (simp [*]; omega) | (simp_all; done) | (simp_all; omega))
  subst hk
  have KN := Lib.hid (rnamed_any 73 t n m a P.len A c ht)
  unfold Flat at KN
  generalize idB t = b1 at *
  by_cases h0 : P.len = 0
  · rw [len_zero h0, h0] at hy
    rw [h0] at KN ⊢
    simp only [List.all_nil] at hy
    clear hH hlc h0 hl
    have HY := Lib.hid hy
    clear hy
    go_enter Try.func95, Try.ntmps95
    go_wp2_with (first
      | (go_at_call 41; refine (KN.out _).mono ?_; rintro e w1 ⟨rfl, hb⟩; have bx := Box.later (by first | assumption | exact Box.new _ _ _ _ _ _ _ _ _) hb; have bx2 := bx; obtain ⟨-, -, c0, c1, c2, c3, c4, c5⟩ := bx2))
    all_goals
      go_ret
      refine ⟨ret_bool ?_, (by first | exact Box.below (by assumption) | exact (Below.refl _ _).alloc (Nat.le_refl _) _)⟩
      first | rfl | exact HY.out | (rw [← HY.out]; first | rfl | exact beq0 _ | (simp [*]; done) | (simp [*]; omega) | (simp_all; done) | (simp_all; omega))
  by_cases h1 : P.len = 1
  · obtain ⟨k1, t1, n1, m1, a1, Q1, ad, A1, d1, R1, rfl, hd1, hR1, hP1⟩ := part_at hH (j := 0) (by omega)
    have FX1 : Hid (∀ W, Below w.heap.size w W → At6 W ad k1 t1 n1 m1 a1 Q1.len A1 d1) := Lib.hid (fun W hW => hP1.cells W hW)
    unfold At6 at FX1
    have e0 : P.inf = [mk k1 t1 n1 m1 Q1.inf] := by
      rw [show P.inf = P.inf.drop 0 by simp]; exact drop_last hd1 hR1 (by omega)
    rw [h1, e0] at hy
    simp only [List.all_cons, List.all_nil, Bool.and_true] at hy
    have K1 := Lib.hid (hP1.good _ _ (allrT P))
    have h1c : 1 ≤ c := by omega
    rw [h1] at KN ⊢
    generalize (mk k1 t1 n1 m1 Q1.inf).ty = b5 at *
    generalize Q1.len = x1 at *
    clear e0 hd1 hR1 hP1 hH hlc h1 h0 hl
    have HY := Lib.hid hy
    clear hy
    go_enter Try.func95, Try.ntmps95
    go_wp2_with (first
      | (go_at_call 41; refine (KN.out _).mono ?_; rintro e w1 ⟨rfl, hb⟩; have bx := Box.later (by first | assumption | exact Box.new _ _ _ _ _ _ _ _ _) hb; have bx2 := bx; obtain ⟨-, -, c0, c1, c2, c3, c4, c5⟩ := bx2; obtain ⟨f0, f1, f2, f3, f4, f5⟩ := FX1.out _ (Box.below (by assumption)))
      | (go_at_call 12; refine (K1.out _ (by first | exact Box.below (by assumption) | exact (Below.refl _ _).alloc (Nat.le_refl _) _)).mono ?_; rintro e w1 ⟨rfl, hb⟩; have bx := Box.later (by first | assumption | exact Box.new _ _ _ _ _ _ _ _ _) hb; have bx2 := bx; obtain ⟨-, -, c0, c1, c2, c3, c4, c5⟩ := bx2))
    all_goals
      go_ret
      refine ⟨ret_bool ?_, (by first | exact Box.below (by assumption) | exact (Below.refl _ _).alloc (Nat.le_refl _) _)⟩
      first | rfl | exact HY.out | (rw [← HY.out]; first | rfl | exact beq0 _ | (simp [*]; done) | (simp [*]; omega) | (simp_all; done) | (simp_all; omega))
  have t0 : (((P.len : Nat) : Int) == 0) = false := by simp; omega
  have t1 : (((P.len : Nat) : Int) == 1) = false := by simp; omega
  rw [show (decide (n = 0 ∨ n = 1) && (decide ((P.len : Int) = n) && P.inf.all (·.ty))) = false by
    by_cases hn : (P.len : Int) = n
    · rw [decide_eq_false (p := n = 0 ∨ n = 1) (by omega)]; rfl
    · rw [decide_eq_false hn]; simp] at hy
  clear hH hlc h0 h1
  generalize P.len = x at *
  have HY := Lib.hid hy
  clear hy
  go_enter Try.func95, Try.ntmps95
  go_wp2_with (first
    | (go_at_call 41; refine (KN.out _).mono ?_; rintro e w1 ⟨rfl, hb⟩; have bx := Box.later (by first | assumption | exact Box.new _ _ _ _ _ _ _ _ _) hb; have bx2 := bx; obtain ⟨-, -, c0, c1, c2, c3, c4, c5⟩ := bx2))
  all_goals
    go_ret
    refine ⟨ret_bool ?_, (by first | exact Box.below (by assumption) | exact (Below.refl _ _).alloc (Nat.le_refl _) _)⟩
    first | rfl | exact HY.out | (rw [← HY.out]; first | rfl | exact beq0 _ | (simp [*]; done) | (simp [*]; omega) | (simp_all; done) | (simp_all; omega))
end Go.Proofs.Ytogoolpgajopcaa
