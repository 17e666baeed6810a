import Derived.Test.YtogoolpgajopcaaTrFi
namespace Go.Proofs.Ytogoolpgajopcaa
open Go.RowKit
theorem allT (P : Fo) : AllC (FunP 11 (·.ty)) P := AllC.of (fun Q => (type_prog Q).1) P
theorem allR (P : Fo) : AllC (FunP 67 (·.ref)) P := AllC.of (fun Q => (type_prog Q).2.2.2) P
theorem allE (P : Fo) : AllC (FunP 13 (·.ex)) P := AllC.of (fun Q => (expr_prog Q).1) P
theorem allB (P : Fo) : AllC (FunP 57 (·.blk)) P := AllC.of (fun Q => (expr_prog Q).2.2.1) P
set_option maxRecDepth 100000 in
set_option maxHeartbeats 2000000 in
theorem importName_any (P : Fo) : FunP 74 (·.imp) P := by
  intro k t n m a A c w hH hlc hcc ht
  have hl : P.len ≤ 1000000000000000 := by omega
  simp only [val6, cells6]
  obtain ⟨y, hy⟩ : ∃ y, (mk k t n m P.inf).imp = y := ⟨_, rfl⟩
  rw [hy]
  rw [show (mk k t n m P.inf).imp = ((k == 71) && (idB t && (plainB n m && lenB P.inf 0))) from rfl] at hy
  unfold lenB at hy
  rw [inf_len] at hy
  by_cases hk : k = 71
  case neg =>
    have tk : (k == 71) = false := beq_eq_false_iff_ne.2 hk
    rw [tk] at hy
    clear hH hlc hk
    generalize P.len = x at *
    have HY := Lib.hid hy
    clear hy
    go_enter Try.func74, Try.ntmps74
    go_wp2_with fail
    all_goals
      go_ret
      refine ⟨ret_bool ?_, (by first | exact Box.below (by assumption) | exact (Below.refl _ _).alloc (Nat.le_refl _) _)⟩
      first | rfl | exact HY.out | (rw [← HY.out]; first | rfl | exact beq0 _ | (simp [*]; done) | (simp [*, beq0]; done) | (simp [*]; omega) | (simp_all; done) | (simp_all; omega))
  subst hk
  have KI := Lib.hid (isname_any 71 t n m a P.len A c ht)
  unfold Flat at KI
  have KP := Lib.hid (plain_any 71 t n m a P.len A c)
  unfold Flat at KP
  generalize idB t = b1 at *
  generalize plainB n m = b2 at *
  clear hH hlc
  generalize P.len = x at *
  have HY := Lib.hid hy
  clear hy
  go_enter Try.func74, Try.ntmps74
  go_wp2_with (first
    | (go_at_call 31; refine (KI.out _).mono ?_; rintro e w1 ⟨rfl, hb⟩; have bx := Box.later (by first | assumption | exact Box.new _ _ _ _ _ _ _ _ _) hb; have bx2 := bx; obtain ⟨-, -, c0, c1, c2, c3, c4, c5⟩ := bx2)
    | (go_at_call 30; refine (KP.out _).mono ?_; rintro e w1 ⟨rfl, hb⟩; have bx := Box.later (by first | assumption | exact Box.new _ _ _ _ _ _ _ _ _) hb; have bx2 := bx; obtain ⟨-, -, c0, c1, c2, c3, c4, c5⟩ := bx2))
  all_goals
    go_ret
    refine ⟨ret_bool ?_, (by first | exact Box.below (by assumption) | exact (Below.refl _ _).alloc (Nat.le_refl _) _)⟩
    first | rfl | exact HY.out | (rw [← HY.out]; first | rfl | exact beq0 _ | (simp [*]; done) | (simp [*, beq0]; done) | (simp [*]; omega) | (simp_all; done) | (simp_all; omega))
set_option maxRecDepth 100000 in
set_option maxHeartbeats 2000000 in
theorem variable_any (P : Fo) : FunP 76 (·.var) P := by
  intro k t n m a A c w hH hlc hcc ht
  have hl : P.len ≤ 1000000000000000 := by omega
  simp only [val6, cells6]
  obtain ⟨y, hy⟩ : ∃ y, (mk k t n m P.inf).var = y := ⟨_, rfl⟩
  rw [hy]
  rw [show (mk k t n m P.inf).var = ((k == 73) && (idB t && ((m == 0) && (decide (n = 0 ∨ n = 1) && (decide ((P.inf.length : Int) = n) && P.inf.all (·.ty)))))) from rfl] at hy
  by_cases hk : k = 73
  case neg =>
    have tk : (k == 73) = false := beq_eq_false_iff_ne.2 hk
    rw [tk] at hy
    clear hH hlc hk
    generalize P.len = x at *
    have HY := Lib.hid hy
    clear hy
    go_enter Try.func76, Try.ntmps76
    go_wp2_with fail
    all_goals
      go_ret
      refine ⟨ret_bool ?_, (by first | exact Box.below (by assumption) | exact (Below.refl _ _).alloc (Nat.le_refl _) _)⟩
      first | rfl | exact HY.out | (rw [← HY.out]; first | rfl | exact beq0 _ | (simp [*]; done) | (simp [*, beq0]; done) | (simp [*]; omega) | (simp_all; done) | (simp_all; omega))
  subst hk
  by_cases hm : m = 0
  case neg =>
    have tm : (m == 0) = false := beq_eq_false_iff_ne.2 hm
    rw [tm] at hy
    have KI := Lib.hid (isname_any 73 t n m a P.len A c ht)
    unfold Flat at KI
    generalize idB t = b1 at *
    clear hH hlc hm
    generalize P.len = x at *
    have HY := Lib.hid hy
    clear hy
    go_enter Try.func76, Try.ntmps76
    go_wp2_with (first
      | (go_at_call 31; refine (KI.out _).mono ?_; rintro e w1 ⟨rfl, hb⟩; have bx := Box.later (by first | assumption | exact Box.new _ _ _ _ _ _ _ _ _) hb; have bx2 := bx; obtain ⟨-, -, c0, c1, c2, c3, c4, c5⟩ := bx2))
    all_goals
      go_ret
      refine ⟨ret_bool ?_, (by first | exact Box.below (by assumption) | exact (Below.refl _ _).alloc (Nat.le_refl _) _)⟩
      first | rfl | exact HY.out | (rw [← HY.out]; first | rfl | exact beq0 _ | (simp [*]; done) | (simp [*, beq0]; done) | (simp [*]; omega) | (simp_all; done) | (simp_all; omega))
  subst hm
  by_cases h0 : n = 0
  · subst h0
    rw [show (decide (((0 : Int)) = 0 ∨ ((0 : Int)) = 1)) = true from rfl, show (decide ((P.inf.length : Int) = 0) && P.inf.all (·.ty)) = typesB P.inf 0 by unfold typesB lenB; congr 1; rw [decide_eq_decide]; omega] at hy
    have KI := Lib.hid (isname_any 73 t 0 0 a P.len A c ht)
    unfold Flat at KI
    have KT := Lib.hid (fun W (hW : Below w.heap.size w W) => types_any P (allT P) 0 0 (by rfl) 73 t 0 0 a A c W ((hH.below hW).more hW.size) hl)
    generalize idB t = b1 at *
    generalize typesB P.inf 0 = b2 at *
    clear hH hlc
    generalize P.len = x at *
    have HY := Lib.hid hy
    clear hy
    go_enter Try.func76, Try.ntmps76
    go_wp2_with (first
      | (go_at_call 31; refine (KI.out _).mono ?_; rintro e w1 ⟨rfl, hb⟩; have bx := Box.later (by first | assumption | exact Box.new _ _ _ _ _ _ _ _ _) hb; have bx2 := bx; obtain ⟨-, -, c0, c1, c2, c3, c4, c5⟩ := bx2)
      | (go_at_call 33; refine (KT.out _ (by first | exact Box.below (by assumption) | exact (Below.refl _ _).alloc (Nat.le_refl _) _)).mono ?_; rintro e w1 ⟨rfl, hb⟩; have bx := Box.later (by first | assumption | exact Box.new _ _ _ _ _ _ _ _ _) hb; have bx2 := bx; obtain ⟨-, -, c0, c1, c2, c3, c4, c5⟩ := bx2))
    all_goals
      go_ret
      refine ⟨ret_bool ?_, (by first | exact Box.below (by assumption) | exact (Below.refl _ _).alloc (Nat.le_refl _) _)⟩
      first | rfl | exact HY.out | (rw [← HY.out]; first | rfl | exact beq0 _ | (simp [*]; done) | (simp [*, beq0]; done) | (simp [*]; omega) | (simp_all; done) | (simp_all; omega))
  by_cases h1 : n = 1
  · subst h1
    rw [show (decide (((1 : Int)) = 0 ∨ ((1 : Int)) = 1)) = true from rfl, show (decide ((P.inf.length : Int) = 1) && P.inf.all (·.ty)) = typesB P.inf 1 by unfold typesB lenB; congr 1; rw [decide_eq_decide]; omega] at hy
    have KI := Lib.hid (isname_any 73 t 1 0 a P.len A c ht)
    unfold Flat at KI
    have KT := Lib.hid (fun W (hW : Below w.heap.size w W) => types_any P (allT P) 1 1 (by rfl) 73 t 1 0 a A c W ((hH.below hW).more hW.size) hl)
    generalize idB t = b1 at *
    generalize typesB P.inf 1 = b2 at *
    clear hH hlc h0
    generalize P.len = x at *
    have HY := Lib.hid hy
    clear hy
    go_enter Try.func76, Try.ntmps76
    go_wp2_with (first
      | (go_at_call 31; refine (KI.out _).mono ?_; rintro e w1 ⟨rfl, hb⟩; have bx := Box.later (by first | assumption | exact Box.new _ _ _ _ _ _ _ _ _) hb; have bx2 := bx; obtain ⟨-, -, c0, c1, c2, c3, c4, c5⟩ := bx2)
      | (go_at_call 33; refine (KT.out _ (by first | exact Box.below (by assumption) | exact (Below.refl _ _).alloc (Nat.le_refl _) _)).mono ?_; rintro e w1 ⟨rfl, hb⟩; have bx := Box.later (by first | assumption | exact Box.new _ _ _ _ _ _ _ _ _) hb; have bx2 := bx; obtain ⟨-, -, c0, c1, c2, c3, c4, c5⟩ := bx2))
    all_goals
      go_ret
      refine ⟨ret_bool ?_, (by first | exact Box.below (by assumption) | exact (Below.refl _ _).alloc (Nat.le_refl _) _)⟩
      first | rfl | exact HY.out | (rw [← HY.out]; first | rfl | exact beq0 _ | (simp [*]; done) | (simp [*, beq0]; done) | (simp [*]; omega) | (simp_all; done) | (simp_all; omega))
  have t0 : (n == 0) = false := beq_eq_false_iff_ne.2 h0
  have t1 : (n == 1) = false := beq_eq_false_iff_ne.2 h1
  rw [show (decide (n = 0 ∨ n = 1)) = false by simp [h0, h1]] at hy
  have KI := Lib.hid (isname_any 73 t n 0 a P.len A c ht)
  unfold Flat at KI
  generalize idB t = b1 at *
  clear hH hlc h0 h1
  generalize P.len = x at *
  have HY := Lib.hid hy
  clear hy
  go_enter Try.func76, Try.ntmps76
  go_wp2_with (first
    | (go_at_call 31; refine (KI.out _).mono ?_; rintro e w1 ⟨rfl, hb⟩; have bx := Box.later (by first | assumption | exact Box.new _ _ _ _ _ _ _ _ _) hb; have bx2 := bx; obtain ⟨-, -, c0, c1, c2, c3, c4, c5⟩ := bx2))
  all_goals
    go_ret
    refine ⟨ret_bool ?_, (by first | exact Box.below (by assumption) | exact (Below.refl _ _).alloc (Nat.le_refl _) _)⟩
    first | rfl | exact HY.out | (rw [← HY.out]; first | rfl | exact beq0 _ | (simp [*]; done) | (simp [*, beq0]; done) | (simp [*]; omega) | (simp_all; done) | (simp_all; omega))
set_option maxRecDepth 100000 in
set_option maxHeartbeats 2000000 in
theorem refers_any (P : Fo) : FunP 79 (·.refs) P := by
  intro k t n m a A c w hH hlc hcc ht
  have hl : P.len ≤ 1000000000000000 := by omega
  simp only [val6, cells6]
  obtain ⟨y, hy⟩ : ∃ y, (mk k t n m P.inf).refs = y := ⟨_, rfl⟩
  rw [hy]
  rw [show (mk k t n m P.inf).refs = (bareB t n m && (lenB P.inf 1 && P.inf.all (·.ref))) from rfl] at hy
  unfold lenB at hy
  rw [inf_len] at hy
  have KB := Lib.hid (bare_any k t n m a P.len A c)
  unfold Flat at KB
  generalize bareB t n m = b1 at *
  by_cases h1 : P.len = 1
  · obtain ⟨k1, t1, n1, m1, a1, Q1, ad, A1, d1, R1, rfl, hd1, hR1, hP1⟩ := part_at hH (j := 0) (by omega)
    have FX1 : Hid (∀ W, Below w.heap.size w W → At6 W ad k1 t1 n1 m1 a1 Q1.len A1 d1) := Lib.hid (fun W hW => hP1.cells W hW)
    unfold At6 at FX1
    have e0 : P.inf = [mk k1 t1 n1 m1 Q1.inf] := by
      rw [show P.inf = P.inf.drop 0 by simp]; exact drop_last hd1 hR1 (by omega)
    rw [decide_eq_true h1, e0] at hy
    simp only [List.all_cons, List.all_nil, Bool.and_true] at hy
    have K1 := Lib.hid (hP1.good _ _ (allR P))
    have h1c : 1 ≤ c := by omega
    rw [h1] at KB ⊢
    generalize (mk k1 t1 n1 m1 Q1.inf).ref = b5 at *
    generalize Q1.len = x1 at *
    clear e0 hd1 hR1 hP1 hH hlc h1 hl
    have HY := Lib.hid hy
    clear hy
    go_enter Try.func79, Try.ntmps79
    go_wp2_with (first
      | (go_at_call 32; refine (KB.out _).mono ?_; rintro e w1 ⟨rfl, hb⟩; have bx := Box.later (by first | assumption | exact Box.new _ _ _ _ _ _ _ _ _) hb; have bx2 := bx; obtain ⟨-, -, c0, c1, c2, c3, c4, c5⟩ := bx2; obtain ⟨f0, f1, f2, f3, f4, f5⟩ := FX1.out _ (Box.below (by assumption)))
      | (go_at_call 67; refine (K1.out _ (by first | exact Box.below (by assumption) | exact (Below.refl _ _).alloc (Nat.le_refl _) _)).mono ?_; rintro e w1 ⟨rfl, hb⟩; have bx := Box.later (by first | assumption | exact Box.new _ _ _ _ _ _ _ _ _) hb; have bx2 := bx; obtain ⟨-, -, c0, c1, c2, c3, c4, c5⟩ := bx2))
    all_goals
      go_ret
      refine ⟨ret_bool ?_, (by first | exact Box.below (by assumption) | exact (Below.refl _ _).alloc (Nat.le_refl _) _)⟩
      first | rfl | exact HY.out | (rw [← HY.out]; first | rfl | exact beq0 _ | (simp [*]; done) | (simp [*, beq0]; done) | (simp [*]; omega) | (simp_all; done) | (simp_all; omega))
  · have t1 : (((P.len : Nat) : Int) == 1) = false := by simp; omega
    rw [decide_eq_false h1] at hy
    clear hH hlc h1
    generalize P.len = x at *
    have HY := Lib.hid hy
    clear hy
    go_enter Try.func79, Try.ntmps79
    go_wp2_with (first
      | (go_at_call 32; refine (KB.out _).mono ?_; rintro e w1 ⟨rfl, hb⟩; have bx := Box.later (by first | assumption | exact Box.new _ _ _ _ _ _ _ _ _) hb; have bx2 := bx; obtain ⟨-, -, c0, c1, c2, c3, c4, c5⟩ := bx2))
    all_goals
      go_ret
      refine ⟨ret_bool ?_, (by first | exact Box.below (by assumption) | exact (Below.refl _ _).alloc (Nat.le_refl _) _)⟩
      first | rfl | exact HY.out | (rw [← HY.out]; first | rfl | exact beq0 _ | (simp [*]; done) | (simp [*, beq0]; done) | (simp [*]; omega) | (simp_all; done) | (simp_all; omega))
set_option maxRecDepth 100000 in
set_option maxHeartbeats 2000000 in
theorem holds_any (P : Fo) : FunP 93 (·.hold) P := by
  intro k t n m a A c w hH hlc hcc ht
  have hl : P.len ≤ 1000000000000000 := by omega
  simp only [val6, cells6]
  obtain ⟨y, hy⟩ : ∃ y, (mk k t n m P.inf).hold = y := ⟨_, rfl⟩
  rw [hy]
  rw [show (mk k t n m P.inf).hold = ((idB t && ((m == 0) && decide (n = 0 ∨ n = 1))) && (lenB P.inf 2 && ((P.inf.take 1).all (·.ty) && (P.inf.drop 1).all (·.ex)))) from rfl] at hy
  unfold lenB at hy
  rw [inf_len] at hy
  have KI := Lib.hid (isname_any k t n m a P.len A c ht)
  unfold Flat at KI
  generalize idB t = b1 at *
  by_cases h2 : P.len = 2
  · obtain ⟨k1, t1, n1, m1, a1, Q1, ad, A1, d1, R1, rfl, hd1, hR1, hP1⟩ := part_at hH (j := 0) (by omega)
    have FX1 : Hid (∀ W, Below w.heap.size w W → At6 W ad k1 t1 n1 m1 a1 Q1.len A1 d1) := Lib.hid (fun W hW => hP1.cells W hW)
    unfold At6 at FX1
    obtain ⟨k2, t2, n2, m2, a2, Q2, ad2, A2, d2, R2, had, hd2, hR2, hP2⟩ := part_at hH (j := 1) (by omega)
    cases had
    have FX2 : Hid (∀ W, Below w.heap.size w W → At6 W ⟨ad.block, ad.off + 6, none⟩ k2 t2 n2 m2 a2 Q2.len A2 d2) := Lib.hid (fun W hW => hP2.cells W hW)
    unfold At6 at FX2
    have e2 := drop_last hd2 hR2 (by omega)
    have e1 : P.inf.take 1 = [mk k1 t1 n1 m1 Q1.inf] := by
      rw [show P.inf = P.inf.drop 0 by simp, hd1]; rfl
    rw [decide_eq_true h2, e1, e2] at hy
    simp only [List.all_cons, List.all_nil, Bool.and_true] at hy
    have K1 := Lib.hid (hP1.good _ _ (allT P))
    have K2 := Lib.hid (hP2.good _ _ (allE P))
    have h2c : 2 ≤ c := by omega
    rw [h2] at KI ⊢
    generalize (mk k1 t1 n1 m1 Q1.inf).ty = b5 at *
    generalize (mk k2 t2 n2 m2 Q2.inf).ex = b6 at *
    generalize Q1.len = x1 at *
    generalize Q2.len = x2 at *
    clear e1 e2 hd1 hR1 hP1 hd2 hR2 hP2 hH hlc h2 hl
    have HY := Lib.hid hy
    clear hy
    go_enter Try.func93, Try.ntmps93
    go_wp2_with (first
      | (go_at_call 31; refine (KI.out _).mono ?_; rintro e w1 ⟨rfl, hb⟩; have bx := Box.later (by first | assumption | exact Box.new _ _ _ _ _ _ _ _ _) hb; have bx2 := bx; obtain ⟨-, -, c0, c1, c2, c3, c4, c5⟩ := bx2; obtain ⟨f0, f1, f2, f3, f4, f5⟩ := FX1.out _ (Box.below (by assumption)))
      | (go_at_call 11; refine (K1.out _ (by first | exact Box.below (by assumption) | exact (Below.refl _ _).alloc (Nat.le_refl _) _)).mono ?_; rintro e w1 ⟨rfl, hb⟩; have bx := Box.later (by first | assumption | exact Box.new _ _ _ _ _ _ _ _ _) hb; have bx2 := bx; obtain ⟨-, -, c0, c1, c2, c3, c4, c5⟩ := bx2; obtain ⟨g0, g1, g2, g3, g4, g5⟩ := FX2.out _ (Box.below (by assumption)))
      | (go_at_call 13; refine (K2.out _ (by first | exact Box.below (by assumption) | exact (Below.refl _ _).alloc (Nat.le_refl _) _)).mono ?_; rintro e w1 ⟨rfl, hb⟩; have bx := Box.later (by first | assumption | exact Box.new _ _ _ _ _ _ _ _ _) hb; have bx2 := bx; obtain ⟨-, -, c0, c1, c2, c3, c4, c5⟩ := bx2))
    all_goals
      go_ret
      refine ⟨ret_bool ?_, (by first | exact Box.below (by assumption) | exact (Below.refl _ _).alloc (Nat.le_refl _) _)⟩
      first | rfl | exact HY.out | (rw [← HY.out]; first | rfl | exact beq0 _ | (simp [*]; done) | (simp [*]; done) | (simp [*]; omega) | (simp_all; done) | (simp_all; omega))
  · have t1 : (((P.len : Nat) : Int) == 2) = false := by simp; omega
    rw [decide_eq_false h2] at hy
    clear hH hlc h2
    generalize P.len = x at *
    have HY := Lib.hid hy
    clear hy
    go_enter Try.func93, Try.ntmps93
    go_wp2_with (first
      | (go_at_call 31; refine (KI.out _).mono ?_; rintro e w1 ⟨rfl, hb⟩; have bx := Box.later (by first | assumption | exact Box.new _ _ _ _ _ _ _ _ _) hb; have bx2 := bx; obtain ⟨-, -, c0, c1, c2, c3, c4, c5⟩ := bx2))
    all_goals
      go_ret
      refine ⟨ret_bool ?_, (by first | exact Box.below (by assumption) | exact (Below.refl _ _).alloc (Nat.le_refl _) _)⟩
      first | rfl | exact HY.out | (rw [← HY.out]; first | rfl | exact beq0 _ | (simp [*]; done) | (simp [*, beq0]; done) | (simp [*]; omega) | (simp_all; done) | (simp_all; omega))
set_option maxRecDepth 100000 in
set_option maxHeartbeats 2000000 in
theorem method_any (P : Fo) : FunP 94 (·.meth) P := by
  intro k t n m a A c w hH hlc hcc ht
  have hl : P.len ≤ 1000000000000000 := by omega
  simp only [val6, cells6]
  obtain ⟨y, hy⟩ : ∃ y, (mk k t n m P.inf).meth = y := ⟨_, rfl⟩
  rw [hy]
  rw [show (mk k t n m P.inf).meth = (idB t && ((m == 0) && routB n P.inf true)) from rfl] at hy
  by_cases hm : m = 0
  case neg =>
    have tm : (m == 0) = false := beq_eq_false_iff_ne.2 hm
    rw [tm] at hy
    have KI := Lib.hid (isname_any k t n m a P.len A c ht)
    unfold Flat at KI
    generalize idB t = b1 at *
    clear hH hlc hm
    generalize P.len = x at *
    have HY := Lib.hid hy
    clear hy
    go_enter Try.func94, Try.ntmps94
    go_wp2_with (first
      | (go_at_call 31; refine (KI.out _).mono ?_; rintro e w1 ⟨rfl, hb⟩; have bx := Box.later (by first | assumption | exact Box.new _ _ _ _ _ _ _ _ _) hb; have bx2 := bx; obtain ⟨-, -, c0, c1, c2, c3, c4, c5⟩ := bx2))
    all_goals
      go_ret
      refine ⟨ret_bool ?_, (by first | exact Box.below (by assumption) | exact (Below.refl _ _).alloc (Nat.le_refl _) _)⟩
      first | rfl | exact HY.out | (rw [← HY.out]; first | rfl | exact beq0 _ | (simp [*]; done) | (simp [*, beq0]; done) | (simp [*]; omega) | (simp_all; done) | (simp_all; omega))
  subst hm
  have KI := Lib.hid (isname_any k t n 0 a P.len A c ht)
  unfold Flat at KI
  have KR := Lib.hid (fun W (hW : Below w.heap.size w W) => routine_any P (allB P) k t n 0 a P.len A c true A c W ((hH.below hW).more hW.size) hlc hcc)
  generalize idB t = b1 at *
  generalize routB n P.inf true = b2 at *
  clear hH hlc
  generalize P.len = x at *
  have HY := Lib.hid hy
  clear hy
  go_enter Try.func94, Try.ntmps94
  go_wp2_with (first
    | (go_at_call 31; refine (KI.out _).mono ?_; rintro e w1 ⟨rfl, hb⟩; have bx := Box.later (by first | assumption | exact Box.new _ _ _ _ _ _ _ _ _) hb; have bx2 := bx; obtain ⟨-, -, c0, c1, c2, c3, c4, c5⟩ := bx2)
    | (go_at_call 47; refine (KR.out _ (by first | exact Box.below (by assumption) | exact (Below.refl _ _).alloc (Nat.le_refl _) _)).mono ?_; rintro e w1 ⟨rfl, hb⟩; have bx := Box.later (by first | assumption | exact Box.new _ _ _ _ _ _ _ _ _) hb; have bx2 := bx; obtain ⟨-, -, c0, c1, c2, c3, c4, c5⟩ := bx2))
  all_goals
    go_ret
    refine ⟨ret_bool ?_, (by first | exact Box.below (by assumption) | exact (Below.refl _ _).alloc (Nat.le_refl _) _)⟩
    first | rfl | exact HY.out | (rw [← HY.out]; first | rfl | exact beq0 _ | (simp [*]; done) | (simp [*, beq0]; done) | (simp [*]; omega) | (simp_all; done) | (simp_all; omega))
set_option maxRecDepth 100000 in
set_option maxHeartbeats 2000000 in
theorem base_any (P : Fo) : FunP 92 (·.base) P := by
  intro k t n m a A c w hH hlc hcc ht
  have hl : P.len ≤ 1000000000000000 := by omega
  simp only [val6, cells6]
  obtain ⟨y, hy⟩ : ∃ y, (mk k t n m P.inf).base = y := ⟨_, rfl⟩
  rw [hy]
  rw [show (mk k t n m P.inf).base = ((bareB t n m && decide (1 ≤ P.inf.length)) && ((P.inf.take 1).all (fun i => decide (i.len = 0)) && ((P.inf.take 1).all (·.ref) && (P.inf.drop 1).all (·.ex)))) from rfl] at hy
  rw [inf_len] at hy
  have KB := Lib.hid (bare_any k t n m a P.len A c)
  unfold Flat at KB
  generalize bareB t n m = b1 at *
  by_cases h0 : P.len = 0
  · have t0 : (((P.len : Nat) : Int) == 0) = true := by simp; omega
    rw [decide_eq_false (by omega)] at hy
    clear hH hlc h0
    generalize P.len = x at *
    have HY := Lib.hid hy
    clear hy
    go_enter Try.func92, Try.ntmps92
    go_wp2_with (first
      | (go_at_call 32; refine (KB.out _).mono ?_; rintro e w1 ⟨rfl, hb⟩; have bx := Box.later (by first | assumption | exact Box.new _ _ _ _ _ _ _ _ _) hb; have bx2 := bx; obtain ⟨-, -, c0, c1, c2, c3, c4, c5⟩ := bx2))
    all_goals
      go_ret
      refine ⟨ret_bool ?_, (by first | exact Box.below (by assumption) | exact (Below.refl _ _).alloc (Nat.le_refl _) _)⟩
      first | rfl | exact HY.out | (rw [← HY.out]; first | rfl | exact beq0 _ | (simp [*]; done) | (simp [*, beq0]; done) | (simp [*]; omega) | (simp_all; done) | (simp_all; omega))
  have t0 : (((P.len : Nat) : Int) == 0) = false := by simp; omega
  obtain ⟨k1, t1, n1, m1, a1, Q1, ad, A1, d1, R1, rfl, hd1, hR1, hP1⟩ := part_at hH (j := 0) (by omega)
  have FX1 : Hid (∀ W, Below w.heap.size w W → At6 W ad k1 t1 n1 m1 a1 Q1.len A1 d1) := Lib.hid (fun W hW => hP1.cells W hW)
  unfold At6 at FX1
  have e1 : P.inf.take 1 = [mk k1 t1 n1 m1 Q1.inf] := by
    rw [show P.inf = P.inf.drop 0 by simp, hd1]; rfl
  rw [decide_eq_true (by omega), e1] at hy
  simp only [List.all_cons, List.all_nil, Bool.and_true] at hy
  rw [show (mk k1 t1 n1 m1 Q1.inf).len = Q1.len from inf_len Q1] at hy
  have K1 := Lib.hid (hP1.good _ _ (allR P))
  have hS : Holds w w.heap.size (P.drop 1) (some ⟨ad.block, ad.off + 6, none⟩) 0 := (hH.drop 1).shift (i := 1) (r := 0)
  have hS0 : P.len = 1 → Holds w w.heap.size (P.drop 1) (some ad) 0 := fun h1 => by
    have : (P.drop 1) = .nil := by
      cases hq : P.drop 1 with
      | nil => rfl
      | cons k t n m a P' R => have h5 := drop_len P 1; rw [hq] at h5; simp [Fo.len] at h5; omega
    rw [this]; trivial
  obtain ⟨x, hx⟩ : ∃ x, P.len = x + 1 := ⟨P.len - 1, by omega⟩
  have hdl : (P.drop 1).len = x := by rw [drop_len]; omega
  have KA : Hid (∀ (A' : Option Addr) (c' : Nat) (W : World), (A' = some ⟨ad.block, ad.off + 6, none⟩ ∨ (x = 0 ∧ A' = some ad)) → Below w.heap.size w W → Calls Try.prog 34 #[.slice A' x c', .func (.func 13) #[] #[]] W fun e w' => e = .returned (.bool ((P.inf.drop 1).all (·.ex))) ∧ Below W.heap.size W w') := Lib.hid (fun A' c' W hA hW => by
    have hS2 : Holds w w.heap.size (P.drop 1) A' 0 := by
      rcases hA with rfl | ⟨h0, rfl⟩
      · exact hS
      · exact hS0 (by omega)
    have h := all_Expr (·.ex) (P.drop 1) ((allE P).drop 1) A' c' W ((hS2.below hW).more hW.size) (by rw [hdl]; omega)
    rw [hdl, drop_inf] at h
    exact h)
  rw [hx] at KB ⊢
  have hxc : x + 1 ≤ c := by omega
  clear e1 hd1 hR1 hP1 hS hS0 hdl hH hlc h0 t0 hl hx
  generalize (mk k1 t1 n1 m1 Q1.inf).ref = b5 at *
  generalize (P.inf.drop 1).all (·.ex) = b6 at *
  generalize Q1.len = x1 at *
  have HY := Lib.hid hy
  clear hy
  by_cases hc1 : c = 1
  · obtain rfl : x = 0 := by omega
    subst hc1
    have KA1 := Lib.hid (fun c' W hW => KA.out (some ad) c' W (.inr ⟨rfl, rfl⟩) hW)
    clear KA hxc
    go_enter Try.func92, Try.ntmps92
    go_wp2_with (first
      | (go_at_call 32; refine (KB.out _).mono ?_; rintro e w1 ⟨rfl, hb⟩; have bx := Box.later (by first | assumption | exact Box.new _ _ _ _ _ _ _ _ _) hb; have bx2 := bx; obtain ⟨-, -, c0, c1, c2, c3, c4, c5⟩ := bx2; obtain ⟨f0, f1, f2, f3, f4, f5⟩ := FX1.out _ (Box.below (by assumption)))
      | (go_at_call 67; refine (K1.out _ (by first | exact Box.below (by assumption) | exact (Below.refl _ _).alloc (Nat.le_refl _) _)).mono ?_; rintro e w1 ⟨rfl, hb⟩; have bx := Box.later (by first | assumption | exact Box.new _ _ _ _ _ _ _ _ _) hb; have bx2 := bx; obtain ⟨-, -, c0, c1, c2, c3, c4, c5⟩ := bx2)
      | (go_at_call 34; refine (KA1.out _ _ (by first | exact Box.below (by assumption) | exact (Below.refl _ _).alloc (Nat.le_refl _) _)).mono ?_; rintro e w1 ⟨rfl, hb⟩; have bx := Box.later (by first | assumption | exact Box.new _ _ _ _ _ _ _ _ _) hb; have bx2 := bx; obtain ⟨-, -, c0, c1, c2, c3, c4, c5⟩ := bx2))
    all_goals
      go_ret
      refine ⟨ret_bool ?_, (by first | exact Box.below (by assumption) | exact (Below.refl _ _).alloc (Nat.le_refl _) _)⟩
      first | rfl | exact HY.out | (rw [← HY.out]; first | rfl | exact beq0 _ | (simp [*]; done) | (simp [*]; done) | (simp [*]; omega) | (simp_all; done) | (simp_all; omega))
  · have hc2 : 1 < c := by omega
    have KA1 := Lib.hid (fun c' W hW => KA.out (some ⟨ad.block, ad.off + 6, none⟩) c' W (.inl rfl) hW)
    clear KA hc1
    go_enter Try.func92, Try.ntmps92
    go_wp2_with (first
      | (go_at_call 32; refine (KB.out _).mono ?_; rintro e w1 ⟨rfl, hb⟩; have bx := Box.later (by first | assumption | exact Box.new _ _ _ _ _ _ _ _ _) hb; have bx2 := bx; obtain ⟨-, -, c0, c1, c2, c3, c4, c5⟩ := bx2; obtain ⟨f0, f1, f2, f3, f4, f5⟩ := FX1.out _ (Box.below (by assumption)))
      | (go_at_call 67; refine (K1.out _ (by first | exact Box.below (by assumption) | exact (Below.refl _ _).alloc (Nat.le_refl _) _)).mono ?_; rintro e w1 ⟨rfl, hb⟩; have bx := Box.later (by first | assumption | exact Box.new _ _ _ _ _ _ _ _ _) hb; have bx2 := bx; obtain ⟨-, -, c0, c1, c2, c3, c4, c5⟩ := bx2)
      | (go_at_call 34; refine (KA1.out _ _ (by first | exact Box.below (by assumption) | exact (Below.refl _ _).alloc (Nat.le_refl _) _)).mono ?_; rintro e w1 ⟨rfl, hb⟩; have bx := Box.later (by first | assumption | exact Box.new _ _ _ _ _ _ _ _ _) hb; have bx2 := bx; obtain ⟨-, -, c0, c1, c2, c3, c4, c5⟩ := bx2))
    all_goals
      go_ret
      refine ⟨ret_bool ?_, (by first | exact Box.below (by assumption) | exact (Below.refl _ _).alloc (Nat.le_refl _) _)⟩
      first | rfl | exact HY.out | (rw [← HY.out]; first | rfl | exact beq0 _ | (simp [*]; done) | (simp [*]; done) | (simp [*]; omega) | (simp_all; done) | (simp_all; omega))
end Go.Proofs.Ytogoolpgajopcaa
