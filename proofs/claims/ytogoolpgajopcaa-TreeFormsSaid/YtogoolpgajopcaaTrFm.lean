import Derived.Test.YtogoolpgajopcaaTrFl
namespace Go.Proofs.Ytogoolpgajopcaa
open Go.RowKit
set_option maxRecDepth 100000 in
set_option maxHeartbeats 2000000 in
theorem rstat_53 (P : Fo) (hall : AllC (FunP 14 (·.ex)) P) (t : ByteArray) (n a : Int) (A : Option Addr) (c : Nat) (w : World) (hH : Holds w w.heap.size P A 0) (hlc : P.len ≤ c) (hcc : c ≤ 1000000000000000) :
    Calls Try.prog 16 #[.agg #[.int .i64 53, .string t, .int .i64 n, .int .i64 0, .int .i64 a, .slice A P.len c]] w fun e w' => e = .returned (.bool (statB 53 t n 0 P.inf)) ∧ Below w.heap.size w w' := by
  have hl : P.len ≤ 1000000000000000 := by omega
  obtain ⟨y, hy⟩ : ∃ y, statB 53 t n 0 P.inf = y := ⟨_, rfl⟩
  rw [hy]
  rw [show statB 53 t n 0 P.inf = (bareB t n 0 && exprsB P.inf 1) from rfl] at hy
  simp only [bareB, plainB, emptyB, exprsB, lenB] at hy
  rw [inf_len] at hy
  by_cases h1 : P.len = 1
  · obtain ⟨k1, t1, n1, m1, a1, Q1, ad, A1, d1, R1, rfl, hd1, hR1, hP1⟩ := part_at hH (j := 0) (by omega)
    have e0 : P.inf = [mk k1 t1 n1 m1 Q1.inf] := by
      rw [show P.inf = P.inf.drop 0 by simp]; exact drop_last hd1 hR1 (by omega)
    rw [decide_eq_true h1, e0] at hy
    simp only [List.all_cons, List.all_nil, Bool.and_true] at hy
    have h1c : 1 ≤ c := by omega
    rw [h1]
    have FX1 : Hid (∀ W, Below w.heap.size w W → At6 W ad k1 t1 n1 m1 a1 Q1.len A1 d1) := Lib.hid (fun W hW => hP1.cells W hW)
    have K1 := Lib.hid (hP1.good _ _ hall)
    unfold At6 at FX1
    clear e0 h1 hl
    generalize (mk k1 t1 n1 m1 Q1.inf).ex = b1 at *
    clear hH hd1 hR1 hP1 hlc hall
    generalize Q1.len = x1 at *
    have FB1 := fun (o : Obj) => FX1.out (w.alloc o) ((Below.refl _ _).alloc (Nat.le_refl _) o)
    have f0 := fun (o : Obj) => (FB1 o).1
    have f1 := fun (o : Obj) => (FB1 o).2.1
    have f2 := fun (o : Obj) => (FB1 o).2.2.1
    have f3 := fun (o : Obj) => (FB1 o).2.2.2.1
    have f4 := fun (o : Obj) => (FB1 o).2.2.2.2.1
    have f5 := fun (o : Obj) => (FB1 o).2.2.2.2.2
    clear FB1
    have HY := Lib.hid hy
    clear hy
    go_enter Try.func16, Try.ntmps16
    go_wp2_with (first
      | (go_at_call 14; refine (K1.out _ (by first | exact Box.below (by assumption) | exact (Below.refl _ _).alloc (Nat.le_refl _) _)).mono ?_; rintro e w1 ⟨rfl, hb⟩; have bx := Box.later (by first | assumption | exact Box.new _ _ _ _ _ _ _ _ _) hb; have bx2 := bx; obtain ⟨-, -, c0, c1, c2, c3, c4, c5⟩ := bx2; obtain ⟨f0, f1, f2, f3, f4, f5⟩ := FX1.out _ (Box.below (by assumption))))
    all_goals
      go_ret
      refine ⟨ret_bool ?_, (by first | exact Box.below (by assumption) | exact (Below.refl _ _).alloc (Nat.le_refl _) _)⟩
      first | rfl | exact HY.out | (rw [← HY.out]; first | rfl | (simp [*]; done) | (simp [*]; omega) | (simp_all; done) | (simp_all; omega))
  · have t1 : (((P.len : Nat) : Int) == 1) = false := by simp; omega
    rw [decide_eq_false h1] at hy
    clear h1
    clear hH  hlc hall
    generalize P.len = x at *
    have HY := Lib.hid hy
    clear hy
    go_enter Try.func16, Try.ntmps16
    go_wp2_with fail
    all_goals
      go_ret
      refine ⟨ret_bool ?_, (by first | exact Box.below (by assumption) | exact (Below.refl _ _).alloc (Nat.le_refl _) _)⟩
      first | rfl | exact HY.out | (rw [← HY.out]; first | rfl | (simp [*]; done) | (simp [*]; omega) | (simp_all; done) | (simp_all; omega))
set_option maxRecDepth 100000 in
set_option maxHeartbeats 2000000 in
theorem rstat_57 (P : Fo) (hall : AllC (FunP 14 (·.ex)) P) (t : ByteArray) (n a : Int) (A : Option Addr) (c : Nat) (w : World) (hH : Holds w w.heap.size P A 0) (hlc : P.len ≤ c) (hcc : c ≤ 1000000000000000) :
    Calls Try.prog 16 #[.agg #[.int .i64 57, .string t, .int .i64 n, .int .i64 0, .int .i64 a, .slice A P.len c]] w fun e w' => e = .returned (.bool (statB 57 t n 0 P.inf)) ∧ Below w.heap.size w w' := by
  have hl : P.len ≤ 1000000000000000 := by omega
  obtain ⟨y, hy⟩ : ∃ y, statB 57 t n 0 P.inf = y := ⟨_, rfl⟩
  rw [hy]
  rw [show statB 57 t n 0 P.inf = (bareB t n 0 && exprsB P.inf 1) from rfl] at hy
  simp only [bareB, plainB, emptyB, exprsB, lenB] at hy
  rw [inf_len] at hy
  by_cases h1 : P.len = 1
  · obtain ⟨k1, t1, n1, m1, a1, Q1, ad, A1, d1, R1, rfl, hd1, hR1, hP1⟩ := part_at hH (j := 0) (by omega)
    have e0 : P.inf = [mk k1 t1 n1 m1 Q1.inf] := by
      rw [show P.inf = P.inf.drop 0 by simp]; exact drop_last hd1 hR1 (by omega)
    rw [decide_eq_true h1, e0] at hy
    simp only [List.all_cons, List.all_nil, Bool.and_true] at hy
    have h1c : 1 ≤ c := by omega
    rw [h1]
    have FX1 : Hid (∀ W, Below w.heap.size w W → At6 W ad k1 t1 n1 m1 a1 Q1.len A1 d1) := Lib.hid (fun W hW => hP1.cells W hW)
    have K1 := Lib.hid (hP1.good _ _ hall)
    unfold At6 at FX1
    clear e0 h1 hl
    generalize (mk k1 t1 n1 m1 Q1.inf).ex = b1 at *
    clear hH hd1 hR1 hP1 hlc hall
    generalize Q1.len = x1 at *
    have FB1 := fun (o : Obj) => FX1.out (w.alloc o) ((Below.refl _ _).alloc (Nat.le_refl _) o)
    have f0 := fun (o : Obj) => (FB1 o).1
    have f1 := fun (o : Obj) => (FB1 o).2.1
    have f2 := fun (o : Obj) => (FB1 o).2.2.1
    have f3 := fun (o : Obj) => (FB1 o).2.2.2.1
    have f4 := fun (o : Obj) => (FB1 o).2.2.2.2.1
    have f5 := fun (o : Obj) => (FB1 o).2.2.2.2.2
    clear FB1
    have HY := Lib.hid hy
    clear hy
    go_enter Try.func16, Try.ntmps16
    go_wp2_with (first
      | (go_at_call 14; refine (K1.out _ (by first | exact Box.below (by assumption) | exact (Below.refl _ _).alloc (Nat.le_refl _) _)).mono ?_; rintro e w1 ⟨rfl, hb⟩; have bx := Box.later (by first | assumption | exact Box.new _ _ _ _ _ _ _ _ _) hb; have bx2 := bx; obtain ⟨-, -, c0, c1, c2, c3, c4, c5⟩ := bx2; obtain ⟨f0, f1, f2, f3, f4, f5⟩ := FX1.out _ (Box.below (by assumption))))
    all_goals
      go_ret
      refine ⟨ret_bool ?_, (by first | exact Box.below (by assumption) | exact (Below.refl _ _).alloc (Nat.le_refl _) _)⟩
      first | rfl | exact HY.out | (rw [← HY.out]; first | rfl | (simp [*]; done) | (simp [*]; omega) | (simp_all; done) | (simp_all; omega))
  · have t1 : (((P.len : Nat) : Int) == 1) = false := by simp; omega
    rw [decide_eq_false h1] at hy
    clear h1
    clear hH  hlc hall
    generalize P.len = x at *
    have HY := Lib.hid hy
    clear hy
    go_enter Try.func16, Try.ntmps16
    go_wp2_with fail
    all_goals
      go_ret
      refine ⟨ret_bool ?_, (by first | exact Box.below (by assumption) | exact (Below.refl _ _).alloc (Nat.le_refl _) _)⟩
      first | rfl | exact HY.out | (rw [← HY.out]; first | rfl | (simp [*]; done) | (simp [*]; omega) | (simp_all; done) | (simp_all; omega))
set_option maxRecDepth 100000 in
set_option maxHeartbeats 2000000 in
theorem rstat_55 (P : Fo) (hall : AllC (FunP 14 (·.ex)) P) (hallb : AllC (FunP 58 (·.blk)) P) (t : ByteArray) (n a : Int) (A : Option Addr) (c : Nat) (w : World) (hH : Holds w w.heap.size P A 0) (hlc : P.len ≤ c) (hcc : c ≤ 1000000000000000) :
    Calls Try.prog 16 #[.agg #[.int .i64 55, .string t, .int .i64 n, .int .i64 0, .int .i64 a, .slice A P.len c]] w fun e w' => e = .returned (.bool (statB 55 t n 0 P.inf)) ∧ Below w.heap.size w w' := by
  have hl : P.len ≤ 1000000000000000 := by omega
  obtain ⟨y, hy⟩ : ∃ y, statB 55 t n 0 P.inf = y := ⟨_, rfl⟩
  rw [hy]
  rw [show statB 55 t n 0 P.inf = (bareB t n 0 && (lenB P.inf 2 && ((P.inf.take 1).all (·.ex) && (P.inf.drop 1).all (·.blk)))) from rfl] at hy
  simp only [bareB, plainB, emptyB, lenB] at hy
  rw [inf_len] at hy
  by_cases h2 : P.len = 2
  · obtain ⟨k1, t1, n1, m1, a1, Q1, ad, A1, d1, R1, rfl, hd1, hR1, hP1⟩ := part_at hH (j := 0) (by omega)
    obtain ⟨k2, t2, n2, m2, a2, Q2, ad2, A2, d2, R2, had, hd2, hR2, hP2⟩ := part_at hH (j := 1) (by omega)
    cases had
    have e1 : P.inf.take 1 = [mk k1 t1 n1 m1 Q1.inf] := by
      rw [show P.inf = P.inf.drop 0 by simp, hd1]; rfl
    have e2 := drop_last hd2 hR2 (by omega)
    rw [decide_eq_true h2, e1, e2] at hy
    simp only [List.all_cons, List.all_nil, Bool.and_true] at hy
    have h2c : 2 ≤ c := by omega
    rw [h2]
    have FX1 : Hid (∀ W, Below w.heap.size w W → At6 W ad k1 t1 n1 m1 a1 Q1.len A1 d1) := Lib.hid (fun W hW => hP1.cells W hW)
    have FX2 : Hid (∀ W, Below w.heap.size w W → At6 W ⟨ad.block, ad.off + 6, none⟩ k2 t2 n2 m2 a2 Q2.len A2 d2) := Lib.hid (fun W hW => hP2.cells W hW)
    have K1 := Lib.hid (hP1.good _ _ hall)
    have K2 := Lib.hid (hP2.good _ _ hallb)
    unfold At6 at FX1 FX2
    clear e1 e2 h2 hl
    generalize (mk k1 t1 n1 m1 Q1.inf).ex = b1 at *
    generalize (mk k2 t2 n2 m2 Q2.inf).blk = b2 at *
    clear hH hd1 hR1 hP1 hd2 hR2 hP2 hlc hall hallb
    generalize Q1.len = x1 at *
    generalize Q2.len = x2 at *
    have FB1 := fun (o : Obj) => FX1.out (w.alloc o) ((Below.refl _ _).alloc (Nat.le_refl _) o)
    have f0 := fun (o : Obj) => (FB1 o).1
    have f1 := fun (o : Obj) => (FB1 o).2.1
    have f2 := fun (o : Obj) => (FB1 o).2.2.1
    have f3 := fun (o : Obj) => (FB1 o).2.2.2.1
    have f4 := fun (o : Obj) => (FB1 o).2.2.2.2.1
    have f5 := fun (o : Obj) => (FB1 o).2.2.2.2.2
    clear FB1
    have FB2 := fun (o : Obj) => FX2.out (w.alloc o) ((Below.refl _ _).alloc (Nat.le_refl _) o)
    have g0 := fun (o : Obj) => (FB2 o).1
    have g1 := fun (o : Obj) => (FB2 o).2.1
    have g2 := fun (o : Obj) => (FB2 o).2.2.1
    have g3 := fun (o : Obj) => (FB2 o).2.2.2.1
    have g4 := fun (o : Obj) => (FB2 o).2.2.2.2.1
    have g5 := fun (o : Obj) => (FB2 o).2.2.2.2.2
    clear FB2
    have HY := Lib.hid hy
    clear hy
    go_enter Try.func16, Try.ntmps16
    go_wp2_with (first
      | (go_at_call 14; refine (K1.out _ (by first | exact Box.below (by assumption) | exact (Below.refl _ _).alloc (Nat.le_refl _) _)).mono ?_; rintro e w1 ⟨rfl, hb⟩; have bx := Box.later (by first | assumption | exact Box.new _ _ _ _ _ _ _ _ _) hb; have bx2 := bx; obtain ⟨-, -, c0, c1, c2, c3, c4, c5⟩ := bx2; obtain ⟨f0, f1, f2, f3, f4, f5⟩ := FX1.out _ (Box.below (by assumption)); obtain ⟨g0, g1, g2, g3, g4, g5⟩ := FX2.out _ (Box.below (by assumption)))
      | (go_at_call 58; refine (K2.out _ (by first | exact Box.below (by assumption) | exact (Below.refl _ _).alloc (Nat.le_refl _) _)).mono ?_; rintro e w1 ⟨rfl, hb⟩; have bx := Box.later (by first | assumption | exact Box.new _ _ _ _ _ _ _ _ _) hb; have bx2 := bx; obtain ⟨-, -, c0, c1, c2, c3, c4, c5⟩ := bx2; obtain ⟨f0, f1, f2, f3, f4, f5⟩ := FX1.out _ (Box.below (by assumption)); obtain ⟨g0, g1, g2, g3, g4, g5⟩ := FX2.out _ (Box.below (by assumption))))
    all_goals
      go_ret
      refine ⟨ret_bool ?_, (by first | exact Box.below (by assumption) | exact (Below.refl _ _).alloc (Nat.le_refl _) _)⟩
      first | rfl | exact HY.out | (rw [← HY.out]; first | rfl | (simp [*]; done) | (simp [*]; omega) | (simp_all; done) | (simp_all; omega))
  · have t1 : (((P.len : Nat) : Int) == 2) = false := by simp; omega
    rw [decide_eq_false h2] at hy
    clear h2
    clear hH  hlc hall hallb
    generalize P.len = x at *
    have HY := Lib.hid hy
    clear hy
    go_enter Try.func16, Try.ntmps16
    go_wp2_with fail
    all_goals
      go_ret
      refine ⟨ret_bool ?_, (by first | exact Box.below (by assumption) | exact (Below.refl _ _).alloc (Nat.le_refl _) _)⟩
      first | rfl | exact HY.out | (rw [← HY.out]; first | rfl | (simp [*]; done) | (simp [*]; omega) | (simp_all; done) | (simp_all; omega))
set_option maxRecDepth 100000 in
set_option maxHeartbeats 2000000 in
theorem rstat_52 (P : Fo) (hall : AllC (FunP 14 (·.ex)) P) (t : ByteArray) (n a : Int) (A : Option Addr) (c : Nat) (w : World) (hH : Holds w w.heap.size P A 0) (hlc : P.len ≤ c) (hcc : c ≤ 1000000000000000) :
    Calls Try.prog 16 #[.agg #[.int .i64 52, .string t, .int .i64 n, .int .i64 0, .int .i64 a, .slice A P.len c]] w fun e w' => e = .returned (.bool (statB 52 t n 0 P.inf)) ∧ Below w.heap.size w w' := by
  have hl : P.len ≤ 1000000000000000 := by omega
  obtain ⟨y, hy⟩ : ∃ y, statB 52 t n 0 P.inf = y := ⟨_, rfl⟩
  rw [hy]
  rw [show statB 52 t n 0 P.inf = (bareB t n 0 && (exprsB P.inf 2 && (P.inf.take 1).all tgtB)) from rfl] at hy
  simp only [bareB, plainB, emptyB, exprsB, lenB] at hy
  rw [inf_len] at hy
  have KX := Lib.hid (fun W (hW : Below w.heap.size w W) => rExprs_any P hall A c W ((hH.below hW).more hW.size) hl)
  by_cases h2 : P.len = 2
  · obtain ⟨k1, t1, n1, m1, a1, Q1, ad, A1, d1, R1, rfl, hd1, hR1, hP1⟩ := part_at hH (j := 0) (by omega)
    have e1 : P.inf.take 1 = [mk k1 t1 n1 m1 Q1.inf] := by
      rw [show P.inf = P.inf.drop 0 by simp, hd1]; rfl
    rw [decide_eq_true h2, e1] at hy
    simp only [List.all_cons, List.all_nil, Bool.and_true, tgtB, mk] at hy
    have h2c : 2 ≤ c := by omega
    rw [h2] at KX ⊢
    have FX1 : Hid (∀ W, Below w.heap.size w W → At6 W ad k1 t1 n1 m1 a1 Q1.len A1 d1) := Lib.hid (fun W hW => hP1.cells W hW)
    unfold At6 at FX1
    generalize P.inf.all (·.ex) = b5 at *
    clear e1 h2 hl
    clear hH hd1 hR1 hP1 hlc hall
    generalize Q1.len = x1 at *
    have FB1 := fun (o : Obj) => FX1.out (w.alloc o) ((Below.refl _ _).alloc (Nat.le_refl _) o)
    have f0 := fun (o : Obj) => (FB1 o).1
    have f1 := fun (o : Obj) => (FB1 o).2.1
    have f2 := fun (o : Obj) => (FB1 o).2.2.1
    have f3 := fun (o : Obj) => (FB1 o).2.2.2.1
    have f4 := fun (o : Obj) => (FB1 o).2.2.2.2.1
    have f5 := fun (o : Obj) => (FB1 o).2.2.2.2.2
    clear FB1
    have HY := Lib.hid hy
    clear hy
    go_enter Try.func16, Try.ntmps16
    go_wp2_with (first
      | (go_at_call 50; refine (KX.out _ (by first | exact Box.below (by assumption) | exact (Below.refl _ _).alloc (Nat.le_refl _) _)).mono ?_; rintro e w1 ⟨rfl, hb⟩; have bx := Box.later (by first | assumption | exact Box.new _ _ _ _ _ _ _ _ _) hb; have bx2 := bx; obtain ⟨-, -, c0, c1, c2, c3, c4, c5⟩ := bx2))
    all_goals
      go_ret
      refine ⟨ret_bool ?_, (by first | exact Box.below (by assumption) | exact (Below.refl _ _).alloc (Nat.le_refl _) _)⟩
      first | rfl | exact HY.out | (rw [← HY.out]; first | rfl | (simp [*]; done) | (simp [*]; omega) | (simp_all; done) | (simp_all; omega))
  · have t1 : (((P.len : Nat) : Int) == 2) = false := by simp; omega
    rw [decide_eq_false h2] at hy
    clear h2 KX
    clear hH  hlc hall
    generalize P.len = x at *
    have HY := Lib.hid hy
    clear hy
    go_enter Try.func16, Try.ntmps16
    go_wp2_with fail
    all_goals
      go_ret
      refine ⟨ret_bool ?_, (by first | exact Box.below (by assumption) | exact (Below.refl _ _).alloc (Nat.le_refl _) _)⟩
      first | rfl | exact HY.out | (rw [← HY.out]; first | rfl | (simp [*]; done) | (simp [*]; omega) | (simp_all; done) | (simp_all; omega))
set_option maxRecDepth 100000 in
set_option maxHeartbeats 2000000 in
theorem rstat_56 (P : Fo) (hall : AllC (FunP 14 (·.ex)) P) (t : ByteArray) (n a : Int) (A : Option Addr) (c : Nat) (w : World) (hH : Holds w w.heap.size P A 0) (hlc : P.len ≤ c) (hcc : c ≤ 1000000000000000) :
    Calls Try.prog 16 #[.agg #[.int .i64 56, .string t, .int .i64 n, .int .i64 0, .int .i64 a, .slice A P.len c]] w fun e w' => e = .returned (.bool (statB 56 t n 0 P.inf)) ∧ Below w.heap.size w w' := by
  have hl : P.len ≤ 1000000000000000 := by omega
  obtain ⟨y, hy⟩ : ∃ y, statB 56 t n 0 P.inf = y := ⟨_, rfl⟩
  rw [hy]
  rw [show statB 56 t n 0 P.inf = (emptyB t && (((0 : Int) == 0) && (decide (n = 0 ∨ n = 1) && (decide ((P.inf.length : Int) = n) && P.inf.all (·.ex))))) from rfl] at hy
  simp only [emptyB] at hy
  rw [inf_len] at hy
  by_cases h0 : P.len = 0
  · rw [len_zero h0, h0] at hy
    rw [h0]
    simp only [List.all_nil] at hy
    clear h0 hl
    clear hH  hlc hall
    have HY := Lib.hid hy
    clear hy
    go_enter Try.func16, Try.ntmps16
    go_wp2_with fail
    all_goals
      go_ret
      refine ⟨ret_bool ?_, (by first | exact Box.below (by assumption) | exact (Below.refl _ _).alloc (Nat.le_refl _) _)⟩
      first | rfl | exact HY.out | (rw [← HY.out]; first | rfl | (simp [*]; done) | (simp [*]; omega) | (simp_all; done) | (simp_all; omega))
  by_cases h1 : P.len = 1
  · obtain ⟨k1, t1, n1, m1, a1, Q1, ad, A1, d1, R1, rfl, hd1, hR1, hP1⟩ := part_at hH (j := 0) (by omega)
    have e0 : P.inf = [mk k1 t1 n1 m1 Q1.inf] := by
      rw [show P.inf = P.inf.drop 0 by simp]; exact drop_last hd1 hR1 (by omega)
    rw [h1, e0] at hy
    simp only [List.all_cons, List.all_nil, Bool.and_true] at hy
    have h1c : 1 ≤ c := by omega
    rw [h1]
    have FX1 : Hid (∀ W, Below w.heap.size w W → At6 W ad k1 t1 n1 m1 a1 Q1.len A1 d1) := Lib.hid (fun W hW => hP1.cells W hW)
    have K1 := Lib.hid (hP1.good _ _ hall)
    unfold At6 at FX1
    clear e0 h1 h0 hl
    generalize (mk k1 t1 n1 m1 Q1.inf).ex = b1 at *
    clear hH hd1 hR1 hP1 hlc hall
    generalize Q1.len = x1 at *
    have FB1 := fun (o : Obj) => FX1.out (w.alloc o) ((Below.refl _ _).alloc (Nat.le_refl _) o)
    have f0 := fun (o : Obj) => (FB1 o).1
    have f1 := fun (o : Obj) => (FB1 o).2.1
    have f2 := fun (o : Obj) => (FB1 o).2.2.1
    have f3 := fun (o : Obj) => (FB1 o).2.2.2.1
    have f4 := fun (o : Obj) => (FB1 o).2.2.2.2.1
    have f5 := fun (o : Obj) => (FB1 o).2.2.2.2.2
    clear FB1
    have HY := Lib.hid hy
    clear hy
    go_enter Try.func16, Try.ntmps16
    go_wp2_with (first
      | (go_at_call 14; refine (K1.out _ (by first | exact Box.below (by assumption) | exact (Below.refl _ _).alloc (Nat.le_refl _) _)).mono ?_; rintro e w1 ⟨rfl, hb⟩; have bx := Box.later (by first | assumption | exact Box.new _ _ _ _ _ _ _ _ _) hb; have bx2 := bx; obtain ⟨-, -, c0, c1, c2, c3, c4, c5⟩ := bx2; obtain ⟨f0, f1, f2, f3, f4, f5⟩ := FX1.out _ (Box.below (by assumption))))
    all_goals
      go_ret
      refine ⟨ret_bool ?_, (by first | exact Box.below (by assumption) | exact (Below.refl _ _).alloc (Nat.le_refl _) _)⟩
      first | rfl | exact HY.out | (rw [← HY.out]; first | rfl | (simp [*]; done) | (simp [*]; omega) | (simp_all; done) | (simp_all; omega))
  · have t0 : (((P.len : Nat) : Int) == 0) = false := by simp; omega
    have t1 : (((P.len : Nat) : Int) == 1) = false := by simp; omega
    rw [show (decide (n = 0 ∨ n = 1) && (decide ((P.len : Int) = n) && P.inf.all (·.ex))) = false by
      by_cases hn : (P.len : Int) = n
      · rw [decide_eq_false (p := n = 0 ∨ n = 1) (by omega)]; rfl
      · rw [decide_eq_false hn]; simp] at hy
    clear h1 h0
    clear hH  hlc hall
    generalize P.len = x at *
    have HY := Lib.hid hy
    clear hy
    go_enter Try.func16, Try.ntmps16
    go_wp2_with fail
    all_goals
      go_ret
      refine ⟨ret_bool ?_, (by first | exact Box.below (by assumption) | exact (Below.refl _ _).alloc (Nat.le_refl _) _)⟩
      first | rfl | exact HY.out | (rw [← HY.out]; first | rfl | (simp [*]; done) | (simp [*]; omega) | (simp_all; done) | (simp_all; omega))
set_option maxRecDepth 100000 in
set_option maxHeartbeats 2000000 in
theorem rstat_54 (P : Fo) (hall : AllC (FunP 14 (·.ex)) P) (hallb : AllC (FunP 58 (·.blk)) P) (t : ByteArray) (n a : Int) (A : Option Addr) (c : Nat) (w : World) (hH : Holds w w.heap.size P A 0) (hlc : P.len ≤ c) (hcc : c ≤ 1000000000000000) :
    Calls Try.prog 16 #[.agg #[.int .i64 54, .string t, .int .i64 n, .int .i64 0, .int .i64 a, .slice A P.len c]] w fun e w' => e = .returned (.bool (statB 54 t n 0 P.inf)) ∧ Below w.heap.size w w' := by
  have hl : P.len ≤ 1000000000000000 := by omega
  obtain ⟨y, hy⟩ : ∃ y, statB 54 t n 0 P.inf = y := ⟨_, rfl⟩
  rw [hy]
  rw [show statB 54 t n 0 P.inf = (emptyB t && (((0 : Int) == 0) && branB n P.inf)) from rfl] at hy
  simp only [emptyB, branB] at hy
  rw [inf_len] at hy
  by_cases h0 : P.len < 2
  · rw [show (decide (n = 0 ∨ n = 1) && decide ((P.len : Int) = 2 + n)) = false by
      by_cases hn : n = 0 ∨ n = 1
      · rw [decide_eq_false (p := (P.len : Int) = 2 + n) (by omega)]; simp
      · rw [decide_eq_false hn]; rfl] at hy
    clear hH  hlc hall hallb
    generalize P.len = x at *
    have HY := Lib.hid hy
    clear hy
    go_enter Try.func16, Try.ntmps16
    go_wp2_with fail
    all_goals
      go_ret
      refine ⟨ret_bool ?_, (by first | exact Box.below (by assumption) | exact (Below.refl _ _).alloc (Nat.le_refl _) _)⟩
      first | rfl | exact HY.out | (rw [← HY.out]; first | rfl | (simp [*]; done) | (simp [*]; omega) | (simp_all; done) | (simp_all; omega))
  by_cases h2 : P.len = 2
  · obtain ⟨k1, t1, n1, m1, a1, Q1, ad, A1, d1, R1, rfl, hd1, hR1, hP1⟩ := part_at hH (j := 0) (by omega)
    obtain ⟨k2, t2, n2, m2, a2, Q2, ad2, A2, d2, R2, had, hd2, hR2, hP2⟩ := part_at hH (j := 1) (by omega)
    cases had
    have e1 : P.inf.take 1 = [mk k1 t1 n1 m1 Q1.inf] := by
      rw [show P.inf = P.inf.drop 0 by simp, hd1]; rfl
    have e2 := drop_last hd2 hR2 (by omega)
    rw [h2, e1, e2] at hy
    simp only [List.all_cons, List.all_nil, Bool.and_true] at hy
    have h2c : 2 ≤ c := by omega
    rw [h2]
    have FX1 : Hid (∀ W, Below w.heap.size w W → At6 W ad k1 t1 n1 m1 a1 Q1.len A1 d1) := Lib.hid (fun W hW => hP1.cells W hW)
    have FX2 : Hid (∀ W, Below w.heap.size w W → At6 W ⟨ad.block, ad.off + 6, none⟩ k2 t2 n2 m2 a2 Q2.len A2 d2) := Lib.hid (fun W hW => hP2.cells W hW)
    have K1 := Lib.hid (hP1.good _ _ hall)
    have K2 := Lib.hid (hP2.good _ _ hallb)
    unfold At6 at FX1 FX2
    clear e1 e2 h2 h0 hl
    generalize (mk k1 t1 n1 m1 Q1.inf).ex = b1 at *
    generalize (mk k2 t2 n2 m2 Q2.inf).blk = b2 at *
    clear hH hd1 hR1 hP1 hd2 hR2 hP2 hlc hall hallb
    generalize Q1.len = x1 at *
    generalize Q2.len = x2 at *
    have FB1 := fun (o : Obj) => FX1.out (w.alloc o) ((Below.refl _ _).alloc (Nat.le_refl _) o)
    have f0 := fun (o : Obj) => (FB1 o).1
    have f1 := fun (o : Obj) => (FB1 o).2.1
    have f2 := fun (o : Obj) => (FB1 o).2.2.1
    have f3 := fun (o : Obj) => (FB1 o).2.2.2.1
    have f4 := fun (o : Obj) => (FB1 o).2.2.2.2.1
    have f5 := fun (o : Obj) => (FB1 o).2.2.2.2.2
    clear FB1
    have FB2 := fun (o : Obj) => FX2.out (w.alloc o) ((Below.refl _ _).alloc (Nat.le_refl _) o)
    have g0 := fun (o : Obj) => (FB2 o).1
    have g1 := fun (o : Obj) => (FB2 o).2.1
    have g2 := fun (o : Obj) => (FB2 o).2.2.1
    have g3 := fun (o : Obj) => (FB2 o).2.2.2.1
    have g4 := fun (o : Obj) => (FB2 o).2.2.2.2.1
    have g5 := fun (o : Obj) => (FB2 o).2.2.2.2.2
    clear FB2
    have HY := Lib.hid hy
    clear hy
    go_enter Try.func16, Try.ntmps16
    go_wp2_with (first
      | (go_at_call 14; refine (K1.out _ (by first | exact Box.below (by assumption) | exact (Below.refl _ _).alloc (Nat.le_refl _) _)).mono ?_; rintro e w1 ⟨rfl, hb⟩; have bx := Box.later (by first | assumption | exact Box.new _ _ _ _ _ _ _ _ _) hb; have bx2 := bx; obtain ⟨-, -, c0, c1, c2, c3, c4, c5⟩ := bx2; obtain ⟨f0, f1, f2, f3, f4, f5⟩ := FX1.out _ (Box.below (by assumption)); obtain ⟨g0, g1, g2, g3, g4, g5⟩ := FX2.out _ (Box.below (by assumption)))
      | (go_at_call 58; refine (K2.out _ (by first | exact Box.below (by assumption) | exact (Below.refl _ _).alloc (Nat.le_refl _) _)).mono ?_; rintro e w1 ⟨rfl, hb⟩; have bx := Box.later (by first | assumption | exact Box.new _ _ _ _ _ _ _ _ _) hb; have bx2 := bx; obtain ⟨-, -, c0, c1, c2, c3, c4, c5⟩ := bx2; obtain ⟨f0, f1, f2, f3, f4, f5⟩ := FX1.out _ (Box.below (by assumption)); obtain ⟨g0, g1, g2, g3, g4, g5⟩ := FX2.out _ (Box.below (by assumption))))
    all_goals
      go_ret
      refine ⟨ret_bool ?_, (by first | exact Box.below (by assumption) | exact (Below.refl _ _).alloc (Nat.le_refl _) _)⟩
      first | rfl | exact HY.out | (rw [← HY.out]; first | rfl | (simp [*]; done) | (simp [*]; omega) | (simp_all; done) | (simp_all; omega))
  by_cases h3 : P.len = 3
  · obtain ⟨k1, t1, n1, m1, a1, Q1, ad, A1, d1, R1, rfl, hd1, hR1, hP1⟩ := part_at hH (j := 0) (by omega)
    obtain ⟨k2, t2, n2, m2, a2, Q2, ad2, A2, d2, R2, had, hd2, hR2, hP2⟩ := part_at hH (j := 1) (by omega)
    cases had
    obtain ⟨k3, t3, n3, m3, a3, Q3, ad3, A3, d3, R3, had, hd3, hR3, hP3⟩ := part_at hH (j := 2) (by omega)
    cases had
    have e1 : P.inf.take 1 = [mk k1 t1 n1 m1 Q1.inf] := by
      rw [show P.inf = P.inf.drop 0 by simp, hd1]; rfl
    have e3 := drop_last hd3 hR3 (by omega)
    have e2 : P.inf.drop 1 = [mk k2 t2 n2 m2 Q2.inf, mk k3 t3 n3 m3 Q3.inf] := by rw [hd2, hR2, e3]
    rw [h3, e1, e2] at hy
    simp only [List.all_cons, List.all_nil, Bool.and_true] at hy
    have h3c : 3 ≤ c := by omega
    rw [h3]
    have FX1 : Hid (∀ W, Below w.heap.size w W → At6 W ad k1 t1 n1 m1 a1 Q1.len A1 d1) := Lib.hid (fun W hW => hP1.cells W hW)
    have FX2 : Hid (∀ W, Below w.heap.size w W → At6 W ⟨ad.block, ad.off + 6, none⟩ k2 t2 n2 m2 a2 Q2.len A2 d2) := Lib.hid (fun W hW => hP2.cells W hW)
    have FX3 : Hid (∀ W, Below w.heap.size w W → At6 W ⟨ad.block, ad.off + 12, none⟩ k3 t3 n3 m3 a3 Q3.len A3 d3) := Lib.hid (fun W hW => hP3.cells W hW)
    have K1 := Lib.hid (hP1.good _ _ hall)
    have K2 := Lib.hid (hP2.good _ _ hallb)
    have K3 := Lib.hid (hP3.good _ _ hallb)
    unfold At6 at FX1 FX2 FX3
    clear e1 e2 e3 h2 h3 h0 hl
    generalize (mk k1 t1 n1 m1 Q1.inf).ex = b1 at *
    generalize (mk k2 t2 n2 m2 Q2.inf).blk = b2 at *
    generalize (mk k3 t3 n3 m3 Q3.inf).blk = b3 at *
    clear hH hd1 hR1 hP1 hd2 hR2 hP2 hd3 hR3 hP3 hlc hall hallb
    generalize Q1.len = x1 at *
    generalize Q2.len = x2 at *
    generalize Q3.len = x3 at *
    have FB1 := fun (o : Obj) => FX1.out (w.alloc o) ((Below.refl _ _).alloc (Nat.le_refl _) o)
    have f0 := fun (o : Obj) => (FB1 o).1
    have f1 := fun (o : Obj) => (FB1 o).2.1
    have f2 := fun (o : Obj) => (FB1 o).2.2.1
    have f3 := fun (o : Obj) => (FB1 o).2.2.2.1
    have f4 := fun (o : Obj) => (FB1 o).2.2.2.2.1
    have f5 := fun (o : Obj) => (FB1 o).2.2.2.2.2
    clear FB1
    have FB2 := fun (o : Obj) => FX2.out (w.alloc o) ((Below.refl _ _).alloc (Nat.le_refl _) o)
    have g0 := fun (o : Obj) => (FB2 o).1
    have g1 := fun (o : Obj) => (FB2 o).2.1
    have g2 := fun (o : Obj) => (FB2 o).2.2.1
    have g3 := fun (o : Obj) => (FB2 o).2.2.2.1
    have g4 := fun (o : Obj) => (FB2 o).2.2.2.2.1
    have g5 := fun (o : Obj) => (FB2 o).2.2.2.2.2
    clear FB2
    have FB3 := fun (o : Obj) => FX3.out (w.alloc o) ((Below.refl _ _).alloc (Nat.le_refl _) o)
    have l0 := fun (o : Obj) => (FB3 o).1
    have l1 := fun (o : Obj) => (FB3 o).2.1
    have l2 := fun (o : Obj) => (FB3 o).2.2.1
    have l3 := fun (o : Obj) => (FB3 o).2.2.2.1
    have l4 := fun (o : Obj) => (FB3 o).2.2.2.2.1
    have l5 := fun (o : Obj) => (FB3 o).2.2.2.2.2
    clear FB3
    have HY := Lib.hid hy
    clear hy
    go_enter Try.func16, Try.ntmps16
    go_wp2_with (first
      | (go_at_call 14; refine (K1.out _ (by first | exact Box.below (by assumption) | exact (Below.refl _ _).alloc (Nat.le_refl _) _)).mono ?_; rintro e w1 ⟨rfl, hb⟩; have bx := Box.later (by first | assumption | exact Box.new _ _ _ _ _ _ _ _ _) hb; have bx2 := bx; obtain ⟨-, -, c0, c1, c2, c3, c4, c5⟩ := bx2; obtain ⟨f0, f1, f2, f3, f4, f5⟩ := FX1.out _ (Box.below (by assumption)); obtain ⟨g0, g1, g2, g3, g4, g5⟩ := FX2.out _ (Box.below (by assumption)); obtain ⟨l0, l1, l2, l3, l4, l5⟩ := FX3.out _ (Box.below (by assumption)))
      | (go_at_call 58; (with_reducible refine (K2.out _ (by first | exact Box.below (by assumption) | exact (Below.refl _ _).alloc (Nat.le_refl _) _)).mono ?_); rintro e w1 ⟨rfl, hb⟩; have bx := Box.later (by first | assumption | exact Box.new _ _ _ _ _ _ _ _ _) hb; have bx2 := bx; obtain ⟨-, -, c0, c1, c2, c3, c4, c5⟩ := bx2; obtain ⟨f0, f1, f2, f3, f4, f5⟩ := FX1.out _ (Box.below (by assumption)); obtain ⟨g0, g1, g2, g3, g4, g5⟩ := FX2.out _ (Box.below (by assumption)); obtain ⟨l0, l1, l2, l3, l4, l5⟩ := FX3.out _ (Box.below (by assumption)))
      | (go_at_call 58; (with_reducible refine (K3.out _ (by first | exact Box.below (by assumption) | exact (Below.refl _ _).alloc (Nat.le_refl _) _)).mono ?_); rintro e w1 ⟨rfl, hb⟩; have bx := Box.later (by first | assumption | exact Box.new _ _ _ _ _ _ _ _ _) hb; have bx2 := bx; obtain ⟨-, -, c0, c1, c2, c3, c4, c5⟩ := bx2; obtain ⟨f0, f1, f2, f3, f4, f5⟩ := FX1.out _ (Box.below (by assumption)); obtain ⟨g0, g1, g2, g3, g4, g5⟩ := FX2.out _ (Box.below (by assumption)); obtain ⟨l0, l1, l2, l3, l4, l5⟩ := FX3.out _ (Box.below (by assumption))))
    all_goals
      go_ret
      refine ⟨ret_bool ?_, (by first | exact Box.below (by assumption) | exact (Below.refl _ _).alloc (Nat.le_refl _) _)⟩
      first | rfl | exact HY.out | (rw [← HY.out]; first | rfl | (simp [*]; done) | (simp [*]; omega) | (simp_all; done) | (simp_all; omega))
  · have t2 : (((P.len : Nat) : Int) == 2) = false := by simp; omega
    have t3 : (((P.len : Nat) : Int) == 3) = false := by simp; omega
    rw [show (decide (n = 0 ∨ n = 1) && decide ((P.len : Int) = 2 + n)) = false by
      by_cases hn : n = 0 ∨ n = 1
      · rw [decide_eq_false (p := (P.len : Int) = 2 + n) (by omega)]; simp
      · rw [decide_eq_false hn]; rfl] at hy
    rw [Bool.false_and] at hy
    obtain ⟨k1, t1, n1, m1, a1, Q1, ad, A1, d1, R1, rfl, hd1, hR1, hP1⟩ := part_at hH (j := 0) (by omega)
    obtain ⟨k2, t2, n2, m2, a2, Q2, ad2, A2, d2, R2, had, hd2, hR2, hP2⟩ := part_at hH (j := 1) (by omega)
    cases had
    have h4 : 4 ≤ P.len := by omega
    have h2c : 4 ≤ c := by omega
    have FX1 : Hid (∀ W, Below w.heap.size w W → At6 W ad k1 t1 n1 m1 a1 Q1.len A1 d1) := Lib.hid (fun W hW => hP1.cells W hW)
    have FX2 : Hid (∀ W, Below w.heap.size w W → At6 W ⟨ad.block, ad.off + 6, none⟩ k2 t2 n2 m2 a2 Q2.len A2 d2) := Lib.hid (fun W hW => hP2.cells W hW)
    have K1 := Lib.hid (hP1.good _ _ hall)
    have K2 := Lib.hid (hP2.good _ _ hallb)
    unfold At6 at FX1 FX2
    clear h2 h3 h0
    generalize (mk k1 t1 n1 m1 Q1.inf).ex = b1 at *
    generalize (mk k2 t2 n2 m2 Q2.inf).blk = b2 at *
    clear hH hd1 hR1 hP1 hd2 hR2 hP2 hlc hall hallb
    generalize Q1.len = x1 at *
    generalize Q2.len = x2 at *
    generalize P.len = x at *
    have FB1 := fun (o : Obj) => FX1.out (w.alloc o) ((Below.refl _ _).alloc (Nat.le_refl _) o)
    have f0 := fun (o : Obj) => (FB1 o).1
    have f1 := fun (o : Obj) => (FB1 o).2.1
    have f2 := fun (o : Obj) => (FB1 o).2.2.1
    have f3 := fun (o : Obj) => (FB1 o).2.2.2.1
    have f4 := fun (o : Obj) => (FB1 o).2.2.2.2.1
    have f5 := fun (o : Obj) => (FB1 o).2.2.2.2.2
    clear FB1
    have FB2 := fun (o : Obj) => FX2.out (w.alloc o) ((Below.refl _ _).alloc (Nat.le_refl _) o)
    have g0 := fun (o : Obj) => (FB2 o).1
    have g1 := fun (o : Obj) => (FB2 o).2.1
    have g2 := fun (o : Obj) => (FB2 o).2.2.1
    have g3 := fun (o : Obj) => (FB2 o).2.2.2.1
    have g4 := fun (o : Obj) => (FB2 o).2.2.2.2.1
    have g5 := fun (o : Obj) => (FB2 o).2.2.2.2.2
    clear FB2
    have HY := Lib.hid hy
    clear hy
    go_enter Try.func16, Try.ntmps16
    go_wp2_with (first
      | (go_at_call 14; refine (K1.out _ (by first | exact Box.below (by assumption) | exact (Below.refl _ _).alloc (Nat.le_refl _) _)).mono ?_; rintro e w1 ⟨rfl, hb⟩; have bx := Box.later (by first | assumption | exact Box.new _ _ _ _ _ _ _ _ _) hb; have bx2 := bx; obtain ⟨-, -, c0, c1, c2, c3, c4, c5⟩ := bx2; obtain ⟨f0, f1, f2, f3, f4, f5⟩ := FX1.out _ (Box.below (by assumption)); obtain ⟨g0, g1, g2, g3, g4, g5⟩ := FX2.out _ (Box.below (by assumption)))
      | (go_at_call 58; refine (K2.out _ (by first | exact Box.below (by assumption) | exact (Below.refl _ _).alloc (Nat.le_refl _) _)).mono ?_; rintro e w1 ⟨rfl, hb⟩; have bx := Box.later (by first | assumption | exact Box.new _ _ _ _ _ _ _ _ _) hb; have bx2 := bx; obtain ⟨-, -, c0, c1, c2, c3, c4, c5⟩ := bx2; obtain ⟨f0, f1, f2, f3, f4, f5⟩ := FX1.out _ (Box.below (by assumption)); obtain ⟨g0, g1, g2, g3, g4, g5⟩ := FX2.out _ (Box.below (by assumption))))
    all_goals
      go_ret
      refine ⟨ret_bool ?_, (by first | exact Box.below (by assumption) | exact (Below.refl _ _).alloc (Nat.le_refl _) _)⟩
      first | rfl | exact HY.out | (rw [← HY.out]; first | rfl | (simp [*]; done) | (simp [*]; omega) | (simp_all; done) | (simp_all; omega))
set_option maxRecDepth 100000 in
set_option maxHeartbeats 2000000 in
theorem rstat_59 (P : Fo) (halls : AllC (FunP 16 (·.st)) P) (t : ByteArray) (n a : Int) (A : Option Addr) (c : Nat) (w : World) (hH : Holds w w.heap.size P A 0) (hlc : P.len ≤ c) (hcc : c ≤ 1000000000000000) (ht : t.size ≤ 1000000000000000) :
    Calls Try.prog 16 #[.agg #[.int .i64 59, .string t, .int .i64 n, .int .i64 0, .int .i64 a, .slice A P.len c]] w fun e w' => e = .returned (.bool (statB 59 t n 0 P.inf)) ∧ Below w.heap.size w w' := by
  have hl : P.len ≤ 1000000000000000 := by omega
  obtain ⟨y, hy⟩ : ∃ y, statB 59 t n 0 P.inf = y := ⟨_, rfl⟩
  rw [hy]
  rw [show statB 59 t n 0 P.inf = ((mk 59 t n 0 P.inf).blk) from rfl] at hy
  have KBl := Lib.hid (fun W (hW : Below w.heap.size w W) => rblock_any P halls 59 t n 0 a A c W ((hH.below hW).more hW.size) hlc hcc ht)
  simp only [val6, cells6] at KBl
  rw [hy] at KBl
  rw [show (mk 59 t n 0 P.inf).blk = (((n == 0) && ((0 : Int) == 0)) && t.toList.isEmpty && P.inf.all (·.st)) from rfl] at hy
  clear hH  hlc halls
  generalize P.len = x at *
  have HY := Lib.hid hy
  clear hy
  go_enter Try.func16, Try.ntmps16
  go_wp2_with (first
    | (go_at_call 58; refine (KBl.out _ (by first | exact Box.below (by assumption) | exact (Below.refl _ _).alloc (Nat.le_refl _) _)).mono ?_; rintro e w1 ⟨rfl, hb⟩; have bx := Box.later (by first | assumption | exact Box.new _ _ _ _ _ _ _ _ _) hb; have bx2 := bx; obtain ⟨-, -, c0, c1, c2, c3, c4, c5⟩ := bx2))
  all_goals
    go_ret
    refine ⟨ret_bool ?_, (by first | exact Box.below (by assumption) | exact (Below.refl _ _).alloc (Nat.le_refl _) _)⟩
    first | rfl | exact HY.out | (rw [← HY.out]; first | rfl | (simp [*]; done) | (simp [*]; omega) | (simp_all; done) | (simp_all; omega))
set_option maxRecDepth 100000 in
set_option maxHeartbeats 2000000 in
theorem rstat_58 (P : Fo) (hallb : AllC (FunP 58 (·.blk)) P) (t : ByteArray) (n a : Int) (A : Option Addr) (c : Nat) (w : World) (hH : Holds w w.heap.size P A 0) (hlc : P.len ≤ c) (hcc : c ≤ 1000000000000000) (ht : t.size ≤ 1000000000000000) :
    Calls Try.prog 16 #[.agg #[.int .i64 58, .string t, .int .i64 n, .int .i64 0, .int .i64 a, .slice A P.len c]] w fun e w' => e = .returned (.bool (statB 58 t n 0 P.inf)) ∧ Below w.heap.size w w' := by
  have hl : P.len ≤ 1000000000000000 := by omega
  obtain ⟨y, hy⟩ : ∃ y, statB 58 t n 0 P.inf = y := ⟨_, rfl⟩
  rw [hy]
  rw [show statB 58 t n 0 P.inf = (idB t && (plainB n 0 && (decide (P.inf.length = 2) && P.inf.all (·.blk)))) from rfl] at hy
  have KN := Lib.hid (rnamed_any 58 t n 0 a P.len A c ht)
  unfold Flat at KN
  rw [show ((0 : Int) == 0) = true from rfl, Bool.and_true] at KN
  simp only [plainB] at hy
  rw [inf_len] at hy
  generalize idB t = b9 at *
  by_cases h2 : P.len = 2
  · obtain ⟨k1, t1, n1, m1, a1, Q1, ad, A1, d1, R1, rfl, hd1, hR1, hP1⟩ := part_at hH (j := 0) (by omega)
    obtain ⟨k2, t2, n2, m2, a2, Q2, ad2, A2, d2, R2, had, hd2, hR2, hP2⟩ := part_at hH (j := 1) (by omega)
    cases had
    have e0 : P.inf = [mk k1 t1 n1 m1 Q1.inf, mk k2 t2 n2 m2 Q2.inf] := by
      rw [show P.inf = P.inf.drop 0 by simp, hd1, hR1, drop_last hd2 hR2 (by omega)]
    rw [decide_eq_true h2, e0] at hy
    simp only [List.all_cons, List.all_nil, Bool.and_true] at hy
    have h2c : 2 ≤ c := by omega
    rw [h2] at KN ⊢
    have FX1 : Hid (∀ W, Below w.heap.size w W → At6 W ad k1 t1 n1 m1 a1 Q1.len A1 d1) := Lib.hid (fun W hW => hP1.cells W hW)
    have FX2 : Hid (∀ W, Below w.heap.size w W → At6 W ⟨ad.block, ad.off + 6, none⟩ k2 t2 n2 m2 a2 Q2.len A2 d2) := Lib.hid (fun W hW => hP2.cells W hW)
    have K1 := Lib.hid (hP1.good _ _ hallb)
    have K2 := Lib.hid (hP2.good _ _ hallb)
    unfold At6 at FX1 FX2
    clear e0 h2 hl
    generalize (mk k1 t1 n1 m1 Q1.inf).blk = b1 at *
    generalize (mk k2 t2 n2 m2 Q2.inf).blk = b2 at *
    clear hH hd1 hR1 hP1 hd2 hR2 hP2 hlc hallb
    generalize Q1.len = x1 at *
    generalize Q2.len = x2 at *
    have FB1 := fun (o : Obj) => FX1.out (w.alloc o) ((Below.refl _ _).alloc (Nat.le_refl _) o)
    have f0 := fun (o : Obj) => (FB1 o).1
    have f1 := fun (o : Obj) => (FB1 o).2.1
    have f2 := fun (o : Obj) => (FB1 o).2.2.1
    have f3 := fun (o : Obj) => (FB1 o).2.2.2.1
    have f4 := fun (o : Obj) => (FB1 o).2.2.2.2.1
    have f5 := fun (o : Obj) => (FB1 o).2.2.2.2.2
    clear FB1
    have FB2 := fun (o : Obj) => FX2.out (w.alloc o) ((Below.refl _ _).alloc (Nat.le_refl _) o)
    have g0 := fun (o : Obj) => (FB2 o).1
    have g1 := fun (o : Obj) => (FB2 o).2.1
    have g2 := fun (o : Obj) => (FB2 o).2.2.1
    have g3 := fun (o : Obj) => (FB2 o).2.2.2.1
    have g4 := fun (o : Obj) => (FB2 o).2.2.2.2.1
    have g5 := fun (o : Obj) => (FB2 o).2.2.2.2.2
    clear FB2
    have HY := Lib.hid hy
    clear hy
    go_enter Try.func16, Try.ntmps16
    go_wp2_with (first
      | (go_at_call 41; refine (KN.out _).mono ?_; rintro e w1 ⟨rfl, hb⟩; have bx := Box.later (by first | assumption | exact Box.new _ _ _ _ _ _ _ _ _) hb; have bx2 := bx; obtain ⟨-, -, c0, c1, c2, c3, c4, c5⟩ := bx2; obtain ⟨f0, f1, f2, f3, f4, f5⟩ := FX1.out _ (Box.below (by assumption)); obtain ⟨g0, g1, g2, g3, g4, g5⟩ := FX2.out _ (Box.below (by assumption)))
      | (go_at_call 58; (with_reducible refine (K1.out _ (by first | exact Box.below (by assumption) | exact (Below.refl _ _).alloc (Nat.le_refl _) _)).mono ?_); rintro e w1 ⟨rfl, hb⟩; have bx := Box.later (by first | assumption | exact Box.new _ _ _ _ _ _ _ _ _) hb; have bx2 := bx; obtain ⟨-, -, c0, c1, c2, c3, c4, c5⟩ := bx2; obtain ⟨f0, f1, f2, f3, f4, f5⟩ := FX1.out _ (Box.below (by assumption)); obtain ⟨g0, g1, g2, g3, g4, g5⟩ := FX2.out _ (Box.below (by assumption)))
      | (go_at_call 58; (with_reducible refine (K2.out _ (by first | exact Box.below (by assumption) | exact (Below.refl _ _).alloc (Nat.le_refl _) _)).mono ?_); rintro e w1 ⟨rfl, hb⟩; have bx := Box.later (by first | assumption | exact Box.new _ _ _ _ _ _ _ _ _) hb; have bx2 := bx; obtain ⟨-, -, c0, c1, c2, c3, c4, c5⟩ := bx2; obtain ⟨f0, f1, f2, f3, f4, f5⟩ := FX1.out _ (Box.below (by assumption)); obtain ⟨g0, g1, g2, g3, g4, g5⟩ := FX2.out _ (Box.below (by assumption))))
    all_goals
      go_ret
      refine ⟨ret_bool ?_, (by first | exact Box.below (by assumption) | exact (Below.refl _ _).alloc (Nat.le_refl _) _)⟩
      first | rfl | exact HY.out | (rw [← HY.out]; first | rfl | (simp [*]; done) | (simp [*]; omega) | (simp_all; done) | (simp_all; omega))
  · have t2 : (((P.len : Nat) : Int) == 2) = false := by simp; omega
    rw [decide_eq_false h2] at hy
    clear h2
    clear hH  hlc hallb
    generalize P.len = x at *
    have HY := Lib.hid hy
    clear hy
    go_enter Try.func16, Try.ntmps16
    go_wp2_with (first
      | (go_at_call 41; refine (KN.out _).mono ?_; rintro e w1 ⟨rfl, hb⟩; have bx := Box.later (by first | assumption | exact Box.new _ _ _ _ _ _ _ _ _) hb; have bx2 := bx; obtain ⟨-, -, c0, c1, c2, c3, c4, c5⟩ := bx2))
    all_goals
      go_ret
      refine ⟨ret_bool ?_, (by first | exact Box.below (by assumption) | exact (Below.refl _ _).alloc (Nat.le_refl _) _)⟩
      first | rfl | exact HY.out | (rw [← HY.out]; first | rfl | (simp [*]; done) | (simp [*]; omega) | (simp_all; done) | (simp_all; omega))
set_option maxRecDepth 100000 in
set_option maxHeartbeats 2000000 in
theorem rstat_50 (P : Fo) (hall : AllC (FunP 14 (·.ex)) P) (t : ByteArray) (n a : Int) (A : Option Addr) (c : Nat) (w : World) (hH : Holds w w.heap.size P A 0) (hlc : P.len ≤ c) (hcc : c ≤ 1000000000000000) (ht : t.size ≤ 1000000000000000) :
    Calls Try.prog 16 #[.agg #[.int .i64 50, .string t, .int .i64 n, .int .i64 0, .int .i64 a, .slice A P.len c]] w fun e w' => e = .returned (.bool (statB 50 t n 0 P.inf)) ∧ Below w.heap.size w w' := by
  have hl : P.len ≤ 1000000000000000 := by omega
  obtain ⟨y, hy⟩ : ∃ y, statB 50 t n 0 P.inf = y := ⟨_, rfl⟩
  rw [hy]
  rw [show statB 50 t n 0 P.inf = (idB t && (((0 : Int) == 0) && heldB n P.inf)) from rfl] at hy
  have hallT : AllC (FunP 12 (·.ty)) P := AllC.of (fun Q => (rtype_prog Q).1) P
  have KN := Lib.hid (rnamed_any 50 t n 0 a P.len A c ht)
  unfold Flat at KN
  rw [show ((0 : Int) == 0) = true from rfl, Bool.and_true] at KN
  generalize idB t = b9 at *
  by_cases h1 : P.len = 1
  · obtain ⟨k1, t1, n1, m1, a1, Q1, ad, A1, d1, R1, rfl, hd1, hR1, hP1⟩ := part_at hH (j := 0) (by omega)
    have e0 : P.inf = [mk k1 t1 n1 m1 Q1.inf] := by
      rw [show P.inf = P.inf.drop 0 by simp]; exact drop_last hd1 hR1 (by omega)
    have hh : heldB n P.inf = ((n == 0) && (mk k1 t1 n1 m1 Q1.inf).ex) := by
      unfold heldB exprsB lenB
      rw [inf_len, h1, e0]
      by_cases hn : n = 0
      · subst hn; simp
      · simp [hn]
    rw [hh] at hy
    have h1c : 1 ≤ c := by omega
    rw [h1] at KN ⊢
    have FX1 : Hid (∀ W, Below w.heap.size w W → At6 W ad k1 t1 n1 m1 a1 Q1.len A1 d1) := Lib.hid (fun W hW => hP1.cells W hW)
    have K1 := Lib.hid (hP1.good _ _ hall)
    unfold At6 at FX1
    clear e0 h1 hl hh
    generalize (mk k1 t1 n1 m1 Q1.inf).ex = b1 at *
    clear hH hd1 hR1 hP1 hlc hall hallT
    generalize Q1.len = x1 at *
    have FB1 := fun (o : Obj) => FX1.out (w.alloc o) ((Below.refl _ _).alloc (Nat.le_refl _) o)
    have f0 := fun (o : Obj) => (FB1 o).1
    have f1 := fun (o : Obj) => (FB1 o).2.1
    have f2 := fun (o : Obj) => (FB1 o).2.2.1
    have f3 := fun (o : Obj) => (FB1 o).2.2.2.1
    have f4 := fun (o : Obj) => (FB1 o).2.2.2.2.1
    have f5 := fun (o : Obj) => (FB1 o).2.2.2.2.2
    clear FB1
    have HY := Lib.hid hy
    clear hy
    go_enter Try.func16, Try.ntmps16
    go_wp2_with (first
      | (go_at_call 41; refine (KN.out _).mono ?_; rintro e w1 ⟨rfl, hb⟩; have bx := Box.later (by first | assumption | exact Box.new _ _ _ _ _ _ _ _ _) hb; have bx2 := bx; obtain ⟨-, -, c0, c1, c2, c3, c4, c5⟩ := bx2; obtain ⟨f0, f1, f2, f3, f4, f5⟩ := FX1.out _ (Box.below (by assumption)))
      | (go_at_call 14; refine (K1.out _ (by first | exact Box.below (by assumption) | exact (Below.refl _ _).alloc (Nat.le_refl _) _)).mono ?_; rintro e w1 ⟨rfl, hb⟩; have bx := Box.later (by first | assumption | exact Box.new _ _ _ _ _ _ _ _ _) hb; have bx2 := bx; obtain ⟨-, -, c0, c1, c2, c3, c4, c5⟩ := bx2; obtain ⟨f0, f1, f2, f3, f4, f5⟩ := FX1.out _ (Box.below (by assumption))))
    all_goals
      go_ret
      refine ⟨ret_bool ?_, (by first | exact Box.below (by assumption) | exact (Below.refl _ _).alloc (Nat.le_refl _) _)⟩
      first | rfl | exact HY.out | (rw [← HY.out]; first | rfl | (simp [*]; done) | (simp [*]; omega) | (simp_all; done) | (simp_all; omega))
  by_cases h2 : P.len = 2
  · obtain ⟨k1, t1, n1, m1, a1, Q1, ad, A1, d1, R1, rfl, hd1, hR1, hP1⟩ := part_at hH (j := 0) (by omega)
    obtain ⟨k2, t2, n2, m2, a2, Q2, ad2, A2, d2, R2, had, hd2, hR2, hP2⟩ := part_at hH (j := 1) (by omega)
    cases had
    have e1 : P.inf.take 1 = [mk k1 t1 n1 m1 Q1.inf] := by
      rw [show P.inf = P.inf.drop 0 by simp, hd1]; rfl
    have e2 := drop_last hd2 hR2 (by omega)
    have hh : heldB n P.inf = ((n == 1) && ((mk k1 t1 n1 m1 Q1.inf).ty && (mk k2 t2 n2 m2 Q2.inf).ex)) := by
      unfold heldB exprsB lenB
      rw [inf_len, h2, e1, e2]
      by_cases hn : n = 0
      · subst hn; simp
      · by_cases hn1 : n = 1
        · subst hn1; simp
        · simp [hn, hn1]
    rw [hh] at hy
    have h2c : 2 ≤ c := by omega
    rw [h2] at KN ⊢
    have FX1 : Hid (∀ W, Below w.heap.size w W → At6 W ad k1 t1 n1 m1 a1 Q1.len A1 d1) := Lib.hid (fun W hW => hP1.cells W hW)
    have FX2 : Hid (∀ W, Below w.heap.size w W → At6 W ⟨ad.block, ad.off + 6, none⟩ k2 t2 n2 m2 a2 Q2.len A2 d2) := Lib.hid (fun W hW => hP2.cells W hW)
    have K1 := Lib.hid (hP1.good _ _ hallT)
    have K2 := Lib.hid (hP2.good _ _ hall)
    unfold At6 at FX1 FX2
    clear e1 e2 h1 h2 hl hh
    generalize (mk k1 t1 n1 m1 Q1.inf).ty = b1 at *
    generalize (mk k2 t2 n2 m2 Q2.inf).ex = b2 at *
    clear hH hd1 hR1 hP1 hd2 hR2 hP2 hlc hall hallT
    generalize Q1.len = x1 at *
    generalize Q2.len = x2 at *
    have FB1 := fun (o : Obj) => FX1.out (w.alloc o) ((Below.refl _ _).alloc (Nat.le_refl _) o)
    have f0 := fun (o : Obj) => (FB1 o).1
    have f1 := fun (o : Obj) => (FB1 o).2.1
    have f2 := fun (o : Obj) => (FB1 o).2.2.1
    have f3 := fun (o : Obj) => (FB1 o).2.2.2.1
    have f4 := fun (o : Obj) => (FB1 o).2.2.2.2.1
    have f5 := fun (o : Obj) => (FB1 o).2.2.2.2.2
    clear FB1
    have FB2 := fun (o : Obj) => FX2.out (w.alloc o) ((Below.refl _ _).alloc (Nat.le_refl _) o)
    have g0 := fun (o : Obj) => (FB2 o).1
    have g1 := fun (o : Obj) => (FB2 o).2.1
    have g2 := fun (o : Obj) => (FB2 o).2.2.1
    have g3 := fun (o : Obj) => (FB2 o).2.2.2.1
    have g4 := fun (o : Obj) => (FB2 o).2.2.2.2.1
    have g5 := fun (o : Obj) => (FB2 o).2.2.2.2.2
    clear FB2
    have HY := Lib.hid hy
    clear hy
    go_enter Try.func16, Try.ntmps16
    go_wp2_with (first
      | (go_at_call 41; refine (KN.out _).mono ?_; rintro e w1 ⟨rfl, hb⟩; have bx := Box.later (by first | assumption | exact Box.new _ _ _ _ _ _ _ _ _) hb; have bx2 := bx; obtain ⟨-, -, c0, c1, c2, c3, c4, c5⟩ := bx2; obtain ⟨f0, f1, f2, f3, f4, f5⟩ := FX1.out _ (Box.below (by assumption)); obtain ⟨g0, g1, g2, g3, g4, g5⟩ := FX2.out _ (Box.below (by assumption)))
      | (go_at_call 12; refine (K1.out _ (by first | exact Box.below (by assumption) | exact (Below.refl _ _).alloc (Nat.le_refl _) _)).mono ?_; rintro e w1 ⟨rfl, hb⟩; have bx := Box.later (by first | assumption | exact Box.new _ _ _ _ _ _ _ _ _) hb; have bx2 := bx; obtain ⟨-, -, c0, c1, c2, c3, c4, c5⟩ := bx2; obtain ⟨f0, f1, f2, f3, f4, f5⟩ := FX1.out _ (Box.below (by assumption)); obtain ⟨g0, g1, g2, g3, g4, g5⟩ := FX2.out _ (Box.below (by assumption)))
      | (go_at_call 14; refine (K2.out _ (by first | exact Box.below (by assumption) | exact (Below.refl _ _).alloc (Nat.le_refl _) _)).mono ?_; rintro e w1 ⟨rfl, hb⟩; have bx := Box.later (by first | assumption | exact Box.new _ _ _ _ _ _ _ _ _) hb; have bx2 := bx; obtain ⟨-, -, c0, c1, c2, c3, c4, c5⟩ := bx2; obtain ⟨f0, f1, f2, f3, f4, f5⟩ := FX1.out _ (Box.below (by assumption)); obtain ⟨g0, g1, g2, g3, g4, g5⟩ := FX2.out _ (Box.below (by assumption))))
    all_goals
      go_ret
      refine ⟨ret_bool ?_, (by first | exact Box.below (by assumption) | exact (Below.refl _ _).alloc (Nat.le_refl _) _)⟩
      first | rfl | exact HY.out | (rw [← HY.out]; first | rfl | (simp [*]; done) | (simp [*]; omega) | (simp_all; done) | (simp_all; omega))
  · have t1 : (((P.len : Nat) : Int) == 1) = false := by simp; omega
    have t2 : (((P.len : Nat) : Int) == 2) = false := by simp; omega
    have hh : heldB n P.inf = false := by
      unfold heldB exprsB lenB
      rw [inf_len, decide_eq_false h1, decide_eq_false h2]; simp
    rw [hh] at hy
    clear h1 h2 hh
    clear hH  hlc hall hallT
    generalize P.len = x at *
    have HY := Lib.hid hy
    clear hy
    go_enter Try.func16, Try.ntmps16
    go_wp2_with (first
      | (go_at_call 41; refine (KN.out _).mono ?_; rintro e w1 ⟨rfl, hb⟩; have bx := Box.later (by first | assumption | exact Box.new _ _ _ _ _ _ _ _ _) hb; have bx2 := bx; obtain ⟨-, -, c0, c1, c2, c3, c4, c5⟩ := bx2))
    all_goals
      go_ret
      refine ⟨ret_bool ?_, (by first | exact Box.below (by assumption) | exact (Below.refl _ _).alloc (Nat.le_refl _) _)⟩
      first | rfl | exact HY.out | (rw [← HY.out]; first | rfl | (simp [*]; done) | (simp [*]; omega) | (simp_all; done) | (simp_all; omega))
set_option maxRecDepth 100000 in
set_option maxHeartbeats 2000000 in
theorem rstat_51 (P : Fo) (hall : AllC (FunP 14 (·.ex)) P) (t : ByteArray) (n a : Int) (A : Option Addr) (c : Nat) (w : World) (hH : Holds w w.heap.size P A 0) (hlc : P.len ≤ c) (hcc : c ≤ 1000000000000000) (ht : t.size ≤ 1000000000000000) :
    Calls Try.prog 16 #[.agg #[.int .i64 51, .string t, .int .i64 n, .int .i64 0, .int .i64 a, .slice A P.len c]] w fun e w' => e = .returned (.bool (statB 51 t n 0 P.inf)) ∧ Below w.heap.size w w' := by
  have hl : P.len ≤ 1000000000000000 := by omega
  obtain ⟨y, hy⟩ : ∃ y, statB 51 t n 0 P.inf = y := ⟨_, rfl⟩
  rw [hy]
  rw [show statB 51 t n 0 P.inf = (idB t && (((0 : Int) == 0) && heldB n P.inf)) from rfl] at hy
  have hallT : AllC (FunP 12 (·.ty)) P := AllC.of (fun Q => (rtype_prog Q).1) P
  have KN := Lib.hid (rnamed_any 51 t n 0 a P.len A c ht)
  unfold Flat at KN
  rw [show ((0 : Int) == 0) = true from rfl, Bool.and_true] at KN
  generalize idB t = b9 at *
  by_cases h1 : P.len = 1
  · obtain ⟨k1, t1, n1, m1, a1, Q1, ad, A1, d1, R1, rfl, hd1, hR1, hP1⟩ := part_at hH (j := 0) (by omega)
    have e0 : P.inf = [mk k1 t1 n1 m1 Q1.inf] := by
      rw [show P.inf = P.inf.drop 0 by simp]; exact drop_last hd1 hR1 (by omega)
    have hh : heldB n P.inf = ((n == 0) && (mk k1 t1 n1 m1 Q1.inf).ex) := by
      unfold heldB exprsB lenB
      rw [inf_len, h1, e0]
      by_cases hn : n = 0
      · subst hn; simp
      · simp [hn]
    rw [hh] at hy
    have h1c : 1 ≤ c := by omega
    rw [h1] at KN ⊢
    have FX1 : Hid (∀ W, Below w.heap.size w W → At6 W ad k1 t1 n1 m1 a1 Q1.len A1 d1) := Lib.hid (fun W hW => hP1.cells W hW)
    have K1 := Lib.hid (hP1.good _ _ hall)
    unfold At6 at FX1
    clear e0 h1 hl hh
    generalize (mk k1 t1 n1 m1 Q1.inf).ex = b1 at *
    clear hH hd1 hR1 hP1 hlc hall hallT
    generalize Q1.len = x1 at *
    have FB1 := fun (o : Obj) => FX1.out (w.alloc o) ((Below.refl _ _).alloc (Nat.le_refl _) o)
    have f0 := fun (o : Obj) => (FB1 o).1
    have f1 := fun (o : Obj) => (FB1 o).2.1
    have f2 := fun (o : Obj) => (FB1 o).2.2.1
    have f3 := fun (o : Obj) => (FB1 o).2.2.2.1
    have f4 := fun (o : Obj) => (FB1 o).2.2.2.2.1
    have f5 := fun (o : Obj) => (FB1 o).2.2.2.2.2
    clear FB1
    have HY := Lib.hid hy
    clear hy
    go_enter Try.func16, Try.ntmps16
    go_wp2_with (first
      | (go_at_call 41; refine (KN.out _).mono ?_; rintro e w1 ⟨rfl, hb⟩; have bx := Box.later (by first | assumption | exact Box.new _ _ _ _ _ _ _ _ _) hb; have bx2 := bx; obtain ⟨-, -, c0, c1, c2, c3, c4, c5⟩ := bx2; obtain ⟨f0, f1, f2, f3, f4, f5⟩ := FX1.out _ (Box.below (by assumption)))
      | (go_at_call 14; refine (K1.out _ (by first | exact Box.below (by assumption) | exact (Below.refl _ _).alloc (Nat.le_refl _) _)).mono ?_; rintro e w1 ⟨rfl, hb⟩; have bx := Box.later (by first | assumption | exact Box.new _ _ _ _ _ _ _ _ _) hb; have bx2 := bx; obtain ⟨-, -, c0, c1, c2, c3, c4, c5⟩ := bx2; obtain ⟨f0, f1, f2, f3, f4, f5⟩ := FX1.out _ (Box.below (by assumption))))
    all_goals
      go_ret
      refine ⟨ret_bool ?_, (by first | exact Box.below (by assumption) | exact (Below.refl _ _).alloc (Nat.le_refl _) _)⟩
      first | rfl | exact HY.out | (rw [← HY.out]; first | rfl | (simp [*]; done) | (simp [*]; omega) | (simp_all; done) | (simp_all; omega))
  by_cases h2 : P.len = 2
  · obtain ⟨k1, t1, n1, m1, a1, Q1, ad, A1, d1, R1, rfl, hd1, hR1, hP1⟩ := part_at hH (j := 0) (by omega)
    obtain ⟨k2, t2, n2, m2, a2, Q2, ad2, A2, d2, R2, had, hd2, hR2, hP2⟩ := part_at hH (j := 1) (by omega)
    cases had
    have e1 : P.inf.take 1 = [mk k1 t1 n1 m1 Q1.inf] := by
      rw [show P.inf = P.inf.drop 0 by simp, hd1]; rfl
    have e2 := drop_last hd2 hR2 (by omega)
    have hh : heldB n P.inf = ((n == 1) && ((mk k1 t1 n1 m1 Q1.inf).ty && (mk k2 t2 n2 m2 Q2.inf).ex)) := by
      unfold heldB exprsB lenB
      rw [inf_len, h2, e1, e2]
      by_cases hn : n = 0
      · subst hn; simp
      · by_cases hn1 : n = 1
        · subst hn1; simp
        · simp [hn, hn1]
    rw [hh] at hy
    have h2c : 2 ≤ c := by omega
    rw [h2] at KN ⊢
    have FX1 : Hid (∀ W, Below w.heap.size w W → At6 W ad k1 t1 n1 m1 a1 Q1.len A1 d1) := Lib.hid (fun W hW => hP1.cells W hW)
    have FX2 : Hid (∀ W, Below w.heap.size w W → At6 W ⟨ad.block, ad.off + 6, none⟩ k2 t2 n2 m2 a2 Q2.len A2 d2) := Lib.hid (fun W hW => hP2.cells W hW)
    have K1 := Lib.hid (hP1.good _ _ hallT)
    have K2 := Lib.hid (hP2.good _ _ hall)
    unfold At6 at FX1 FX2
    clear e1 e2 h1 h2 hl hh
    generalize (mk k1 t1 n1 m1 Q1.inf).ty = b1 at *
    generalize (mk k2 t2 n2 m2 Q2.inf).ex = b2 at *
    clear hH hd1 hR1 hP1 hd2 hR2 hP2 hlc hall hallT
    generalize Q1.len = x1 at *
    generalize Q2.len = x2 at *
    have FB1 := fun (o : Obj) => FX1.out (w.alloc o) ((Below.refl _ _).alloc (Nat.le_refl _) o)
    have f0 := fun (o : Obj) => (FB1 o).1
    have f1 := fun (o : Obj) => (FB1 o).2.1
    have f2 := fun (o : Obj) => (FB1 o).2.2.1
    have f3 := fun (o : Obj) => (FB1 o).2.2.2.1
    have f4 := fun (o : Obj) => (FB1 o).2.2.2.2.1
    have f5 := fun (o : Obj) => (FB1 o).2.2.2.2.2
    clear FB1
    have FB2 := fun (o : Obj) => FX2.out (w.alloc o) ((Below.refl _ _).alloc (Nat.le_refl _) o)
    have g0 := fun (o : Obj) => (FB2 o).1
    have g1 := fun (o : Obj) => (FB2 o).2.1
    have g2 := fun (o : Obj) => (FB2 o).2.2.1
    have g3 := fun (o : Obj) => (FB2 o).2.2.2.1
    have g4 := fun (o : Obj) => (FB2 o).2.2.2.2.1
    have g5 := fun (o : Obj) => (FB2 o).2.2.2.2.2
    clear FB2
    have HY := Lib.hid hy
    clear hy
    go_enter Try.func16, Try.ntmps16
    go_wp2_with (first
      | (go_at_call 41; refine (KN.out _).mono ?_; rintro e w1 ⟨rfl, hb⟩; have bx := Box.later (by first | assumption | exact Box.new _ _ _ _ _ _ _ _ _) hb; have bx2 := bx; obtain ⟨-, -, c0, c1, c2, c3, c4, c5⟩ := bx2; obtain ⟨f0, f1, f2, f3, f4, f5⟩ := FX1.out _ (Box.below (by assumption)); obtain ⟨g0, g1, g2, g3, g4, g5⟩ := FX2.out _ (Box.below (by assumption)))
      | (go_at_call 12; refine (K1.out _ (by first | exact Box.below (by assumption) | exact (Below.refl _ _).alloc (Nat.le_refl _) _)).mono ?_; rintro e w1 ⟨rfl, hb⟩; have bx := Box.later (by first | assumption | exact Box.new _ _ _ _ _ _ _ _ _) hb; have bx2 := bx; obtain ⟨-, -, c0, c1, c2, c3, c4, c5⟩ := bx2; obtain ⟨f0, f1, f2, f3, f4, f5⟩ := FX1.out _ (Box.below (by assumption)); obtain ⟨g0, g1, g2, g3, g4, g5⟩ := FX2.out _ (Box.below (by assumption)))
      | (go_at_call 14; refine (K2.out _ (by first | exact Box.below (by assumption) | exact (Below.refl _ _).alloc (Nat.le_refl _) _)).mono ?_; rintro e w1 ⟨rfl, hb⟩; have bx := Box.later (by first | assumption | exact Box.new _ _ _ _ _ _ _ _ _) hb; have bx2 := bx; obtain ⟨-, -, c0, c1, c2, c3, c4, c5⟩ := bx2; obtain ⟨f0, f1, f2, f3, f4, f5⟩ := FX1.out _ (Box.below (by assumption)); obtain ⟨g0, g1, g2, g3, g4, g5⟩ := FX2.out _ (Box.below (by assumption))))
    all_goals
      go_ret
      refine ⟨ret_bool ?_, (by first | exact Box.below (by assumption) | exact (Below.refl _ _).alloc (Nat.le_refl _) _)⟩
      first | rfl | exact HY.out | (rw [← HY.out]; first | rfl | (simp [*]; done) | (simp [*]; omega) | (simp_all; done) | (simp_all; omega))
  · have t1 : (((P.len : Nat) : Int) == 1) = false := by simp; omega
    have t2 : (((P.len : Nat) : Int) == 2) = false := by simp; omega
    have hh : heldB n P.inf = false := by
      unfold heldB exprsB lenB
      rw [inf_len, decide_eq_false h1, decide_eq_false h2]; simp
    rw [hh] at hy
    clear h1 h2 hh
    clear hH  hlc hall hallT
    generalize P.len = x at *
    have HY := Lib.hid hy
    clear hy
    go_enter Try.func16, Try.ntmps16
    go_wp2_with (first
      | (go_at_call 41; refine (KN.out _).mono ?_; rintro e w1 ⟨rfl, hb⟩; have bx := Box.later (by first | assumption | exact Box.new _ _ _ _ _ _ _ _ _) hb; have bx2 := bx; obtain ⟨-, -, c0, c1, c2, c3, c4, c5⟩ := bx2))
    all_goals
      go_ret
      refine ⟨ret_bool ?_, (by first | exact Box.below (by assumption) | exact (Below.refl _ _).alloc (Nat.le_refl _) _)⟩
      first | rfl | exact HY.out | (rw [← HY.out]; first | rfl | (simp [*]; done) | (simp [*]; omega) | (simp_all; done) | (simp_all; omega))
theorem statB_m (k : Int) (t : ByteArray) (n m : Int) (l : List Inf) (h : m ≠ 0) : statB k t n m l = false := by
  have h2 : (m == 0) = false := beq_eq_false_iff_ne.2 h
  unfold statB blkB bareB plainB
  rw [h2]
  simp
set_option maxRecDepth 100000 in
set_option maxHeartbeats 2000000 in
theorem rstat_m (k : Int) (t : ByteArray) (n m a : Int) (l : Nat) (A : Option Addr) (c : Nat) (w : World) (h : m ≠ 0) :
    Calls Try.prog 16 #[.agg #[.int .i64 k, .string t, .int .i64 n, .int .i64 m, .int .i64 a, .slice A l c]] w fun e w' => e = .returned (.bool false) ∧ Below w.heap.size w w' := by
  have tm : (m != 0) = true := by simpa using h
  clear h
  go_enter Try.func16, Try.ntmps16
  go_wp2_with fail
  go_ret
  exact ⟨rfl, (Below.refl _ _).alloc (Nat.le_refl _) _⟩
set_option maxRecDepth 100000 in
set_option maxHeartbeats 2000000 in
theorem rstat_else (k : Int) (t : ByteArray) (n a : Int) (l : Nat) (A : Option Addr) (c : Nat) (w : World) (h : k ≠ 50 ∧ k ≠ 51 ∧ k ≠ 52 ∧ k ≠ 53 ∧ k ≠ 54 ∧ k ≠ 55 ∧ k ≠ 56 ∧ k ≠ 57 ∧ k ≠ 58 ∧ k ≠ 59) :
    Calls Try.prog 16 #[.agg #[.int .i64 k, .string t, .int .i64 n, .int .i64 0, .int .i64 a, .slice A l c]] w fun e w' => e = .returned (.bool false) ∧ Below w.heap.size w w' := by
  obtain ⟨h50, h51, h52, h53, h54, h55, h56, h57, h58, h59⟩ := h
  have t50 : (k == 50) = false := beq_eq_false_iff_ne.2 h50
  have t51 : (k == 51) = false := beq_eq_false_iff_ne.2 h51
  have t52 : (k == 52) = false := beq_eq_false_iff_ne.2 h52
  have t53 : (k == 53) = false := beq_eq_false_iff_ne.2 h53
  have t54 : (k == 54) = false := beq_eq_false_iff_ne.2 h54
  have t55 : (k == 55) = false := beq_eq_false_iff_ne.2 h55
  have t56 : (k == 56) = false := beq_eq_false_iff_ne.2 h56
  have t57 : (k == 57) = false := beq_eq_false_iff_ne.2 h57
  have t58 : (k == 58) = false := beq_eq_false_iff_ne.2 h58
  have t59 : (k == 59) = false := beq_eq_false_iff_ne.2 h59
  clear h50 h51 h52 h53 h54 h55 h56 h57 h58 h59
  go_enter Try.func16, Try.ntmps16
  go_wp2_with fail
  all_goals
    go_ret
    refine ⟨ret_bool ?_, (by first | exact Box.below (by assumption) | exact (Below.refl _ _).alloc (Nat.le_refl _) _)⟩
    rfl
theorem rstat_step (P : Fo) (hall : AllC (FunP 14 (·.ex)) P) (halls : AllC (FunP 16 (·.st)) P) (hallb : AllC (FunP 58 (·.blk)) P) : FunP 16 (·.st) P := by
  intro k t n m a A c w hH hlc hcc ht
  show Calls _ _ _ _ fun e w' => e = .returned (.bool (statB k t n m P.inf)) ∧ _
  simp only [val6, cells6]
  by_cases hm : m = 0
  case neg => rw [statB_m k t n m _ hm]; exact rstat_m k t n m a _ A c w hm
  subst hm
  by_cases h : k ≠ 50 ∧ k ≠ 51 ∧ k ≠ 52 ∧ k ≠ 53 ∧ k ≠ 54 ∧ k ≠ 55 ∧ k ≠ 56 ∧ k ≠ 57 ∧ k ≠ 58 ∧ k ≠ 59
  · rw [statB_else k t n 0 _ h]; exact rstat_else k t n a _ A c w h
  · have h' : k = 50 ∨ k = 51 ∨ k = 52 ∨ k = 53 ∨ k = 54 ∨ k = 55 ∨ k = 56 ∨ k = 57 ∨ k = 58 ∨ k = 59 := by omega
    clear h
    rcases h' with rfl | rfl | rfl | rfl | rfl | rfl | rfl | rfl | rfl | rfl
    · exact rstat_50 P hall t n a A c w hH hlc hcc ht
    · exact rstat_51 P hall t n a A c w hH hlc hcc ht
    · exact rstat_52 P hall t n a A c w hH hlc hcc
    · exact rstat_53 P hall t n a A c w hH hlc hcc
    · exact rstat_54 P hall hallb t n a A c w hH hlc hcc
    · exact rstat_55 P hall hallb t n a A c w hH hlc hcc
    · exact rstat_56 P hall t n a A c w hH hlc hcc
    · exact rstat_57 P hall t n a A c w hH hlc hcc
    · exact rstat_58 P hallb t n a A c w hH hlc hcc ht
    · exact rstat_59 P halls t n a A c w hH hlc hcc ht
/-- What the reference tells of expressions and statements. -/
def RExprAll (P : Fo) : Prop := FunP 14 (·.ex) P ∧ FunP 58 (·.blk) P ∧ FunP 16 (·.st) P ∧ AllC (FunP 14 (·.ex)) P
theorem rexpr_prog (P : Fo) : RExprAll P := fo_ind (fun P h => by
  have hall : AllC (FunP 14 (·.ex)) P := h.imp fun _ x => x.1
  have hallb : AllC (FunP 58 (·.blk)) P := h.imp fun _ x => x.2.1
  have halls : AllC (FunP 16 (·.st)) P := h.imp fun _ x => x.2.2.1
  have hallx : AllC (fun Q => AllC (FunP 14 (·.ex)) Q) P := h.imp fun _ x => x.2.2.2
  exact ⟨rexpr_step P hall hallx hallb, rblock_any P halls, rstat_step P hall halls hallb, hall⟩) P
end Go.Proofs.Ytogoolpgajopcaa
