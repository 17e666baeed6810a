import Derived.Test.YtogoolpgajopcaaTrFg
namespace Go.Proofs.Ytogoolpgajopcaa
open Go.RowKit
set_option maxRecDepth 100000 in
set_option maxHeartbeats 2000000 in
theorem held_any (P : Fo) (hall : AllC (FunP 13 (·.ex)) P) (k : Int) (t : ByteArray) (n m a : Int) (A : Option Addr) (c : Nat) (w : World) (hH : Holds w w.heap.size P A 0) (hlc : P.len ≤ c) (hcc : c ≤ 1000000000000000) :
    Calls Try.prog 54 #[.agg #[.int .i64 k, .string t, .int .i64 n, .int .i64 m, .int .i64 a, .slice A P.len c]] w fun e w' => e = .returned (.bool (heldB n P.inf)) ∧ Below w.heap.size w w' := by
  have hl : P.len ≤ 1000000000000000 := by omega
  have hallT : AllC (FunP 11 (·.ty)) P := AllC.of (fun Q => (type_prog Q).1) P
  obtain ⟨y, hy⟩ : ∃ y, heldB n P.inf = y := ⟨_, rfl⟩
  rw [hy]
  by_cases hn : n = 0
  · subst hn
    rw [show heldB 0 P.inf = exprsB P.inf 1 from rfl] at hy
    have KX1 := Lib.hid (fun W (hW : Below w.heap.size w W) => exprs_any P hall 1 1 (by rfl) k t 0 m a A c W ((hH.below hW).more hW.size) hl)
    generalize exprsB P.inf 1 = b8 at *
    clear hallT
    clear hlc hall hH
    generalize P.len = x at *
    have HY := Lib.hid hy
    clear hy
    go_enter Try.func54, Try.ntmps54
    go_wp2_with (first
      | (go_at_call 46; refine (KX1.out _ (by first | exact Box.below (by assumption) | exact (Below.refl _ _).alloc (Nat.le_refl _) _)).mono ?_; rintro e w1 ⟨rfl, hb⟩; have bx := Box.later (by first | assumption | exact Box.new _ _ _ _ _ _ _ _ _) hb; have bx2 := bx; obtain ⟨-, -, c0, c1, c2, c3, c4, c5⟩ := bx2))
    all_goals
      go_ret
      refine ⟨ret_bool ?_, (by first | exact Box.below (by assumption) | exact (Below.refl _ _).alloc (Nat.le_refl _) _)⟩
      first | exact HY.out | (rw [← HY.out]; first | rfl | exact beq0 _ | (simp [*]; done) | (simp [*, beq0]; done) | (simp [*]; omega) | (simp_all; done))
  have tn : (n == 0) = false := beq_eq_false_iff_ne.2 hn
  by_cases hn1 : n = 1
  case neg =>
    have tn1 : (n == 1) = false := beq_eq_false_iff_ne.2 hn1
    have HY : Hid (false = y) := Lib.hid (by rw [← hy]; simp [heldB, hn, hn1])
    clear hy hH hall hallT hlc hn hn1
    generalize P.len = x at *
    go_enter Try.func54, Try.ntmps54
    go_wp2_with fail
    all_goals
      go_ret
      refine ⟨ret_bool ?_, (by first | exact Box.below (by assumption) | exact (Below.refl _ _).alloc (Nat.le_refl _) _)⟩
      exact HY.out
  subst hn1
  rw [show heldB 1 P.inf = (lenB P.inf 2 && ((P.inf.take 1).all (·.ty) && (P.inf.drop 1).all (·.ex))) from rfl] at hy
  unfold lenB at hy
  rw [inf_len] at hy
  clear tn hn
  by_cases h2 : P.len = 2
  case neg =>
    have t2 : (((P.len : Nat) : Int) == 2) = false := by simp; omega
    have HY : Hid (false = y) := Lib.hid (by rw [← hy, decide_eq_false h2]; simp)
    clear hy hH hall hallT hlc h2
    generalize P.len = x at *
    go_enter Try.func54, Try.ntmps54
    go_wp2_with fail
    all_goals
      go_ret
      refine ⟨ret_bool ?_, (by first | exact Box.below (by assumption) | exact (Below.refl _ _).alloc (Nat.le_refl _) _)⟩
      exact HY.out
  obtain ⟨k1, t1, n1, m1, a1, Q1, ad, A1, d1, R1, rfl, hd1, hR1, hP1⟩ := part_at hH (j := 0) (by omega)
  obtain ⟨k2, t2, n2, m2, a2, Q2, ad2, A2, d2, R2, had, hd2, hR2, hP2⟩ := part_at hH (j := 1) (by omega)
  cases had
  have e2 := drop_last hd2 hR2 (by omega)
  have e1 : P.inf.take 1 = [mk k1 t1 n1 m1 Q1.inf] := by
    rw [show P.inf = P.inf.drop 0 by simp, hd1]; rfl
  rw [e1, e2, decide_eq_true h2] at hy
  simp only [List.all_cons, List.all_nil, Bool.and_true, Bool.true_and] at hy
  have K1 := Lib.hid (hP1.good _ _ hallT)
  have K2 := Lib.hid (hP2.good _ _ hall)
  have FX1 : Hid (∀ W, Below w.heap.size w W → At6 W ad k1 t1 n1 m1 a1 Q1.len A1 d1) := Lib.hid (fun W hW => hP1.cells W hW)
  have FX2 : Hid (∀ W, Below w.heap.size w W → At6 W ⟨ad.block, ad.off + 6, none⟩ k2 t2 n2 m2 a2 Q2.len A2 d2) := Lib.hid (fun W hW => hP2.cells W hW)
  have h2c : 2 ≤ c := by omega
  rw [h2]
  unfold At6 at FX1 FX2
  clear e1 e2 hd1 hR1 hP1 hd2 hR2 hP2 hlc h2 hl hH hall hallT
  generalize (mk k1 t1 n1 m1 Q1.inf).ty = b5 at *
  generalize (mk k2 t2 n2 m2 Q2.inf).ex = b6 at *
  generalize Q1.len = x1 at *
  generalize Q2.len = x2 at *
  have HY := Lib.hid hy
  clear hy
  have BX := Box.new w k t 1 m a 2 (some ad) c
  obtain ⟨f0, f1, f2, f3, f4, f5⟩ := FX1.out _ BX.below
  go_enter Try.func54, Try.ntmps54
  go_wp2_with (first
    | (go_at_call 11; refine (K1.out _ (by first | exact Box.below (by assumption) | exact (Below.refl _ _).alloc (Nat.le_refl _) _)).mono ?_; rintro e w1 ⟨rfl, hb⟩; have bx := Box.later (by first | assumption | exact Box.new _ _ _ _ _ _ _ _ _) hb; have bx2 := bx; obtain ⟨-, -, c0, c1, c2, c3, c4, c5⟩ := bx2; obtain ⟨g0, g1, g2, g3, g4, g5⟩ := FX2.out _ (Box.below (by assumption)))
    | (go_at_call 13; refine (K2.out _ (by first | exact Box.below (by assumption) | exact (Below.refl _ _).alloc (Nat.le_refl _) _)).mono ?_; rintro e w1 ⟨rfl, hb⟩; have bx := Box.later (by first | assumption | exact Box.new _ _ _ _ _ _ _ _ _) hb; have bx2 := bx; obtain ⟨-, -, c0, c1, c2, c3, c4, c5⟩ := bx2))
  all_goals
    go_ret
    refine ⟨ret_bool ?_, (by first | exact Box.below (by assumption) | exact (Below.refl _ _).alloc (Nat.le_refl _) _)⟩
    rw [← HY.out]; first | rfl | exact beq0 _ | (simp [*]; done) | (simp [*, beq0]; done) | (simp [*]; omega) | (simp_all; done)
set_option maxRecDepth 100000 in
set_option maxHeartbeats 2000000 in
theorem branches_0 (P : Fo) (hall : AllC (FunP 13 (·.ex)) P) (hallb : AllC (FunP 57 (·.blk)) P) (k : Int) (t : ByteArray) (m a : Int) (A : Option Addr) (c : Nat) (w : World) (hH : Holds w w.heap.size P A 0) (hlc : P.len ≤ c) (hcc : c ≤ 1000000000000000) (hL : P.len = 2) :
    Calls Try.prog 56 #[.agg #[.int .i64 k, .string t, .int .i64 0, .int .i64 m, .int .i64 a, .slice A P.len c]] w fun e w' => e = .returned (.bool ((P.inf.take 1).all (·.ex) && (P.inf.drop 1).all (·.blk))) ∧ Below w.heap.size w w' := by
  obtain ⟨y, hy⟩ : ∃ y, ((P.inf.take 1).all (·.ex) && (P.inf.drop 1).all (·.blk)) = y := ⟨_, rfl⟩
  rw [hy]
  obtain ⟨k1, t1, n1, m1, a1, Q1, ad, A1, d1, R1, rfl, hd1, hR1, hP1⟩ := part_at hH (j := 0) (by omega)
  have e1 : P.inf.take 1 = [mk k1 t1 n1 m1 Q1.inf] := by
    rw [show P.inf = P.inf.drop 0 by simp, hd1]; rfl
  rw [e1] at hy
  simp only [List.all_cons, List.all_nil, Bool.and_true] at hy
  have K1 := Lib.hid (hP1.good _ _ hall)
  have FX1 : Hid (∀ W, Below w.heap.size w W → At6 W ad k1 t1 n1 m1 a1 Q1.len A1 d1) := Lib.hid (fun W hW => hP1.cells W hW)
  have hS : Holds w w.heap.size (P.drop 1) (some ⟨ad.block, ad.off + 6, none⟩) 0 := (hH.drop 1).shift (i := 1) (r := 0)
  have hdl : (P.drop 1).len = 1 := by rw [drop_len]; omega
  have KA : Hid (∀ (c' : Nat) (W : World), Below w.heap.size w W → Calls Try.prog 34 #[.slice (some ⟨ad.block, ad.off + 6, none⟩) 1 c', .func (.func 57) #[] #[]] W fun e w' => e = .returned (.bool ((P.inf.drop 1).all (·.blk))) ∧ Below W.heap.size W w') := Lib.hid (fun c' W hW => by
    have h := all_isBlock (·.blk) (P.drop 1) (hallb.drop 1) (some ⟨ad.block, ad.off + 6, none⟩) c' W ((hS.below hW).more hW.size) (by rw [hdl]; omega)
    rw [hdl, drop_inf] at h
    exact h)
  have BX := Box.new w k t 0 m a 2 (some ad) c
  obtain ⟨f0, f1, f2, f3, f4, f5⟩ := FX1.out _ BX.below
  have h2c : 2 ≤ c := by omega
  rw [hL]
  clear BX e1 hd1 hR1 hP1 hS hdl hH hall hallb hlc hL
  unfold At6 at FX1
  generalize (mk k1 t1 n1 m1 Q1.inf).ex = b5 at *
  generalize (P.inf.drop 1).all (·.blk) = b6 at *
  generalize Q1.len = x1 at *
  have HY := Lib.hid hy
  clear hy
  go_enter Try.func56, Try.ntmps56
  go_wp2_with (first
    | (go_at_call 13; refine (K1.out _ (by first | exact Box.below (by assumption) | exact (Below.refl _ _).alloc (Nat.le_refl _) _)).mono ?_; rintro e w1 ⟨rfl, hb⟩; have bx := Box.later (by first | assumption | exact Box.new _ _ _ _ _ _ _ _ _) hb; have bx2 := bx; obtain ⟨-, -, c0, c1, c2, c3, c4, c5⟩ := bx2)
    | (go_at_call 34; refine (KA.out _ _ (by first | exact Box.below (by assumption) | exact (Below.refl _ _).alloc (Nat.le_refl _) _)).mono ?_; rintro e w1 ⟨rfl, hb⟩; have bx := Box.later (by first | assumption | exact Box.new _ _ _ _ _ _ _ _ _) hb; have bx2 := bx; obtain ⟨-, -, c0, c1, c2, c3, c4, c5⟩ := bx2))
  all_goals
    go_ret
    refine ⟨ret_bool ?_, (by first | exact Box.below (by assumption) | exact (Below.refl _ _).alloc (Nat.le_refl _) _)⟩
    rw [← HY.out]; first | rfl | exact beq0 _ | (simp [*]; done) | (simp [*, beq0]; done) | (simp [*]; omega) | (simp_all; done)
set_option maxRecDepth 100000 in
set_option maxHeartbeats 2000000 in
theorem branches_1 (P : Fo) (hall : AllC (FunP 13 (·.ex)) P) (hallb : AllC (FunP 57 (·.blk)) P) (k : Int) (t : ByteArray) (m a : Int) (A : Option Addr) (c : Nat) (w : World) (hH : Holds w w.heap.size P A 0) (hlc : P.len ≤ c) (hcc : c ≤ 1000000000000000) (hL : P.len = 3) :
    Calls Try.prog 56 #[.agg #[.int .i64 k, .string t, .int .i64 1, .int .i64 m, .int .i64 a, .slice A P.len c]] w fun e w' => e = .returned (.bool ((P.inf.take 1).all (·.ex) && (P.inf.drop 1).all (·.blk))) ∧ Below w.heap.size w w' := by
  obtain ⟨y, hy⟩ : ∃ y, ((P.inf.take 1).all (·.ex) && (P.inf.drop 1).all (·.blk)) = y := ⟨_, rfl⟩
  rw [hy]
  obtain ⟨k1, t1, n1, m1, a1, Q1, ad, A1, d1, R1, rfl, hd1, hR1, hP1⟩ := part_at hH (j := 0) (by omega)
  have e1 : P.inf.take 1 = [mk k1 t1 n1 m1 Q1.inf] := by
    rw [show P.inf = P.inf.drop 0 by simp, hd1]; rfl
  rw [e1] at hy
  simp only [List.all_cons, List.all_nil, Bool.and_true] at hy
  have K1 := Lib.hid (hP1.good _ _ hall)
  have FX1 : Hid (∀ W, Below w.heap.size w W → At6 W ad k1 t1 n1 m1 a1 Q1.len A1 d1) := Lib.hid (fun W hW => hP1.cells W hW)
  have hS : Holds w w.heap.size (P.drop 1) (some ⟨ad.block, ad.off + 6, none⟩) 0 := (hH.drop 1).shift (i := 1) (r := 0)
  have hdl : (P.drop 1).len = 2 := by rw [drop_len]; omega
  have KA : Hid (∀ (c' : Nat) (W : World), Below w.heap.size w W → Calls Try.prog 34 #[.slice (some ⟨ad.block, ad.off + 6, none⟩) 2 c', .func (.func 57) #[] #[]] W fun e w' => e = .returned (.bool ((P.inf.drop 1).all (·.blk))) ∧ Below W.heap.size W w') := Lib.hid (fun c' W hW => by
    have h := all_isBlock (·.blk) (P.drop 1) (hallb.drop 1) (some ⟨ad.block, ad.off + 6, none⟩) c' W ((hS.below hW).more hW.size) (by rw [hdl]; omega)
    rw [hdl, drop_inf] at h
    exact h)
  have BX := Box.new w k t 1 m a 3 (some ad) c
  obtain ⟨f0, f1, f2, f3, f4, f5⟩ := FX1.out _ BX.below
  have h2c : 3 ≤ c := by omega
  rw [hL]
  clear BX e1 hd1 hR1 hP1 hS hdl hH hall hallb hlc hL
  unfold At6 at FX1
  generalize (mk k1 t1 n1 m1 Q1.inf).ex = b5 at *
  generalize (P.inf.drop 1).all (·.blk) = b6 at *
  generalize Q1.len = x1 at *
  have HY := Lib.hid hy
  clear hy
  go_enter Try.func56, Try.ntmps56
  go_wp2_with (first
    | (go_at_call 13; refine (K1.out _ (by first | exact Box.below (by assumption) | exact (Below.refl _ _).alloc (Nat.le_refl _) _)).mono ?_; rintro e w1 ⟨rfl, hb⟩; have bx := Box.later (by first | assumption | exact Box.new _ _ _ _ _ _ _ _ _) hb; have bx2 := bx; obtain ⟨-, -, c0, c1, c2, c3, c4, c5⟩ := bx2)
    | (go_at_call 34; refine (KA.out _ _ (by first | exact Box.below (by assumption) | exact (Below.refl _ _).alloc (Nat.le_refl _) _)).mono ?_; rintro e w1 ⟨rfl, hb⟩; have bx := Box.later (by first | assumption | exact Box.new _ _ _ _ _ _ _ _ _) hb; have bx2 := bx; obtain ⟨-, -, c0, c1, c2, c3, c4, c5⟩ := bx2))
  all_goals
    go_ret
    refine ⟨ret_bool ?_, (by first | exact Box.below (by assumption) | exact (Below.refl _ _).alloc (Nat.le_refl _) _)⟩
    rw [← HY.out]; first | rfl | exact beq0 _ | (simp [*]; done) | (simp [*, beq0]; done) | (simp [*]; omega) | (simp_all; done)
set_option maxRecDepth 100000 in
set_option maxHeartbeats 2000000 in
theorem branches_any (P : Fo) (hall : AllC (FunP 13 (·.ex)) P) (hallb : AllC (FunP 57 (·.blk)) P) (k : Int) (t : ByteArray) (n m a : Int) (A : Option Addr) (c : Nat) (w : World) (hH : Holds w w.heap.size P A 0) (hlc : P.len ≤ c) (hcc : c ≤ 1000000000000000) :
    Calls Try.prog 56 #[.agg #[.int .i64 k, .string t, .int .i64 n, .int .i64 m, .int .i64 a, .slice A P.len c]] w fun e w' => e = .returned (.bool (branB n P.inf)) ∧ Below w.heap.size w w' := by
  by_cases hg : (n = 0 ∨ n = 1) ∧ (P.len : Int) = 2 + n
  · have e : branB n P.inf = ((P.inf.take 1).all (·.ex) && (P.inf.drop 1).all (·.blk)) := by
      unfold branB
      rw [inf_len, decide_eq_true hg.1, decide_eq_true hg.2]; rfl
    rw [e]
    rcases hg.1 with rfl | rfl
    · exact branches_0 P hall hallb k t m a A c w hH hlc hcc (by omega)
    · exact branches_1 P hall hallb k t m a A c w hH hlc hcc (by omega)
  · have e : branB n P.inf = false := by
      unfold branB
      rw [inf_len]
      by_cases h1 : n = 0 ∨ n = 1
      · rw [decide_eq_false (p := (P.len : Int) = 2 + n) (fun h => hg ⟨h1, h⟩)]; simp
      · rw [decide_eq_false h1]; rfl
    rw [e]
    have hl : P.len ≤ 1000000000000000 := by omega
    clear hH hall hallb e hlc
    generalize P.len = x at *
    by_cases h0 : n = 0
    · subst h0
      have t2 : (((x : Nat) : Int) != 2) = true := by rw [bne_iff_ne]; omega
      clear hg
      go_enter Try.func56, Try.ntmps56
      go_wp2_with fail
      all_goals
        go_ret
        refine ⟨ret_bool ?_, (by first | exact Box.below (by assumption) | exact (Below.refl _ _).alloc (Nat.le_refl _) _)⟩
        rfl
    by_cases h1 : n = 1
    · subst h1
      have t2 : (((x : Nat) : Int) != 3) = true := by rw [bne_iff_ne]; omega
      clear hg
      go_enter Try.func56, Try.ntmps56
      go_wp2_with fail
      all_goals
        go_ret
        refine ⟨ret_bool ?_, (by first | exact Box.below (by assumption) | exact (Below.refl _ _).alloc (Nat.le_refl _) _)⟩
        rfl
    have t0 : (n != 0) = true := by simpa using h0
    have t1 : (n != 1) = true := by simpa using h1
    clear hg h0 h1
    go_enter Try.func56, Try.ntmps56
    go_wp2_with fail
    all_goals
      go_ret
      refine ⟨ret_bool ?_, (by first | exact Box.below (by assumption) | exact (Below.refl _ _).alloc (Nat.le_refl _) _)⟩
      rfl
end Go.Proofs.Ytogoolpgajopcaa
