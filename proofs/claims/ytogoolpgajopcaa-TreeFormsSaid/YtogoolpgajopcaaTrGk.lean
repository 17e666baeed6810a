import Derived.Test.YtogoolpgajopcaaTrGj
namespace Go.Proofs.Ytogoolpgajopcaa
open Go.RowKit
set_option maxRecDepth 100000 in
set_option maxHeartbeats 4000000 in
theorem rdecl_72 (P : Fo) (t : ByteArray) (n m a : Int) (A : Option Addr) (c : Nat) (w : World) (hH : Holds w w.heap.size P A 0) (hlc : P.len ≤ c) (hcc : c ≤ 1000000000000000) (ht : t.size ≤ 1000000000000000) (hm : m = 0 ∨ m = 1) (hid : idB t = true) :
    Calls Try.prog 60 #[.agg #[.int .i64 72, .string t, .int .i64 n, .int .i64 m, .int .i64 a, .slice A P.len c]] w fun e w' => e = .returned (.bool (typeD n P.inf)) ∧ Below w.heap.size w w' := by
  have hl : P.len ≤ 1000000000000000 := by omega
  rw [← type_same P.inf (ok_inf P) n]
  obtain ⟨y, hy⟩ : ∃ y, typeR n P.inf = y := ⟨_, rfl⟩
  rw [hy]
  unfold typeR at hy
  rw [inf_len] at hy
  have KI := Lib.hid (fun W => isname_ref t W ht)
  rw [hid] at KI
  have KRun := Lib.hid (fun W (hW : Below w.heap.size w W) => run_any P 73 0 A c W ((hH.below hW).more hW.size) (Nat.zero_le _) hl)
  rw [List.drop_zero] at KRun
  have KV := Lib.hid (fun W (hW : Below w.heap.size w W) => vars_any P n A c W ((hH.below hW).more hW.size) hl)
  have hr : runN 73 P.inf ≤ P.len := by have := runN_le 73 P.inf; rwa [inf_len] at this
  generalize hrr : runN 73 P.inf = r at *
  cases hv : varsB P.inf n with
  | false =>
    rw [hv] at KV hy
    have HY : Hid (false = y) := Lib.hid (by rw [← hy]; rfl)
    clear hid hH hlc hy hv hr hrr
    generalize P.len = x at *
    rcases hm with rfl | rfl
    all_goals
      go_enter Try.func60, Try.ntmps60
      go_wp2_with (first
        | (go_at_call 39; refine (KI.out _).mono ?_; rintro e w1 ⟨rfl, hb⟩; have bx := Box.later (by first | assumption | exact Box.new _ _ _ _ _ _ _ _ _) hb; have bx2 := bx; obtain ⟨-, -, c0, c1, c2, c3, c4, c5⟩ := bx2)
        | (go_at_call 82; refine (KRun.out _ (Box.below (by assumption))).mono ?_; rintro e w1 ⟨rfl, rfl⟩)
        | (go_at_call 83; refine (KV.out _ (by first | exact Box.below (by assumption) | exact (Below.refl _ _).alloc (Nat.le_refl _) _)).mono ?_; rintro e w1 ⟨rfl, hb⟩; have bx := Box.later (by first | assumption | exact Box.new _ _ _ _ _ _ _ _ _) hb; have bx2 := bx; obtain ⟨-, -, c0, c1, c2, c3, c4, c5⟩ := bx2))
      go_ret
      exact ⟨ret_bool HY.out, Box.below (by assumption)⟩
  | true =>
  rw [hv] at KV hy
  rw [Bool.true_and] at hy
  by_cases h1 : P.len = r + 1
  case neg =>
    have HY : Hid (false = y) := Lib.hid (by rw [← hy, decide_eq_false h1]; rfl)
    have t1 : (((P.len : Nat) : Int) == (r : Int) + 1) = false := by simp; omega
    clear hid hH hlc hy hv hrr h1
    generalize P.len = x at *
    rcases hm with rfl | rfl
    all_goals
      go_enter Try.func60, Try.ntmps60
      go_wp2_with (first
        | (go_at_call 39; refine (KI.out _).mono ?_; rintro e w1 ⟨rfl, hb⟩; have bx := Box.later (by first | assumption | exact Box.new _ _ _ _ _ _ _ _ _) hb; have bx2 := bx; obtain ⟨-, -, c0, c1, c2, c3, c4, c5⟩ := bx2)
        | (go_at_call 82; refine (KRun.out _ (Box.below (by assumption))).mono ?_; rintro e w1 ⟨rfl, rfl⟩)
        | (go_at_call 83; refine (KV.out _ (by first | exact Box.below (by assumption) | exact (Below.refl _ _).alloc (Nat.le_refl _) _)).mono ?_; rintro e w1 ⟨rfl, hb⟩; have bx := Box.later (by first | assumption | exact Box.new _ _ _ _ _ _ _ _ _) hb; have bx2 := bx; obtain ⟨-, -, c0, c1, c2, c3, c4, c5⟩ := bx2))
      go_ret
      exact ⟨ret_bool HY.out, Box.below (by assumption)⟩
  obtain ⟨k1, t1, n1, m1, a1, Q1, ad, A1, d1, R1, rfl, hd1, hR1, hP1⟩ := part_at hH (j := r) (by omega)
  have FX1 : Hid (∀ W, Below w.heap.size w W → At6 W (ad.add (r * 6)) k1 t1 n1 m1 a1 Q1.len A1 d1) := Lib.hid (fun W hW => hP1.cells W hW)
  unfold At6 at FX1
  have K1 := Lib.hid (hP1.good _ _ (allrT P))
  have HY : Hid ((mk k1 t1 n1 m1 Q1.inf).ty = y) := Lib.hid (by rw [← hy, decide_eq_true h1, hd1]; simp)
  have t1' : (((P.len : Nat) : Int) == (r : Int) + 1) = true := by simp; omega
  have hrl : r < P.len := by omega
  clear hid hH hy hv hrr h1 hd1 hR1 hP1
  generalize (mk k1 t1 n1 m1 Q1.inf).ty = b5 at *
  generalize P.len = x at *
  rcases hm with rfl | rfl
  all_goals
    go_enter Try.func60, Try.ntmps60
    go_wp2_with (first
      | (go_at_call 39; refine (KI.out _).mono ?_; rintro e w1 ⟨rfl, hb⟩; have bx := Box.later (by first | assumption | exact Box.new _ _ _ _ _ _ _ _ _) hb; have bx2 := bx; obtain ⟨-, -, c0, c1, c2, c3, c4, c5⟩ := bx2)
      | (go_at_call 82; refine (KRun.out _ (Box.below (by assumption))).mono ?_; rintro e w1 ⟨rfl, rfl⟩)
      | (go_at_call 83; refine (KV.out _ (by first | exact Box.below (by assumption) | exact (Below.refl _ _).alloc (Nat.le_refl _) _)).mono ?_; rintro e w1 ⟨rfl, hb⟩; have bx := Box.later (by first | assumption | exact Box.new _ _ _ _ _ _ _ _ _) hb; have bx2 := bx; obtain ⟨-, -, c0, c1, c2, c3, c4, c5⟩ := bx2; obtain ⟨f0, f1, f2, f3, f4, f5⟩ := FX1.out _ (Box.below (by assumption)))
      | (go_at_call 12; refine (K1.out _ (by first | exact Box.below (by assumption) | exact (Below.refl _ _).alloc (Nat.le_refl _) _)).mono ?_; rintro e w1 ⟨rfl, hb⟩; have bx := Box.later (by first | assumption | exact Box.new _ _ _ _ _ _ _ _ _) hb; have bx2 := bx; obtain ⟨-, -, c0, c1, c2, c3, c4, c5⟩ := bx2; obtain ⟨f0, f1, f2, f3, f4, f5⟩ := FX1.out _ (Box.below (by assumption))))
    go_ret
    exact ⟨ret_bool HY.out, Box.below (by assumption)⟩
set_option maxRecDepth 100000 in
set_option maxHeartbeats 4000000 in
theorem rdecl_82 (P : Fo) (t : ByteArray) (n m a : Int) (A : Option Addr) (c : Nat) (w : World) (hH : Holds w w.heap.size P A 0) (hlc : P.len ≤ c) (hcc : c ≤ 1000000000000000) (ht : t.size ≤ 1000000000000000) (hm : m = 0 ∨ m = 1) (hid : idB t = true) :
    Calls Try.prog 60 #[.agg #[.int .i64 82, .string t, .int .i64 n, .int .i64 m, .int .i64 a, .slice A P.len c]] w fun e w' => e = .returned (.bool (constD n P.inf)) ∧ Below w.heap.size w w' := by
  have hl : P.len ≤ 1000000000000000 := by omega
  rw [← const_same P.inf n]
  obtain ⟨y, hy⟩ : ∃ y, constR n P.inf = y := ⟨_, rfl⟩
  rw [hy]
  unfold constR at hy
  rw [inf_len] at hy
  have KI := Lib.hid (fun W => isname_ref t W ht)
  rw [hid] at KI
  have KRun := Lib.hid (fun W (hW : Below w.heap.size w W) => run_any P 73 0 A c W ((hH.below hW).more hW.size) (Nat.zero_le _) hl)
  rw [List.drop_zero] at KRun
  generalize runN 73 P.inf = r at *
  by_cases hn : n = 0
  case neg =>
    have tn : (n == 0) = false := beq_eq_false_iff_ne.2 hn
    have HY : Hid (false = y) := Lib.hid (by rw [← hy, tn]; rfl)
    clear hid hH hlc hy hn
    generalize P.len = x at *
    rcases hm with rfl | rfl
    all_goals
      go_enter Try.func60, Try.ntmps60
      go_wp2_with (first
        | (go_at_call 39; refine (KI.out _).mono ?_; rintro e w1 ⟨rfl, hb⟩; have bx := Box.later (by first | assumption | exact Box.new _ _ _ _ _ _ _ _ _) hb; have bx2 := bx; obtain ⟨-, -, c0, c1, c2, c3, c4, c5⟩ := bx2)
        | (go_at_call 82; refine (KRun.out _ (Box.below (by assumption))).mono ?_; rintro e w1 ⟨rfl, rfl⟩))
      go_ret
      exact ⟨ret_bool HY.out, Box.below (by assumption)⟩
  subst hn
  by_cases h2 : P.len = 2
  case neg =>
    have HY : Hid (false = y) := Lib.hid (by rw [← hy, decide_eq_false h2]; rfl)
    have t2 : (((P.len : Nat) : Int) == 2) = false := by simp; omega
    clear hid hH hlc hy h2
    generalize P.len = x at *
    rcases hm with rfl | rfl
    all_goals
      go_enter Try.func60, Try.ntmps60
      go_wp2_with (first
        | (go_at_call 39; refine (KI.out _).mono ?_; rintro e w1 ⟨rfl, hb⟩; have bx := Box.later (by first | assumption | exact Box.new _ _ _ _ _ _ _ _ _) hb; have bx2 := bx; obtain ⟨-, -, c0, c1, c2, c3, c4, c5⟩ := bx2)
        | (go_at_call 82; refine (KRun.out _ (Box.below (by assumption))).mono ?_; rintro e w1 ⟨rfl, rfl⟩))
      go_ret
      exact ⟨ret_bool HY.out, Box.below (by assumption)⟩
  obtain ⟨k1, t1, n1, m1, a1, Q1, ad, A1, d1, R1, rfl, hd1, hR1, hP1⟩ := part_at hH (j := 0) (by omega)
  have FX1 : Hid (∀ W, Below w.heap.size w W → At6 W ad k1 t1 n1 m1 a1 Q1.len A1 d1) := Lib.hid (fun W hW => hP1.cells W hW)
  unfold At6 at FX1
  obtain ⟨k2, t2, n2, m2, a2, Q2, ad2, A2, d2, R2, had, hd2, hR2, hP2⟩ := part_at hH (j := 1) (by omega)
  cases had
  have FX2 : Hid (∀ W, Below w.heap.size w W → At6 W ⟨ad.block, ad.off + 6, none⟩ k2 t2 n2 m2 a2 Q2.len A2 d2) := Lib.hid (fun W hW => hP2.cells W hW)
  unfold At6 at FX2
  have e2 := drop_last hd2 hR2 (by omega)
  have e1 : P.inf.take 1 = [mk k1 t1 n1 m1 Q1.inf] := by
    rw [show P.inf = P.inf.drop 0 by simp, hd1]; rfl
  rw [decide_eq_true h2, e1, e2] at hy
  simp only [List.all_cons, List.all_nil, Bool.and_true] at hy
  have K1 := Lib.hid (hP1.good _ _ (allrT P))
  have K2 := Lib.hid (hP2.good _ _ (allrE P))
  have HY : Hid (((mk k1 t1 n1 m1 Q1.inf).ty && (mk k2 t2 n2 m2 Q2.inf).ex) = y) := Lib.hid (by rw [← hy]; rfl)
  have h2c : 2 ≤ c := by omega
  rw [h2] at KRun ⊢
  generalize (mk k1 t1 n1 m1 Q1.inf).ty = b5 at *
  generalize (mk k2 t2 n2 m2 Q2.inf).ex = b6 at *
  generalize Q1.len = x1 at *
  generalize Q2.len = x2 at *
  clear e1 e2 hd1 hR1 hP1 hd2 hR2 hP2 hH hlc h2 hl hy hid
  cases b5
  all_goals
    cases b6
    all_goals
      rcases hm with rfl | rfl
      all_goals
        go_enter Try.func60, Try.ntmps60
        go_wp2_with (first
          | (go_at_call 39; refine (KI.out _).mono ?_; rintro e w1 ⟨rfl, hb⟩; have bx := Box.later (by first | assumption | exact Box.new _ _ _ _ _ _ _ _ _) hb; have bx2 := bx; obtain ⟨-, -, c0, c1, c2, c3, c4, c5⟩ := bx2; obtain ⟨f0, f1, f2, f3, f4, f5⟩ := FX1.out _ (Box.below (by assumption)); obtain ⟨g0, g1, g2, g3, g4, g5⟩ := FX2.out _ (Box.below (by assumption)))
          | (go_at_call 82; refine (KRun.out _ (Box.below (by assumption))).mono ?_; rintro e w1 ⟨rfl, rfl⟩)
          | (go_at_call 12; refine (K1.out _ (by first | exact Box.below (by assumption) | exact (Below.refl _ _).alloc (Nat.le_refl _) _)).mono ?_; rintro e w1 ⟨rfl, hb⟩; have bx := Box.later (by first | assumption | exact Box.new _ _ _ _ _ _ _ _ _) hb; have bx2 := bx; obtain ⟨-, -, c0, c1, c2, c3, c4, c5⟩ := bx2; obtain ⟨f0, f1, f2, f3, f4, f5⟩ := FX1.out _ (Box.below (by assumption)); obtain ⟨g0, g1, g2, g3, g4, g5⟩ := FX2.out _ (Box.below (by assumption)))
          | (go_at_call 14; refine (K2.out _ (by first | exact Box.below (by assumption) | exact (Below.refl _ _).alloc (Nat.le_refl _) _)).mono ?_; rintro e w1 ⟨rfl, hb⟩; have bx := Box.later (by first | assumption | exact Box.new _ _ _ _ _ _ _ _ _) hb; have bx2 := bx; obtain ⟨-, -, c0, c1, c2, c3, c4, c5⟩ := bx2))
        go_ret
        exact ⟨ret_bool (by rw [← HY.out]; rfl), Box.below (by assumption)⟩
end Go.Proofs.Ytogoolpgajopcaa
