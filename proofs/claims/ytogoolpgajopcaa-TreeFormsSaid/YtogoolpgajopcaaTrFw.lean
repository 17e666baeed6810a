import Derived.Test.YtogoolpgajopcaaTrFv
namespace Go.Proofs.Ytogoolpgajopcaa
open Go.RowKit
theorem ref_ty (k : Int) (t : ByteArray) (n m : Int) (l : List Inf) : refB k t n m l = ((k == 1) && (typeB k t n m l && !wordB t)) := by
  by_cases hk : k = 1
  · subst hk
    rw [typeB_1]
    cases hw : wordB t with
    | true => simp [refB, word_id t hw]
    | false => simp [refB]
  · unfold refB
    rw [beq_eq_false_iff_ne.2 hk]; rfl
set_option maxRecDepth 100000 in
set_option maxHeartbeats 2000000 in
theorem rone_any (P : Fo) : FunP 96 (·.refs) P := by
  intro k t n m a A c w hH hlc hcc ht
  have hl : P.len ≤ 1000000000000000 := by omega
  simp only [val6, cells6]
  obtain ⟨y, hy⟩ : ∃ y, (mk k t n m P.inf).refs = y := ⟨_, rfl⟩
  rw [hy]
  rw [show (mk k t n m P.inf).refs = (bareB t n m && (lenB P.inf 1 && P.inf.all (·.ref))) from rfl] at hy
  unfold lenB at hy
  rw [inf_len] at hy
  have KP := Lib.hid (rplain_any k t n m a P.len A c)
  unfold Flat at KP
  generalize bareB t n m = b1 at *
  by_cases h1 : P.len = 1
  · obtain ⟨k1, t1, n1, m1, a1, Q1, ad, A1, d1, R1, rfl, hd1, hR1, hP1⟩ := part_at hH (j := 0) (by omega)
    have FX1 : Hid (∀ W, Below w.heap.size w W → At6 W ad k1 t1 n1 m1 a1 Q1.len A1 d1) := Lib.hid (fun W hW => hP1.cells W hW)
    unfold At6 at FX1
    have e0 : P.inf = [mk k1 t1 n1 m1 Q1.inf] := by
      rw [show P.inf = P.inf.drop 0 by simp]; exact drop_last hd1 hR1 (by omega)
    rw [decide_eq_true h1, e0] at hy
    simp only [List.all_cons, List.all_nil, Bool.and_true] at hy
    rw [show (mk k1 t1 n1 m1 Q1.inf).ref = ((k1 == 1) && ((mk k1 t1 n1 m1 Q1.inf).ty && !wordB t1)) from ref_ty k1 t1 n1 m1 Q1.inf] at hy
    have K1 := Lib.hid (hP1.good _ _ (allrT P))
    have KW := Lib.hid (fun W => word_ref t1 W)
    have h1c : 1 ≤ c := by omega
    rw [h1] at KP ⊢
    generalize wordB t1 = b6 at *
    clear e0 hd1 hR1 hP1 hH hlc h1 hl
    by_cases hk : k1 = 1
    · subst hk
      generalize (mk 1 t1 n1 m1 Q1.inf).ty = b5 at *
      generalize Q1.len = x1 at *
      have HY := Lib.hid hy
      clear hy
      go_enter Try.func96, Try.ntmps96
      go_wp2_with (first
        | (go_at_call 42; refine (KP.out _).mono ?_; rintro e w1 ⟨rfl, hb⟩; have bx := Box.later (by first | assumption | exact Box.new _ _ _ _ _ _ _ _ _) hb; have bx2 := bx; obtain ⟨-, -, c0, c1, c2, c3, c4, c5⟩ := bx2; obtain ⟨f0, f1, f2, f3, f4, f5⟩ := FX1.out _ (Box.below (by assumption)))
        | (go_at_call 12; refine (K1.out _ (by first | exact Box.below (by assumption) | exact (Below.refl _ _).alloc (Nat.le_refl _) _)).mono ?_; rintro e w1 ⟨rfl, hb⟩; have bx := Box.later (by first | assumption | exact Box.new _ _ _ _ _ _ _ _ _) hb; have bx2 := bx; obtain ⟨-, -, c0, c1, c2, c3, c4, c5⟩ := bx2; obtain ⟨f0, f1, f2, f3, f4, f5⟩ := FX1.out _ (Box.below (by assumption)))
        | (go_at_call 38; refine (KW.out _).mono ?_; rintro e w1 ⟨rfl, rfl⟩))
      all_goals
        go_ret
        refine ⟨ret_bool ?_, (by first | exact Box.below (by assumption) | exact (Below.refl _ _).alloc (Nat.le_refl _) _)⟩
        first | rfl | exact HY.out | (rw [← HY.out]; first | rfl | exact beq0 _ | (simp [*]; done) | (simp [*]; omega) | (simp_all; done) | (simp_all; omega))
    · have tk : (k1 == 1) = false := beq_eq_false_iff_ne.2 hk
      rw [tk] at hy
      clear K1 KW hk
      generalize Q1.len = x1 at *
      have HY := Lib.hid hy
      clear hy
      go_enter Try.func96, Try.ntmps96
      go_wp2_with (first
        | (go_at_call 42; refine (KP.out _).mono ?_; rintro e w1 ⟨rfl, hb⟩; have bx := Box.later (by first | assumption | exact Box.new _ _ _ _ _ _ _ _ _) hb; have bx2 := bx; obtain ⟨-, -, c0, c1, c2, c3, c4, c5⟩ := bx2; obtain ⟨f0, f1, f2, f3, f4, f5⟩ := FX1.out _ (Box.below (by assumption))))
      all_goals
        go_ret
        refine ⟨ret_bool ?_, (by first | exact Box.below (by assumption) | exact (Below.refl _ _).alloc (Nat.le_refl _) _)⟩
        first | rfl | exact HY.out | (rw [← HY.out]; first | rfl | exact beq0 _ | (simp [*]; done) | (simp [*]; omega) | (simp_all; done) | (simp_all; omega))
  · have t1 : (((P.len : Nat) : Int) == 1) = false := by simp; omega
    rw [decide_eq_false h1] at hy
    clear hH hlc h1
    generalize P.len = x at *
    have HY := Lib.hid hy
    clear hy
    go_enter Try.func96, Try.ntmps96
    go_wp2_with (first
      | (go_at_call 42; refine (KP.out _).mono ?_; rintro e w1 ⟨rfl, hb⟩; have bx := Box.later (by first | assumption | exact Box.new _ _ _ _ _ _ _ _ _) hb; have bx2 := bx; obtain ⟨-, -, c0, c1, c2, c3, c4, c5⟩ := bx2))
    all_goals
      go_ret
      refine ⟨ret_bool ?_, (by first | exact Box.below (by assumption) | exact (Below.refl _ _).alloc (Nat.le_refl _) _)⟩
      first | rfl | exact HY.out | (rw [← HY.out]; first | rfl | exact beq0 _ | (simp [*]; done) | (simp [*]; omega) | (simp_all; done) | (simp_all; omega))
end Go.Proofs.Ytogoolpgajopcaa
