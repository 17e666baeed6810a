import Derived.Test.YtogoolpgajopcaaTrFd
import Derived.Test.YtogoolpgajopcaaTrRb
namespace Go.Proofs.Ytogoolpgajopcaa
open Go.RowKit
theorem AllC.of {C : Fo → Prop} (h : ∀ P, C P) : ∀ F, AllC C F := fun F => fo_all (fun P _ => h P) F
theorem exprs_any (P : Fo) (hall : AllC (FunP 13 (·.ex)) P) (j : Nat) (q : Int) (hq : q = (j : Int)) (k : Int) (t : ByteArray) (n m a : Int) (A : Option Addr) (c : Nat) (w : World) (hH : Holds w w.heap.size P A 0) (hl : P.len ≤ 1000000000000000) :
    Calls Try.prog 46 #[.agg #[.int .i64 k, .string t, .int .i64 n, .int .i64 m, .int .i64 a, .slice A P.len c], .int .i64 q] w fun e w' => e = .returned (.bool (exprsB P.inf j)) ∧ Below w.heap.size w w' := by
  have K1 := Lib.hid (fun W (hW : Below w.heap.size w W) => all_Expr (·.ex) P hall A c W ((hH.below hW).more hW.size) hl)
  have hL := inf_len P
  obtain ⟨y, hy⟩ : ∃ y, exprsB P.inf j = y := ⟨_, rfl⟩
  rw [hy]
  unfold exprsB lenB at hy
  rw [hL] at hy
  generalize P.inf.all (·.ex) = b1 at *
  generalize P.len = x at *
  clear hH hall hL
  by_cases h1 : x = j
  · have t1 : (((x : Nat) : Int) == q) = true := by subst hq; simp [h1]
    have HY : Hid (b1 = y) := Lib.hid (by rw [← hy]; simp [h1])
    clear hy hq h1
    go_enter Try.func46, Try.ntmps46
    go_wp2_with (first
      | (go_at_call 34; refine (K1.out _ (by first | exact Box.below (by assumption) | exact (Below.refl _ _).alloc (Nat.le_refl _) _)).mono ?_; rintro e w1 ⟨rfl, hb⟩; have bx := Box.later (by first | assumption | exact Box.new _ _ _ _ _ _ _ _ _) hb; have bx2 := bx; obtain ⟨-, -, c0, c1, c2, c3, c4, c5⟩ := bx2))
    all_goals
      go_ret
      refine ⟨ret_bool ?_, (by first | exact Box.below (by assumption) | exact (Below.refl _ _).alloc (Nat.le_refl _) _)⟩
      exact HY.out
  · have t1 : (((x : Nat) : Int) == q) = false := by subst hq; simp; omega
    have HY : Hid (false = y) := Lib.hid (by rw [← hy]; simp [h1])
    clear hy hq h1
    go_enter Try.func46, Try.ntmps46
    go_wp2_with fail
    all_goals
      go_ret
      refine ⟨ret_bool ?_, (by first | exact Box.below (by assumption) | exact (Below.refl _ _).alloc (Nat.le_refl _) _)⟩
      exact HY.out
theorem valueField_any (P : Fo) (hall : AllC (FunP 13 (·.ex)) P) : FunP 45 (·.efl) P := by
  intro k t n m a A c w hH hlc hcc ht
  have hl : P.len ≤ 1000000000000000 := by omega
  simp only [val6, cells6]
  have KI := Lib.hid (isname_any k t n m a P.len A c ht)
  have KP := Lib.hid (plain_any k t n m a P.len A c)
  have KT1 := Lib.hid (fun W (hW : Below w.heap.size w W) => exprs_any P hall 1 1 (by rfl) k t n m a A c W ((hH.below hW).more hW.size) hl)
  unfold Flat at KI KP
  obtain ⟨y, hy⟩ : ∃ y, (mk k t n m P.inf).efl = y := ⟨_, rfl⟩
  rw [hy]
  unfold mk at hy
  simp only [eflB] at hy
  generalize idB t = b1 at *
  generalize plainB n m = b2 at *
  generalize exprsB P.inf 1 = b3 at *
  by_cases hk : k = 28
  · subst hk
    have HY := Lib.hid hy
    clear hy hH hall hlc hcc
    go_enter Try.func45, Try.ntmps45
    go_wp2_with (first
      | (go_at_call 31; refine (KI.out _).mono ?_; rintro e w1 ⟨rfl, hb⟩; have bx := Box.later (by first | assumption | exact Box.new _ _ _ _ _ _ _ _ _) hb; have bx2 := bx; obtain ⟨-, -, c0, c1, c2, c3, c4, c5⟩ := bx2)
      | (go_at_call 30; refine (KP.out _).mono ?_; rintro e w1 ⟨rfl, hb⟩; have bx := Box.later (by first | assumption | exact Box.new _ _ _ _ _ _ _ _ _) hb; have bx2 := bx; obtain ⟨-, -, c0, c1, c2, c3, c4, c5⟩ := bx2)
      | (go_at_call 46; refine (KT1.out _ (by first | exact Box.below (by assumption) | exact (Below.refl _ _).alloc (Nat.le_refl _) _)).mono ?_; rintro e w1 ⟨rfl, hb⟩; have bx := Box.later (by first | assumption | exact Box.new _ _ _ _ _ _ _ _ _) hb; have bx2 := bx; obtain ⟨-, -, c0, c1, c2, c3, c4, c5⟩ := bx2))
    all_goals
      go_ret
      refine ⟨ret_bool ?_, (by first | exact Box.below (by assumption) | exact (Below.refl _ _).alloc (Nat.le_refl _) _)⟩
      rw [← HY.out]; simp [*]
  · have tk : (k == 28) = false := beq_eq_false_iff_ne.2 hk
    have HY : Hid (false = y) := Lib.hid (by rw [← hy, tk]; rfl)
    clear hy hH hall hlc hcc hk
    go_enter Try.func45, Try.ntmps45
    go_wp2_with fail
    all_goals
      go_ret
      refine ⟨ret_bool ?_, (by first | exact Box.below (by assumption) | exact (Below.refl _ _).alloc (Nat.le_refl _) _)⟩
      exact HY.out
set_option maxRecDepth 100000 in
set_option maxHeartbeats 2000000 in
theorem bin_any (t : ByteArray) (w : World) : Calls Try.prog 48 #[.string t] w fun e w' => e = .returned (.bool (binB t)) ∧ w = w' := by
  obtain ⟨y, hy⟩ : ∃ y, binB t = y := ⟨_, rfl⟩
  rw [hy]
  simp only [binB, binL, List.any_cons, List.any_nil] at hy
  have HY := Lib.hid hy
  clear hy
  go_enter Try.func48, Try.ntmps48
  go_wp2_with fail
  all_goals first
    | (exfalso; simp_all; done)
    | (go_ret; refine ⟨ret_bool ?_, rfl⟩; rw [← HY.out]; simp only [*, Bool.true_or, Bool.or_true, Bool.or_false]; done)
end Go.Proofs.Ytogoolpgajopcaa
