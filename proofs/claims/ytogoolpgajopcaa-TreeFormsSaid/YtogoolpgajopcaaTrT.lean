import Derived.Test.YtogoolpgajopcaaTrS
namespace Go.Proofs.Ytogoolpgajopcaa
open Go.RowKit
theorem param_any (P : Fo) (hall : AllC (FunP 11 (·.ty)) P) : FunP 35 (·.par) P := by
  intro k t n m a A c w hH hlc hcc ht
  have hl : P.len ≤ 1000000000000000 := by omega
  simp only [val6, cells6]
  have KI := Lib.hid (isname_any k t n m a P.len A c ht)
  have KP := Lib.hid (plain_any k t n m a P.len A c)
  have KT1 := Lib.hid (fun W (hW : Below w.heap.size w W) => types_any P hall 1 1 (by rfl) k t n m a A c W ((hH.below hW).more hW.size) hl)
  unfold Flat at KI KP
  obtain ⟨y, hy⟩ : ∃ y, (mk k t n m P.inf).par = y := ⟨_, rfl⟩
  rw [hy]
  unfold mk at hy
  simp only [parB] at hy
  generalize idB t = b1 at *
  generalize plainB n m = b2 at *
  generalize typesB P.inf 1 = b3 at *
  by_cases hk : k = 16
  · subst hk
    have HY := Lib.hid hy
    clear hy hH hall hlc hcc
    go_enter Try.func35, Try.ntmps35
    go_wp2_with (first
      | (go_at_call 31; refine (KI.out _).mono ?_; rintro e w1 ⟨rfl, hb⟩; have bx := Box.later (by first | assumption | exact Box.new _ _ _ _ _ _ _ _ _) hb; have bx2 := bx; obtain ⟨-, -, c0, c1, c2, c3, c4, c5⟩ := bx2)
      | (go_at_call 30; refine (KP.out _).mono ?_; rintro e w1 ⟨rfl, hb⟩; have bx := Box.later (by first | assumption | exact Box.new _ _ _ _ _ _ _ _ _) hb; have bx2 := bx; obtain ⟨-, -, c0, c1, c2, c3, c4, c5⟩ := bx2)
      | (go_at_call 33; refine (KT1.out _ (by first | exact Box.below (by assumption) | exact (Below.refl _ _).alloc (Nat.le_refl _) _)).mono ?_; rintro e w1 ⟨rfl, hb⟩; have bx := Box.later (by first | assumption | exact Box.new _ _ _ _ _ _ _ _ _) hb; have bx2 := bx; obtain ⟨-, -, c0, c1, c2, c3, c4, c5⟩ := bx2))
    all_goals
      go_ret
      refine ⟨ret_bool ?_, (by first | exact Box.below (by assumption) | exact (Below.refl _ _).alloc (Nat.le_refl _) _)⟩
      rw [← HY.out]; simp [*]
  · have tk : (k == 16) = false := beq_eq_false_iff_ne.2 hk
    have HY : Hid (false = y) := Lib.hid (by rw [← hy, tk]; rfl)
    clear hy hH hall hlc hcc hk
    go_enter Try.func35, Try.ntmps35
    go_wp2_with fail
    all_goals
      go_ret
      refine ⟨ret_bool ?_, (by first | exact Box.below (by assumption) | exact (Below.refl _ _).alloc (Nat.le_refl _) _)⟩
      exact HY.out
theorem field_any (P : Fo) (hall : AllC (FunP 11 (·.ty)) P) : FunP 36 (·.fld) P := by
  intro k t n m a A c w hH hlc hcc ht
  have hl : P.len ≤ 1000000000000000 := by omega
  simp only [val6, cells6]
  have KI := Lib.hid (isname_any k t n m a P.len A c ht)
  have KF := Lib.hid (flags_any k t n m a P.len A c)
  have KT1 := Lib.hid (fun W (hW : Below w.heap.size w W) => types_any P hall 1 1 (by rfl) k t n m a A c W ((hH.below hW).more hW.size) hl)
  unfold Flat at KI KF
  obtain ⟨y, hy⟩ : ∃ y, (mk k t n m P.inf).fld = y := ⟨_, rfl⟩
  rw [hy]
  unfold mk at hy
  simp only [fldB] at hy
  generalize idB t = b1 at *
  generalize flagsB n m = b2 at *
  generalize typesB P.inf 1 = b3 at *
  by_cases hk : k = 8
  · subst hk
    have HY := Lib.hid hy
    clear hy hH hall hlc hcc
    go_enter Try.func36, Try.ntmps36
    go_wp2_with (first
      | (go_at_call 31; refine (KI.out _).mono ?_; rintro e w1 ⟨rfl, hb⟩; have bx := Box.later (by first | assumption | exact Box.new _ _ _ _ _ _ _ _ _) hb; have bx2 := bx; obtain ⟨-, -, c0, c1, c2, c3, c4, c5⟩ := bx2)
      | (go_at_call 37; refine (KF.out _).mono ?_; rintro e w1 ⟨rfl, hb⟩; have bx := Box.later (by first | assumption | exact Box.new _ _ _ _ _ _ _ _ _) hb; have bx2 := bx; obtain ⟨-, -, c0, c1, c2, c3, c4, c5⟩ := bx2)
      | (go_at_call 33; refine (KT1.out _ (by first | exact Box.below (by assumption) | exact (Below.refl _ _).alloc (Nat.le_refl _) _)).mono ?_; rintro e w1 ⟨rfl, hb⟩; have bx := Box.later (by first | assumption | exact Box.new _ _ _ _ _ _ _ _ _) hb; have bx2 := bx; obtain ⟨-, -, c0, c1, c2, c3, c4, c5⟩ := bx2))
    all_goals
      go_ret
      refine ⟨ret_bool ?_, (by first | exact Box.below (by assumption) | exact (Below.refl _ _).alloc (Nat.le_refl _) _)⟩
      rw [← HY.out]; simp [*]
  · have tk : (k == 8) = false := beq_eq_false_iff_ne.2 hk
    have HY : Hid (false = y) := Lib.hid (by rw [← hy, tk]; rfl)
    clear hy hH hall hlc hcc hk
    go_enter Try.func36, Try.ntmps36
    go_wp2_with fail
    all_goals
      go_ret
      refine ⟨ret_bool ?_, (by first | exact Box.below (by assumption) | exact (Below.refl _ _).alloc (Nat.le_refl _) _)⟩
      exact HY.out
theorem reference_any (P : Fo) (hall : AllC (FunP 11 (·.ty)) P) : FunP 67 (·.ref) P := by
  intro k t n m a A c w hH hlc hcc ht
  have hl : P.len ≤ 1000000000000000 := by omega
  simp only [val6, cells6]
  have KI := Lib.hid (isname_any k t n m a P.len A c ht)
  have KP := Lib.hid (plain_any k t n m a P.len A c)
  have KA := Lib.hid (fun W (hW : Below w.heap.size w W) => all_Type (·.ty) P hall A c W ((hH.below hW).more hW.size) hl)
  unfold Flat at KI KP
  obtain ⟨y, hy⟩ : ∃ y, (mk k t n m P.inf).ref = y := ⟨_, rfl⟩
  rw [hy]
  unfold mk at hy
  simp only [refB] at hy
  generalize idB t = b1 at *
  generalize plainB n m = b2 at *
  generalize P.inf.all (·.ty) = b3 at *
  by_cases hk : k = 1
  · subst hk
    have HY := Lib.hid hy
    clear hy hH hall hlc hcc
    go_enter Try.func67, Try.ntmps67
    go_wp2_with (first
      | (go_at_call 31; refine (KI.out _).mono ?_; rintro e w1 ⟨rfl, hb⟩; have bx := Box.later (by first | assumption | exact Box.new _ _ _ _ _ _ _ _ _) hb; have bx2 := bx; obtain ⟨-, -, c0, c1, c2, c3, c4, c5⟩ := bx2)
      | (go_at_call 30; refine (KP.out _).mono ?_; rintro e w1 ⟨rfl, hb⟩; have bx := Box.later (by first | assumption | exact Box.new _ _ _ _ _ _ _ _ _) hb; have bx2 := bx; obtain ⟨-, -, c0, c1, c2, c3, c4, c5⟩ := bx2)
      | (go_at_call 34; refine (KA.out _ (by first | exact Box.below (by assumption) | exact (Below.refl _ _).alloc (Nat.le_refl _) _)).mono ?_; rintro e w1 ⟨rfl, hb⟩; have bx := Box.later (by first | assumption | exact Box.new _ _ _ _ _ _ _ _ _) hb; have bx2 := bx; obtain ⟨-, -, c0, c1, c2, c3, c4, c5⟩ := bx2))
    all_goals
      go_ret
      refine ⟨ret_bool ?_, (by first | exact Box.below (by assumption) | exact (Below.refl _ _).alloc (Nat.le_refl _) _)⟩
      rw [← HY.out]; simp [*]
  · have tk : (k == 1) = false := beq_eq_false_iff_ne.2 hk
    have HY : Hid (false = y) := Lib.hid (by rw [← hy, tk]; rfl)
    clear hy hH hall hlc hcc hk
    go_enter Try.func67, Try.ntmps67
    go_wp2_with fail
    all_goals
      go_ret
      refine ⟨ret_bool ?_, (by first | exact Box.below (by assumption) | exact (Below.refl _ _).alloc (Nat.le_refl _) _)⟩
      exact HY.out
end Go.Proofs.Ytogoolpgajopcaa
