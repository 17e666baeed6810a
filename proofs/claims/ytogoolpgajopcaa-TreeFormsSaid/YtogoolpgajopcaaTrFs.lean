import Derived.Test.YtogoolpgajopcaaTrFr
namespace Go.Proofs.Ytogoolpgajopcaa
open Go.RowKit
set_option maxRecDepth 100000 in
set_option maxHeartbeats 2000000 in
theorem decl_70 (P : Fo) (t : ByteArray) (n m a : Int) (A : Option Addr) (c : Nat) (w : World) (hH : Holds w w.heap.size P A 0) (hlc : P.len ≤ c) (hcc : c ≤ 1000000000000000) :
    Calls Try.prog 59 #[.agg #[.int .i64 70, .string t, .int .i64 n, .int .i64 m, .int .i64 a, .slice A P.len c]] w fun e w' => e = .returned (.bool (impD n m P.inf)) ∧ Below w.heap.size w w' := by
  have hl : P.len ≤ 1000000000000000 := by omega
  obtain ⟨y, hy⟩ : ∃ y, impD n m P.inf = y := ⟨_, rfl⟩
  rw [hy]
  unfold impD at hy
  rw [inf_len] at hy
  have KP := Lib.hid (plain_any 70 t n m a P.len A c)
  unfold Flat at KP
  have KA := Lib.hid (fun W (hW : Below w.heap.size w W) => all_importName (·.imp) P (allIm P) A c W ((hH.below hW).more hW.size) hl)
  generalize plainB n m = b1 at *
  generalize P.inf.all (·.imp) = b2 at *
  generalize P.len = x at *
  clear hH hlc
  have HY := Lib.hid hy
  clear hy
  go_enter Try.func59, Try.ntmps59
  go_wp2_with (first
    | (go_at_call 30; refine (KP.out _).mono ?_; rintro e w1 ⟨rfl, hb⟩; have bx := Box.later (by first | assumption | exact (Box.new _ _ _ _ _ _ _ _ _).later ((Below.refl _ _).alloc (Nat.le_refl _) _)) hb; have bx2 := bx; obtain ⟨-, -, c0, c1, c2, c3, c4, c5⟩ := bx2)
    | (go_at_call 34; refine (KA.out _ (by first | exact Box.below (by assumption) | exact ((Below.refl _ _).alloc (Nat.le_refl _) _).alloc (by simp) _)).mono ?_; rintro e w1 ⟨rfl, hb⟩; have bx := Box.later (by first | assumption | exact (Box.new _ _ _ _ _ _ _ _ _).later ((Below.refl _ _).alloc (Nat.le_refl _) _)) hb; have bx2 := bx; obtain ⟨-, -, c0, c1, c2, c3, c4, c5⟩ := bx2))
  all_goals
    go_ret
    refine ⟨ret_bool ?_, (by first | exact Box.below (by assumption) | exact (Below.refl _ _).alloc (Nat.le_refl _) _ | exact ((Below.refl _ _).alloc (Nat.le_refl _) _).alloc (by simp) _)⟩
    first | rfl | exact HY.out | (rw [← HY.out]; first | rfl | exact beq0 _ | (simp [*]; done) | (simp [*]; omega) | (simp_all; done) | (simp_all; omega))
set_option maxRecDepth 100000 in
set_option maxHeartbeats 2000000 in
theorem decl_no (P : Fo) (k : Int) (t : ByteArray) (n m a : Int) (A : Option Addr) (c : Nat) (w : World) (hk : k ≠ 70) (ht : t.size ≤ 1000000000000000) (h : ¬ ((m = 0 ∨ m = 1) ∧ idB t = true)) :
    Calls Try.prog 59 #[.agg #[.int .i64 k, .string t, .int .i64 n, .int .i64 m, .int .i64 a, .slice A P.len c]] w fun e w' => e = .returned (.bool false) ∧ Below w.heap.size w w' := by
  have tk : (k == 70) = false := beq_eq_false_iff_ne.2 hk
  generalize P.len = x
  by_cases hm : m = 0 ∨ m = 1
  · have hid : idB t = false := by
      cases hq : idB t with
      | false => rfl
      | true => exact absurd ⟨hm, hq⟩ h
    have KI := Lib.hid (fun W => isname_any k t n m a x A c ht W)
    rw [hid] at KI
    clear h hid hk
    rcases hm with rfl | rfl
    all_goals
      go_enter Try.func59, Try.ntmps59
      go_wp2_with fail
      refine (KI.out _).mono ?_
      rintro e w1 ⟨rfl, hb1⟩
      have HB := Lib.hid (((Box.new w k t n _ a x A c).later ((Below.refl _ _).alloc (Nat.le_refl _) (.cells #[.int .i64 0, .slice A x c] 56))).later hb1).below
      clear hb1
      go_wp2_with fail
      go_ret
      exact ⟨rfl, HB.out⟩
  · have t0 : (m != 0) = true := by simp; exact fun e => hm (.inl e)
    have t1 : (m != 1) = true := by simp; exact fun e => hm (.inr e)
    clear h hm hk
    go_enter Try.func59, Try.ntmps59
    go_wp2_with fail
    go_ret
    exact ⟨rfl, ((Below.refl _ _).alloc (Nat.le_refl _) _).alloc (by simp) _⟩
set_option maxRecDepth 100000 in
set_option maxHeartbeats 2000000 in
theorem decl_else (P : Fo) (k : Int) (t : ByteArray) (n m a : Int) (A : Option Addr) (c : Nat) (w : World) (ht : t.size ≤ 1000000000000000) (hm : m = 0 ∨ m = 1) (hid : idB t = true) (h : k ≠ 70 ∧ k ≠ 72 ∧ k ≠ 74 ∧ k ≠ 76 ∧ k ≠ 80 ∧ k ≠ 81 ∧ k ≠ 82) :
    Calls Try.prog 59 #[.agg #[.int .i64 k, .string t, .int .i64 n, .int .i64 m, .int .i64 a, .slice A P.len c]] w fun e w' => e = .returned (.bool false) ∧ Below w.heap.size w w' := by
  obtain ⟨h70, h72, h74, h76, h80, h81, h82⟩ := h
  have t70 : (k == 70) = false := beq_eq_false_iff_ne.2 h70
  have t72 : (k == 72) = false := beq_eq_false_iff_ne.2 h72
  have t74 : (k == 74) = false := beq_eq_false_iff_ne.2 h74
  have t76 : (k == 76) = false := beq_eq_false_iff_ne.2 h76
  have t80 : (k == 80) = false := beq_eq_false_iff_ne.2 h80
  have t81 : (k == 81) = false := beq_eq_false_iff_ne.2 h81
  have t82 : (k == 82) = false := beq_eq_false_iff_ne.2 h82
  have KI := Lib.hid (fun W => isname_any k t n m a P.len A c ht W)
  rw [hid] at KI
  clear hid h70 h72 h74 h76 h80 h81 h82
  generalize P.len = x at *
  rcases hm with rfl | rfl
  all_goals
    go_enter Try.func59, Try.ntmps59
    go_wp2_with fail
    refine (KI.out _).mono ?_
    rintro e w1 ⟨rfl, hb1⟩
    have bx := ((Box.new w k t n _ a x A c).later ((Below.refl _ _).alloc (Nat.le_refl _) (.cells #[.int .i64 0, .slice A x c] 56))).later hb1
    have HB := Lib.hid bx.below
    obtain ⟨-, -, c0, c1, c2, c3, c4, c5⟩ := bx
    clear hb1
    go_wp2_with fail
    go_ret
    exact ⟨rfl, HB.out⟩
end Go.Proofs.Ytogoolpgajopcaa
