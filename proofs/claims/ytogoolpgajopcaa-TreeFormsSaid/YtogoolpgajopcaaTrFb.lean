import Derived.Test.YtogoolpgajopcaaTrFa
namespace Go.Proofs.Ytogoolpgajopcaa
open Go.RowKit
/-- The cells of the node at a number, in each later world. -/
def At6 (W : World) (p : Addr) (k : Int) (t : ByteArray) (n m a : Int) (l : Nat) (A : Option Addr) (c : Nat) : Prop := W.cell? p = some (.int .i64 k) ∧ W.cell? ⟨p.block, p.off + 1, none⟩ = some (.string t) ∧ W.cell? ⟨p.block, p.off + 2, none⟩ = some (.int .i64 n) ∧ W.cell? ⟨p.block, p.off + 3, none⟩ = some (.int .i64 m) ∧ W.cell? ⟨p.block, p.off + 4, none⟩ = some (.int .i64 a) ∧ W.cell? ⟨p.block, p.off + 5, none⟩ = some (.slice A l c)
/-- A part by its number: its fields, its cells in each later world, and what is told of it by functions that tell it of all. -/
structure Part (w : World) (P : Fo) (ad : Addr) (j : Nat) (k : Int) (t : ByteArray) (n m a : Int) (Q : Fo) (A : Option Addr) (c : Nat) : Prop where
  cells : ∀ W, Below w.heap.size w W → At6 W (ad.add (j * 6)) k t n m a Q.len A c
  good : ∀ (f : Nat) (p : Inf → Bool), AllC (FunP f p) P → ∀ W, Below w.heap.size w W → Calls Try.prog f #[.agg #[.int .i64 k, .string t, .int .i64 n, .int .i64 m, .int .i64 a, .slice A Q.len c]] W fun e w' => e = .returned (.bool (p (mk k t n m Q.inf))) ∧ Below W.heap.size W w'
theorem part_at {w : World} {P : Fo} {A : Option Addr} (hH : Holds w w.heap.size P A 0) {j : Nat} (hj : j < P.len) : ∃ k t n m a Q ad A' c' R, A = some ad ∧ P.inf.drop j = mk k t n m Q.inf :: R ∧ R = P.inf.drop (j + 1) ∧ Part w P ad j k t n m a Q A' c' := by
  obtain ⟨k, t, n, m, a, Q, R, ad, A', c', e, rfl, hblk, hcell, h1, h2, h3, h4⟩ := hH.node hj
  rw [Nat.zero_add] at hcell
  refine ⟨k, t, n, m, a, Q, ad, A', c', R.inf, rfl, by rw [← drop_inf, e]; rfl, ?_, ⟨fun W hW => six (w := W) (fun x u hu => (hW.cell (by rw [block_add, block_add]; exact hblk)).trans (hcell x u hu)), fun f p hall W hW => ?_⟩⟩
  · have h5 : P.inf.drop j = (P.drop j).inf := (drop_inf P j).symm
    rw [e] at h5
    rw [← List.drop_drop, h5]; rfl
  · have h5 := hall.drop j
    rw [e] at h5
    have K := h5.1 k t n m a A' c' W ((h4.below hW).more hW.size) h1 h2 h3
    simpa only [val6, cells6] using K
theorem len_zero {P : Fo} (h : P.len = 0) : P.inf = [] := List.eq_nil_of_length_eq_zero (by rw [inf_len]; exact h)
set_option maxRecDepth 100000 in
set_option maxHeartbeats 2000000 in
theorem rParam_any (P : Fo) (hall : AllC (FunP 12 (·.ty)) P) : FunP 72 (·.par) P := by
  intro k t n m a A c w hH hlc hcc ht
  simp only [val6, cells6]
  have KN := Lib.hid (rnamed_any k t n m a P.len A c ht)
  unfold Flat at KN
  obtain ⟨y, hy⟩ : ∃ y, (mk k t n m P.inf).par = y := ⟨_, rfl⟩
  rw [hy]
  unfold mk at hy
  simp only [parB, plainB, typesB, lenB] at hy
  rw [inf_len] at hy
  by_cases hk : k = 16
  case neg =>
    have tk : (k == 16) = false := beq_eq_false_iff_ne.2 hk
    have HY : Hid (false = y) := Lib.hid (by rw [← hy, tk]; rfl)
    clear hy hH hall hk hlc hcc
    go_enter Try.func72, Try.ntmps72
    go_wp2_with fail
    all_goals
      go_ret
      refine ⟨ret_bool ?_, (by first | exact Box.below (by assumption) | exact (Below.refl _ _).alloc (Nat.le_refl _) _)⟩
      exact HY.out
  subst hk
  by_cases h1 : P.len = 1
  case neg =>
    have t1 : (((P.len : Nat) : Int) == 1) = false := by simp; omega
    have HY : Hid (false = y) := Lib.hid (by rw [← hy]; simp [h1])
    clear hy hH hall h1 hlc hcc
    generalize P.len = x at *
    generalize idB t = b1 at *
    generalize (m == 0) = b2 at *
    go_enter Try.func72, Try.ntmps72
    go_wp2_with (first
      | (go_at_call 41; refine (KN.out _).mono ?_; rintro e w1 ⟨rfl, hb⟩; have bx := Box.later (by first | assumption | exact Box.new _ _ _ _ _ _ _ _ _) hb; have bx2 := bx; obtain ⟨-, -, c0, c1, c2, c3, c4, c5⟩ := bx2))
    all_goals
      go_ret
      refine ⟨ret_bool ?_, (by first | exact Box.below (by assumption) | exact (Below.refl _ _).alloc (Nat.le_refl _) _)⟩
      exact HY.out
  obtain ⟨k1, t1, n1, m1, a1, Q, ad, A1, c1, R1, rfl, hd, hR, hP⟩ := part_at hH (j := 0) (by omega)
  have hR0 : R1 = [] := by rw [hR]; exact List.eq_nil_of_length_eq_zero (by simp [inf_len]; omega)
  have hL : P.inf.all (·.ty) = (mk k1 t1 n1 m1 Q.inf).ty := by
    rw [show P.inf = P.inf.drop 0 by simp, hd, hR0]; simp
  have KT := Lib.hid (hP.good _ _ hall)
  have HX : Hid (∀ W, Below w.heap.size w W → At6 W ad k1 t1 n1 m1 a1 Q.len A1 c1) := Lib.hid (fun W hW => hP.cells W hW)
  rw [hL, h1] at hy
  rw [h1] at KN ⊢
  have HY := Lib.hid hy
  have h1c : 1 ≤ c := by omega
  clear hL hR0 hR hd hP h1 hlc hy hH hall
  unfold At6 at HX
  generalize idB t = b1 at *
  generalize (m == 0) = b2 at *
  generalize (mk k1 t1 n1 m1 Q.inf).ty = b3 at *
  generalize Q.len = q at *
  go_enter Try.func72, Try.ntmps72
  go_wp2_with (first
    | (go_at_call 41; refine (KN.out _).mono ?_; rintro e w1 ⟨rfl, hb⟩; have bx := Box.later (by first | assumption | exact Box.new _ _ _ _ _ _ _ _ _) hb; have bx2 := bx; obtain ⟨-, -, c0, c1, c2, c3, c4, c5⟩ := bx2; obtain ⟨f0, f1, f2, f3, f4, f5⟩ := HX.out _ (Box.below (by assumption)))
    | (go_at_call 12; refine (KT.out _ (by first | exact Box.below (by assumption) | exact (Below.refl _ _).alloc (Nat.le_refl _) _)).mono ?_; rintro e w1 ⟨rfl, hb⟩; have bx := Box.later (by first | assumption | exact Box.new _ _ _ _ _ _ _ _ _) hb; have bx2 := bx; obtain ⟨-, -, c0, c1, c2, c3, c4, c5⟩ := bx2))
  all_goals
    go_ret
    refine ⟨ret_bool ?_, (by first | exact Box.below (by assumption) | exact (Below.refl _ _).alloc (Nat.le_refl _) _)⟩
    rw [← HY.out]; first | rfl | (simp [*]; done) | (simp [*]; done) | (cases b1 <;> cases b2 <;> cases b3 <;> simp_all; done) | (cases b1 <;> cases b2 <;> cases b3 <;> simp_all <;> omega) | trace_state
set_option maxRecDepth 100000 in
set_option maxHeartbeats 2000000 in
theorem rField_any (P : Fo) (hall : AllC (FunP 12 (·.ty)) P) : FunP 73 (·.fld) P := by
  intro k t n m a A c w hH hlc hcc ht
  simp only [val6, cells6]
  have KN := Lib.hid (rnamed_any k t n m a P.len A c ht)
  unfold Flat at KN
  obtain ⟨y, hy⟩ : ∃ y, (mk k t n m P.inf).fld = y := ⟨_, rfl⟩
  rw [hy]
  unfold mk at hy
  simp only [fldB, flagsB, typesB, lenB] at hy
  rw [inf_len] at hy
  by_cases hk : k = 8
  case neg =>
    have tk : (k == 8) = false := beq_eq_false_iff_ne.2 hk
    have HY : Hid (false = y) := Lib.hid (by rw [← hy, tk]; rfl)
    clear hy hH hall hk hlc hcc
    go_enter Try.func73, Try.ntmps73
    go_wp2_with fail
    all_goals
      go_ret
      refine ⟨ret_bool ?_, (by first | exact Box.below (by assumption) | exact (Below.refl _ _).alloc (Nat.le_refl _) _)⟩
      exact HY.out
  subst hk
  by_cases h1 : P.len = 1
  case neg =>
    have t1 : (((P.len : Nat) : Int) == 1) = false := by simp; omega
    have HY : Hid (false = y) := Lib.hid (by rw [← hy]; simp [h1])
    clear hy hH hall h1 hlc hcc
    generalize P.len = x at *
    generalize idB t = b1 at *
    generalize (m == 0) = b2 at *
    go_enter Try.func73, Try.ntmps73
    go_wp2_with (first
      | (go_at_call 41; refine (KN.out _).mono ?_; rintro e w1 ⟨rfl, hb⟩; have bx := Box.later (by first | assumption | exact Box.new _ _ _ _ _ _ _ _ _) hb; have bx2 := bx; obtain ⟨-, -, c0, c1, c2, c3, c4, c5⟩ := bx2))
    all_goals
      go_ret
      refine ⟨ret_bool ?_, (by first | exact Box.below (by assumption) | exact (Below.refl _ _).alloc (Nat.le_refl _) _)⟩
      exact HY.out
  obtain ⟨k1, t1, n1, m1, a1, Q, ad, A1, c1, R1, rfl, hd, hR, hP⟩ := part_at hH (j := 0) (by omega)
  have hR0 : R1 = [] := by rw [hR]; exact List.eq_nil_of_length_eq_zero (by simp [inf_len]; omega)
  have hL : P.inf.all (·.ty) = (mk k1 t1 n1 m1 Q.inf).ty := by
    rw [show P.inf = P.inf.drop 0 by simp, hd, hR0]; simp
  have KT := Lib.hid (hP.good _ _ hall)
  have HX : Hid (∀ W, Below w.heap.size w W → At6 W ad k1 t1 n1 m1 a1 Q.len A1 c1) := Lib.hid (fun W hW => hP.cells W hW)
  rw [hL, h1] at hy
  rw [h1] at KN ⊢
  have HY := Lib.hid hy
  have h1c : 1 ≤ c := by omega
  clear hL hR0 hR hd hP h1 hlc hy hH hall
  unfold At6 at HX
  generalize idB t = b1 at *
  generalize (m == 0) = b2 at *
  generalize (mk k1 t1 n1 m1 Q.inf).ty = b3 at *
  generalize Q.len = q at *
  go_enter Try.func73, Try.ntmps73
  go_wp2_with (first
    | (go_at_call 41; refine (KN.out _).mono ?_; rintro e w1 ⟨rfl, hb⟩; have bx := Box.later (by first | assumption | exact Box.new _ _ _ _ _ _ _ _ _) hb; have bx2 := bx; obtain ⟨-, -, c0, c1, c2, c3, c4, c5⟩ := bx2; obtain ⟨f0, f1, f2, f3, f4, f5⟩ := HX.out _ (Box.below (by assumption)))
    | (go_at_call 12; refine (KT.out _ (by first | exact Box.below (by assumption) | exact (Below.refl _ _).alloc (Nat.le_refl _) _)).mono ?_; rintro e w1 ⟨rfl, hb⟩; have bx := Box.later (by first | assumption | exact Box.new _ _ _ _ _ _ _ _ _) hb; have bx2 := bx; obtain ⟨-, -, c0, c1, c2, c3, c4, c5⟩ := bx2))
  all_goals
    go_ret
    refine ⟨ret_bool ?_, (by first | exact Box.below (by assumption) | exact (Below.refl _ _).alloc (Nat.le_refl _) _)⟩
    rw [← HY.out]; first | rfl | (simp [*]; done) | (simp [*]; done) | (cases b1 <;> cases b2 <;> cases b3 <;> simp_all; done) | (cases b1 <;> cases b2 <;> cases b3 <;> simp_all <;> omega) | trace_state
end Go.Proofs.Ytogoolpgajopcaa
