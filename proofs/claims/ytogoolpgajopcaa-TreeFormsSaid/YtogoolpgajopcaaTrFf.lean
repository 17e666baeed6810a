import Derived.Test.YtogoolpgajopcaaTrFe
namespace Go.Proofs.Ytogoolpgajopcaa
open Go.RowKit
theorem drop_last {P : Fo} {x : Nat} {i : Inf} {R : List Inf} (hd : P.inf.drop x = i :: R) (hR : R = P.inf.drop (x + 1)) (hx : P.len = x + 1) : P.inf.drop x = [i] := by
  rw [hd, hR]
  congr 1
  exact List.eq_nil_of_length_eq_zero (by simp [inf_len]; omega)
set_option maxRecDepth 100000 in
set_option maxHeartbeats 2000000 in
theorem routine_true (P : Fo) (hallb : AllC (FunP 57 (·.blk)) P) (k : Int) (t : ByteArray) (n m a : Int) (l0 : Nat) (A0 : Option Addr) (c0 : Nat) (A : Option Addr) (c : Nat) (w : World) (hH : Holds w w.heap.size P A 0) (hlc : P.len ≤ c) (hcc : c ≤ 1000000000000000) :
    Calls Try.prog 47 #[.agg #[.int .i64 k, .string t, .int .i64 n, .int .i64 m, .int .i64 a, .slice A0 l0 c0], .slice A P.len c, .bool true] w fun e w' => e = .returned (.bool (routB n P.inf true)) ∧ Below w.heap.size w w' := by
  have hallp : AllC (FunP 35 (·.par)) P := AllC.of (fun Q => (type_prog Q).2.1) P
  have hallT : AllC (FunP 11 (·.ty)) P := AllC.of (fun Q => (type_prog Q).1) P
  obtain ⟨y, hy⟩ : ∃ y, routB n P.inf true = y := ⟨_, rfl⟩
  rw [hy]
  unfold routB at hy
  simp only [inf_len, if_true, Bool.not_true, Bool.false_or] at hy
  by_cases h2 : P.len < 2
  · have HY : Hid (false = y) := Lib.hid (by rw [← hy, decide_eq_false (by omega)]; rfl)
    clear hy hH hallp hallT hallb hlc
    generalize P.len = x at *
    go_enter Try.func47, Try.ntmps47
    go_wp2_with fail
    all_goals
      go_ret
      refine ⟨ret_bool ?_, (by first | exact Box.below (by assumption) | exact (Below.refl _ _).alloc (Nat.le_refl _) _)⟩
      exact HY.out
  obtain ⟨x, hx⟩ : ∃ x, P.len = x + 2 := ⟨P.len - 2, by omega⟩
  rw [hx] at hy
  simp only [Nat.add_sub_cancel, show 2 ≤ x + 2 from by omega, decide_true, Bool.true_and] at hy
  have hxc : x + 2 ≤ c := by omega
  by_cases hn : n = (x : Int)
  case neg =>
    have HY : Hid (false = y) := Lib.hid (by rw [← hy, decide_eq_false hn]; rfl)
    have tn : (n != (x : Int)) = true := by simpa using hn
    rw [hx]
    clear hy hH hallp hallT hallb hlc hn h2 hx
    go_enter Try.func47, Try.ntmps47
    go_wp2_with fail
    all_goals
      go_ret
      refine ⟨ret_bool ?_, (by first | exact Box.below (by assumption) | exact (Below.refl _ _).alloc (Nat.le_refl _) _)⟩
      exact HY.out
  subst hn
  obtain ⟨k1, t1, n1, m1, a1, Q1, ad, A1, d1, R1, rfl, hd1, hR1, hP1⟩ := part_at hH (j := x) (by omega)
  obtain ⟨k2, t2, n2, m2, a2, Q2, ad2, A2, d2, R2, had, hd2, hR2, hP2⟩ := part_at hH (j := x + 1) (by omega)
  cases had
  have e2 := drop_last hd2 hR2 (by omega)
  have e1 : (P.inf.drop x).take 1 = [mk k1 t1 n1 m1 Q1.inf] := by rw [hd1]; rfl
  rw [e1, e2] at hy
  have KL2 := Lib.hid (hP2.good _ _ hallb)
  have FX2 := Lib.hid (fun W hW => hP2.cells W hW)
  have KA := Lib.hid (fun W (hW : Below w.heap.size w W) => all_param (·.par) (P.take x) (hallp.take x) (some ad) c W (((hH.take x).below hW).more hW.size) (by rw [take_len P x (by omega)]; omega))
  rw [take_len P x (by omega), take_inf] at KA
  have KL1 := Lib.hid (hP1.good _ _ hallT)
  have FX1 := Lib.hid (fun W hW => hP1.cells W hW)
  rw [hx]
  unfold At6 at FX1 FX2
  clear e2 e1 hH hallp hallT hallb hd2 hR2 hP2 hlc h2 hx hd1 hR1 hP1
  simp only [List.all_cons, List.all_nil, Bool.and_true, decide_true, Bool.true_and] at hy
  generalize (P.inf.take x).all (·.par) = b5 at *
  generalize (mk k1 t1 n1 m1 Q1.inf).ty = b6 at *
  generalize Q1.len = x1 at *
  generalize (mk k2 t2 n2 m2 Q2.inf).blk = b7 at *
  generalize Q2.len = x2 at *
  have HY := Lib.hid hy
  clear hy
  go_enter Try.func47, Try.ntmps47
  go_wp2_with (first
    | (go_at_call 34; refine (KA.out _ (by first | exact Box.below (by assumption) | exact (Below.refl _ _).alloc (Nat.le_refl _) _)).mono ?_; rintro e w1 ⟨rfl, hb⟩; have bx := Box.later (by first | assumption | exact Box.new _ _ _ _ _ _ _ _ _) hb; have bx2 := bx; obtain ⟨-, -, c0, c1, c2, c3, c4, c5⟩ := bx2; obtain ⟨f0, f1, f2, f3, f4, f5⟩ := FX1.out _ (Box.below (by assumption)))
    | (go_at_call 11; refine (KL1.out _ (by first | exact Box.below (by assumption) | exact (Below.refl _ _).alloc (Nat.le_refl _) _)).mono ?_; rintro e w1 ⟨rfl, hb⟩; have bx := Box.later (by first | assumption | exact Box.new _ _ _ _ _ _ _ _ _) hb; have bx2 := bx; obtain ⟨-, -, c0, c1, c2, c3, c4, c5⟩ := bx2; obtain ⟨g0, g1, g2, g3, g4, g5⟩ := FX2.out _ (Box.below (by assumption)))
    | (go_at_call 57; refine (KL2.out _ (by first | exact Box.below (by assumption) | exact (Below.refl _ _).alloc (Nat.le_refl _) _)).mono ?_; rintro e w1 ⟨rfl, hb⟩; have bx := Box.later (by first | assumption | exact Box.new _ _ _ _ _ _ _ _ _) hb; have bx2 := bx; obtain ⟨-, -, c0, c1, c2, c3, c4, c5⟩ := bx2))
  all_goals
    go_ret
    refine ⟨ret_bool ?_, (by first | exact Box.below (by assumption) | exact (Below.refl _ _).alloc (Nat.le_refl _) _)⟩
    rw [← HY.out]; first | rfl | exact beq0 _ | (simp [*]; done) | (simp [*]; done) | (simp [*]; omega) | (simp_all; done)
set_option maxRecDepth 100000 in
set_option maxHeartbeats 2000000 in
theorem routine_false (P : Fo) (k : Int) (t : ByteArray) (n m a : Int) (l0 : Nat) (A0 : Option Addr) (c0 : Nat) (A : Option Addr) (c : Nat) (w : World) (hH : Holds w w.heap.size P A 0) (hlc : P.len ≤ c) (hcc : c ≤ 1000000000000000) :
    Calls Try.prog 47 #[.agg #[.int .i64 k, .string t, .int .i64 n, .int .i64 m, .int .i64 a, .slice A0 l0 c0], .slice A P.len c, .bool false] w fun e w' => e = .returned (.bool (routB n P.inf false)) ∧ Below w.heap.size w w' := by
  have hallp : AllC (FunP 35 (·.par)) P := AllC.of (fun Q => (type_prog Q).2.1) P
  have hallT : AllC (FunP 11 (·.ty)) P := AllC.of (fun Q => (type_prog Q).1) P
  obtain ⟨y, hy⟩ : ∃ y, routB n P.inf false = y := ⟨_, rfl⟩
  rw [hy]
  unfold routB at hy
  simp only [inf_len, Bool.false_eq_true, if_false, Bool.not_false, Bool.true_or, Bool.and_true] at hy
  by_cases h2 : P.len < 1
  · have HY : Hid (false = y) := Lib.hid (by rw [← hy, decide_eq_false (by omega)]; rfl)
    clear hy hH hallp hallT hlc
    generalize P.len = x at *
    go_enter Try.func47, Try.ntmps47
    go_wp2_with fail
    all_goals
      go_ret
      refine ⟨ret_bool ?_, (by first | exact Box.below (by assumption) | exact (Below.refl _ _).alloc (Nat.le_refl _) _)⟩
      exact HY.out
  obtain ⟨x, hx⟩ : ∃ x, P.len = x + 1 := ⟨P.len - 1, by omega⟩
  rw [hx] at hy
  simp only [Nat.add_sub_cancel, show 1 ≤ x + 1 from by omega, decide_true, Bool.true_and] at hy
  have hxc : x + 1 ≤ c := by omega
  by_cases hn : n = (x : Int)
  case neg =>
    have HY : Hid (false = y) := Lib.hid (by rw [← hy, decide_eq_false hn]; rfl)
    have tn : (n != (x : Int)) = true := by simpa using hn
    rw [hx]
    clear hy hH hallp hallT hlc hn h2 hx
    go_enter Try.func47, Try.ntmps47
    go_wp2_with fail
    all_goals
      go_ret
      refine ⟨ret_bool ?_, (by first | exact Box.below (by assumption) | exact (Below.refl _ _).alloc (Nat.le_refl _) _)⟩
      exact HY.out
  subst hn
  obtain ⟨k1, t1, n1, m1, a1, Q1, ad, A1, d1, R1, rfl, hd1, hR1, hP1⟩ := part_at hH (j := x) (by omega)
  have e1 : (P.inf.drop x).take 1 = [mk k1 t1 n1 m1 Q1.inf] := by rw [hd1]; rfl
  rw [e1] at hy
  have KA := Lib.hid (fun W (hW : Below w.heap.size w W) => all_param (·.par) (P.take x) (hallp.take x) (some ad) c W (((hH.take x).below hW).more hW.size) (by rw [take_len P x (by omega)]; omega))
  rw [take_len P x (by omega), take_inf] at KA
  have KL1 := Lib.hid (hP1.good _ _ hallT)
  have FX1 := Lib.hid (fun W hW => hP1.cells W hW)
  rw [hx]
  unfold At6 at FX1
  clear e1 hH hallp hallT hlc h2 hx hd1 hR1 hP1
  simp only [List.all_cons, List.all_nil, Bool.and_true, decide_true, Bool.true_and] at hy
  generalize (P.inf.take x).all (·.par) = b5 at *
  generalize (mk k1 t1 n1 m1 Q1.inf).ty = b6 at *
  generalize Q1.len = x1 at *


  have HY := Lib.hid hy
  clear hy
  go_enter Try.func47, Try.ntmps47
  go_wp2_with (first
    | (go_at_call 34; refine (KA.out _ (by first | exact Box.below (by assumption) | exact (Below.refl _ _).alloc (Nat.le_refl _) _)).mono ?_; rintro e w1 ⟨rfl, hb⟩; have bx := Box.later (by first | assumption | exact Box.new _ _ _ _ _ _ _ _ _) hb; have bx2 := bx; obtain ⟨-, -, c0, c1, c2, c3, c4, c5⟩ := bx2; obtain ⟨f0, f1, f2, f3, f4, f5⟩ := FX1.out _ (Box.below (by assumption)))
    | (go_at_call 11; refine (KL1.out _ (by first | exact Box.below (by assumption) | exact (Below.refl _ _).alloc (Nat.le_refl _) _)).mono ?_; rintro e w1 ⟨rfl, hb⟩; have bx := Box.later (by first | assumption | exact Box.new _ _ _ _ _ _ _ _ _) hb; have bx2 := bx; obtain ⟨-, -, c0, c1, c2, c3, c4, c5⟩ := bx2))
  all_goals
    go_ret
    refine ⟨ret_bool ?_, (by first | exact Box.below (by assumption) | exact (Below.refl _ _).alloc (Nat.le_refl _) _)⟩
    rw [← HY.out]; first | rfl | exact beq0 _ | (simp [*]; done) | (simp [*]; done) | (simp [*]; omega) | (simp_all; done)
theorem routine_any (P : Fo) (hallb : AllC (FunP 57 (·.blk)) P) (k : Int) (t : ByteArray) (n m a : Int) (l0 : Nat) (A0 : Option Addr) (c0 : Nat) (b : Bool) (A : Option Addr) (c : Nat) (w : World) (hH : Holds w w.heap.size P A 0) (hlc : P.len ≤ c) (hcc : c ≤ 1000000000000000) :
    Calls Try.prog 47 #[.agg #[.int .i64 k, .string t, .int .i64 n, .int .i64 m, .int .i64 a, .slice A0 l0 c0], .slice A P.len c, .bool b] w fun e w' => e = .returned (.bool (routB n P.inf b)) ∧ Below w.heap.size w w' := by
  cases b with
  | true => exact routine_true P hallb k t n m a l0 A0 c0 A c w hH hlc hcc
  | false => exact routine_false P k t n m a l0 A0 c0 A c w hH hlc hcc
set_option maxRecDepth 100000 in
set_option maxHeartbeats 2000000 in
theorem block_any (P : Fo) (halls : AllC (FunP 15 (·.st)) P) : FunP 57 (·.blk) P := by
  intro k t n m a A c w hH hlc hcc ht
  have hl : P.len ≤ 1000000000000000 := by omega
  simp only [val6, cells6]
  obtain ⟨y, hy⟩ : ∃ y, (mk k t n m P.inf).blk = y := ⟨_, rfl⟩
  rw [hy]
  rw [show (mk k t n m P.inf).blk = ((k == 59) && (bareB t n m && P.inf.all (·.st))) from rfl] at hy
  by_cases hk : k = 59
  · subst hk
    have KB := Lib.hid (bare_any 59 t n m a P.len A c)
    have KAs := Lib.hid (fun W (hW : Below w.heap.size w W) => all_Stat (·.st) P halls A c W ((hH.below hW).more hW.size) hl)
    unfold Flat at KB
    generalize bareB t n m = b3 at *
    generalize P.inf.all (·.st) = b5 at *
    clear hlc halls hH
    generalize P.len = x at *
    have HY := Lib.hid hy
    clear hy
    go_enter Try.func57, Try.ntmps57
    go_wp2_with (first
      | (go_at_call 32; refine (KB.out _).mono ?_; rintro e w1 ⟨rfl, hb⟩; have bx := Box.later (by first | assumption | exact Box.new _ _ _ _ _ _ _ _ _) hb; have bx2 := bx; obtain ⟨-, -, c0, c1, c2, c3, c4, c5⟩ := bx2)
      | (go_at_call 34; refine (KAs.out _ (by first | exact Box.below (by assumption) | exact (Below.refl _ _).alloc (Nat.le_refl _) _)).mono ?_; rintro e w1 ⟨rfl, hb⟩; have bx := Box.later (by first | assumption | exact Box.new _ _ _ _ _ _ _ _ _) hb; have bx2 := bx; obtain ⟨-, -, c0, c1, c2, c3, c4, c5⟩ := bx2))
    all_goals
      go_ret
      refine ⟨ret_bool ?_, (by first | exact Box.below (by assumption) | exact (Below.refl _ _).alloc (Nat.le_refl _) _)⟩
      rw [← HY.out]; first | rfl | exact beq0 _ | (simp [*]; done) | (simp [*, beq0]; done) | (simp [*]; omega) | (simp_all; done)
  · have tk : (k == 59) = false := beq_eq_false_iff_ne.2 hk
    have HY : Hid (false = y) := Lib.hid (by rw [← hy, tk]; rfl)
    clear hy hH halls hk hlc hcc
    go_enter Try.func57, Try.ntmps57
    go_wp2_with fail
    all_goals
      go_ret
      refine ⟨ret_bool ?_, (by first | exact Box.below (by assumption) | exact (Below.refl _ _).alloc (Nat.le_refl _) _)⟩
      exact HY.out
end Go.Proofs.Ytogoolpgajopcaa
