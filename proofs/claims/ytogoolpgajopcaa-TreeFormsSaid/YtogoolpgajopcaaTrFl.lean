import Derived.Test.YtogoolpgajopcaaTrFk
namespace Go.Proofs.Ytogoolpgajopcaa
open Go.RowKit
set_option maxRecDepth 100000 in
set_option maxHeartbeats 2000000 in
theorem rexpr_27 (P : Fo) (hallx : AllC (fun Q => AllC (FunP 14 (·.ex)) Q) P) (t : ByteArray) (n m a : Int) (A : Option Addr) (c : Nat) (w : World) (hH : Holds w w.heap.size P A 0) (hlc : P.len ≤ c) (hcc : c ≤ 1000000000000000) :
    Calls Try.prog 14 #[.agg #[.int .i64 27, .string t, .int .i64 n, .int .i64 m, .int .i64 a, .slice A P.len c]] w fun e w' => e = .returned (.bool (exprB 27 t n m P.inf)) ∧ Below w.heap.size w w' := by
  have hl : P.len ≤ 1000000000000000 := by omega
  obtain ⟨y, hy⟩ : ∃ y, exprB 27 t n m P.inf = y := ⟨_, rfl⟩
  rw [hy]
  rw [show exprB 27 t n m P.inf = (bareB t n m && P.inf.all (·.efl)) from rfl] at hy
  have KP := Lib.hid (rplain_any 27 t n m a P.len A c)
  have KO := Lib.hid (fun W (hW : Below w.heap.size w W) => robjects_any P hallx A c W ((hH.below hW).more hW.size) hl)
  unfold Flat at KP
  generalize bareB t n m = b3 at *
  generalize P.inf.all (·.efl) = b5 at *
  clear hlc hallx hH
  generalize P.len = x at *
  have HY := Lib.hid hy
  clear hy
  go_enter Try.func14, Try.ntmps14
  go_wp2_with (first
    | (go_at_call 42; refine (KP.out _).mono ?_; rintro e w1 ⟨rfl, hb⟩; have bx := Box.later (by first | assumption | exact Box.new _ _ _ _ _ _ _ _ _) hb; have bx2 := bx; obtain ⟨-, -, c0, c1, c2, c3, c4, c5⟩ := bx2)
    | (go_at_call 49; refine (KO.out _ (by first | exact Box.below (by assumption) | exact (Below.refl _ _).alloc (Nat.le_refl _) _)).mono ?_; rintro e w1 ⟨rfl, hb⟩; have bx := Box.later (by first | assumption | exact Box.new _ _ _ _ _ _ _ _ _) hb; have bx2 := bx; obtain ⟨-, -, c0, c1, c2, c3, c4, c5⟩ := bx2))
  all_goals
    go_ret
    refine ⟨ret_bool ?_, (by first | exact Box.below (by assumption) | exact (Below.refl _ _).alloc (Nat.le_refl _) _)⟩
    first | exact HY.out | (rw [← HY.out]; first | rfl | exact beq0 _ | (simp [*]; done) | (simp [*]; omega) | (simp_all; done) | (simp_all; omega))
set_option maxRecDepth 100000 in
set_option maxHeartbeats 2000000 in
theorem rexpr_29 (P : Fo) (hall : AllC (FunP 14 (·.ex)) P) (t : ByteArray) (n m a : Int) (A : Option Addr) (c : Nat) (w : World) (hH : Holds w w.heap.size P A 0) (hlc : P.len ≤ c) (hcc : c ≤ 1000000000000000) :
    Calls Try.prog 14 #[.agg #[.int .i64 29, .string t, .int .i64 n, .int .i64 m, .int .i64 a, .slice A P.len c]] w fun e w' => e = .returned (.bool (exprB 29 t n m P.inf)) ∧ Below w.heap.size w w' := by
  have hl : P.len ≤ 1000000000000000 := by omega
  obtain ⟨y, hy⟩ : ∃ y, exprB 29 t n m P.inf = y := ⟨_, rfl⟩
  rw [hy]
  rw [show exprB 29 t n m P.inf = (bareB t n m && P.inf.all (·.ex)) from rfl] at hy
  have KP := Lib.hid (rplain_any 29 t n m a P.len A c)
  have KX := Lib.hid (fun W (hW : Below w.heap.size w W) => rExprs_any P hall A c W ((hH.below hW).more hW.size) hl)
  unfold Flat at KP
  generalize bareB t n m = b3 at *
  generalize P.inf.all (·.ex) = b5 at *
  clear hlc hall hH
  generalize P.len = x at *
  have HY := Lib.hid hy
  clear hy
  go_enter Try.func14, Try.ntmps14
  go_wp2_with (first
    | (go_at_call 42; refine (KP.out _).mono ?_; rintro e w1 ⟨rfl, hb⟩; have bx := Box.later (by first | assumption | exact Box.new _ _ _ _ _ _ _ _ _) hb; have bx2 := bx; obtain ⟨-, -, c0, c1, c2, c3, c4, c5⟩ := bx2)
    | (go_at_call 50; refine (KX.out _ (by first | exact Box.below (by assumption) | exact (Below.refl _ _).alloc (Nat.le_refl _) _)).mono ?_; rintro e w1 ⟨rfl, hb⟩; have bx := Box.later (by first | assumption | exact Box.new _ _ _ _ _ _ _ _ _) hb; have bx2 := bx; obtain ⟨-, -, c0, c1, c2, c3, c4, c5⟩ := bx2))
  all_goals
    go_ret
    refine ⟨ret_bool ?_, (by first | exact Box.below (by assumption) | exact (Below.refl _ _).alloc (Nat.le_refl _) _)⟩
    first | exact HY.out | (rw [← HY.out]; first | rfl | exact beq0 _ | (simp [*]; done) | (simp [*]; omega) | (simp_all; done) | (simp_all; omega))
set_option maxRecDepth 100000 in
set_option maxHeartbeats 2000000 in
theorem rexpr_30 (P : Fo) (hall : AllC (FunP 14 (·.ex)) P) (t : ByteArray) (n m a : Int) (A : Option Addr) (c : Nat) (w : World) (hH : Holds w w.heap.size P A 0) (hlc : P.len ≤ c) (hcc : c ≤ 1000000000000000) (ht : t.size ≤ 1000000000000000) :
    Calls Try.prog 14 #[.agg #[.int .i64 30, .string t, .int .i64 n, .int .i64 m, .int .i64 a, .slice A P.len c]] w fun e w' => e = .returned (.bool (exprB 30 t n m P.inf)) ∧ Below w.heap.size w w' := by
  have hl : P.len ≤ 1000000000000000 := by omega
  obtain ⟨y, hy⟩ : ∃ y, exprB 30 t n m P.inf = y := ⟨_, rfl⟩
  rw [hy]
  rw [show exprB 30 t n m P.inf = (idB t && (plainB n m && exprsB P.inf 1)) from rfl] at hy
  simp only [plainB, exprsB, lenB] at hy
  rw [inf_len] at hy
  have KN := Lib.hid (rnamed_any 30 t n m a P.len A c ht)
  have KX := Lib.hid (fun W (hW : Below w.heap.size w W) => rExprs_any P hall A c W ((hH.below hW).more hW.size) hl)
  unfold Flat at KN
  generalize P.inf.all (·.ex) = b5 at *
  generalize idB t = b1 at *
  clear hlc hall hH
  generalize P.len = x at *
  by_cases hx : x = 1
  · subst hx
    have HY := Lib.hid hy
    clear hy
    go_enter Try.func14, Try.ntmps14
    go_wp2_with (first
      | (go_at_call 41; refine (KN.out _).mono ?_; rintro e w1 ⟨rfl, hb⟩; have bx := Box.later (by first | assumption | exact Box.new _ _ _ _ _ _ _ _ _) hb; have bx2 := bx; obtain ⟨-, -, c0, c1, c2, c3, c4, c5⟩ := bx2)
      | (go_at_call 50; refine (KX.out _ (by first | exact Box.below (by assumption) | exact (Below.refl _ _).alloc (Nat.le_refl _) _)).mono ?_; rintro e w1 ⟨rfl, hb⟩; have bx := Box.later (by first | assumption | exact Box.new _ _ _ _ _ _ _ _ _) hb; have bx2 := bx; obtain ⟨-, -, c0, c1, c2, c3, c4, c5⟩ := bx2))
    all_goals
      go_ret
      refine ⟨ret_bool ?_, (by first | exact Box.below (by assumption) | exact (Below.refl _ _).alloc (Nat.le_refl _) _)⟩
      first | exact HY.out | (rw [← HY.out]; first | rfl | exact beq0 _ | (simp [*]; done) | (simp [*]; omega) | (simp_all; done) | (simp_all; omega))
  · have tx : (((x : Nat) : Int) == 1) = false := by simp; omega
    have HY : Hid (false = y) := Lib.hid (by rw [← hy]; simp [hx])
    clear hy
    go_enter Try.func14, Try.ntmps14
    go_wp2_with (first
      | (go_at_call 41; refine (KN.out _).mono ?_; rintro e w1 ⟨rfl, hb⟩; have bx := Box.later (by first | assumption | exact Box.new _ _ _ _ _ _ _ _ _) hb; have bx2 := bx; obtain ⟨-, -, c0, c1, c2, c3, c4, c5⟩ := bx2)
      | (go_at_call 50; refine (KX.out _ (by first | exact Box.below (by assumption) | exact (Below.refl _ _).alloc (Nat.le_refl _) _)).mono ?_; rintro e w1 ⟨rfl, hb⟩; have bx := Box.later (by first | assumption | exact Box.new _ _ _ _ _ _ _ _ _) hb; have bx2 := bx; obtain ⟨-, -, c0, c1, c2, c3, c4, c5⟩ := bx2))
    all_goals
      go_ret
      refine ⟨ret_bool ?_, (by first | exact Box.below (by assumption) | exact (Below.refl _ _).alloc (Nat.le_refl _) _)⟩
      first | exact HY.out | (rw [← HY.out]; first | rfl | exact beq0 _ | (simp [*]; done) | (simp [*]; omega) | (simp_all; done) | (simp_all; omega))
set_option maxRecDepth 100000 in
set_option maxHeartbeats 2000000 in
theorem rexpr_31 (P : Fo) (hall : AllC (FunP 14 (·.ex)) P) (t : ByteArray) (n m a : Int) (A : Option Addr) (c : Nat) (w : World) (hH : Holds w w.heap.size P A 0) (hlc : P.len ≤ c) (hcc : c ≤ 1000000000000000) :
    Calls Try.prog 14 #[.agg #[.int .i64 31, .string t, .int .i64 n, .int .i64 m, .int .i64 a, .slice A P.len c]] w fun e w' => e = .returned (.bool (exprB 31 t n m P.inf)) ∧ Below w.heap.size w w' := by
  have hl : P.len ≤ 1000000000000000 := by omega
  obtain ⟨y, hy⟩ : ∃ y, exprB 31 t n m P.inf = y := ⟨_, rfl⟩
  rw [hy]
  rw [show exprB 31 t n m P.inf = (bareB t n m && exprsB P.inf 2) from rfl] at hy
  simp only [exprsB, lenB] at hy
  rw [inf_len] at hy
  have KP := Lib.hid (rplain_any 31 t n m a P.len A c)
  have KX := Lib.hid (fun W (hW : Below w.heap.size w W) => rExprs_any P hall A c W ((hH.below hW).more hW.size) hl)
  unfold Flat at KP
  generalize bareB t n m = b3 at *
  generalize P.inf.all (·.ex) = b5 at *
  clear hlc hall hH
  generalize P.len = x at *
  by_cases hx : x = 2
  · subst hx
    have HY := Lib.hid hy
    clear hy
    go_enter Try.func14, Try.ntmps14
    go_wp2_with (first
      | (go_at_call 42; refine (KP.out _).mono ?_; rintro e w1 ⟨rfl, hb⟩; have bx := Box.later (by first | assumption | exact Box.new _ _ _ _ _ _ _ _ _) hb; have bx2 := bx; obtain ⟨-, -, c0, c1, c2, c3, c4, c5⟩ := bx2)
      | (go_at_call 50; refine (KX.out _ (by first | exact Box.below (by assumption) | exact (Below.refl _ _).alloc (Nat.le_refl _) _)).mono ?_; rintro e w1 ⟨rfl, hb⟩; have bx := Box.later (by first | assumption | exact Box.new _ _ _ _ _ _ _ _ _) hb; have bx2 := bx; obtain ⟨-, -, c0, c1, c2, c3, c4, c5⟩ := bx2))
    all_goals
      go_ret
      refine ⟨ret_bool ?_, (by first | exact Box.below (by assumption) | exact (Below.refl _ _).alloc (Nat.le_refl _) _)⟩
      first | exact HY.out | (rw [← HY.out]; first | rfl | exact beq0 _ | (simp [*]; done) | (simp [*]; omega) | (simp_all; done) | (simp_all; omega))
  · have tx : (((x : Nat) : Int) == 2) = false := by simp; omega
    have HY : Hid (false = y) := Lib.hid (by rw [← hy]; simp [hx])
    clear hy
    go_enter Try.func14, Try.ntmps14
    go_wp2_with (first
      | (go_at_call 42; refine (KP.out _).mono ?_; rintro e w1 ⟨rfl, hb⟩; have bx := Box.later (by first | assumption | exact Box.new _ _ _ _ _ _ _ _ _) hb; have bx2 := bx; obtain ⟨-, -, c0, c1, c2, c3, c4, c5⟩ := bx2)
      | (go_at_call 50; refine (KX.out _ (by first | exact Box.below (by assumption) | exact (Below.refl _ _).alloc (Nat.le_refl _) _)).mono ?_; rintro e w1 ⟨rfl, hb⟩; have bx := Box.later (by first | assumption | exact Box.new _ _ _ _ _ _ _ _ _) hb; have bx2 := bx; obtain ⟨-, -, c0, c1, c2, c3, c4, c5⟩ := bx2))
    all_goals
      go_ret
      refine ⟨ret_bool ?_, (by first | exact Box.below (by assumption) | exact (Below.refl _ _).alloc (Nat.le_refl _) _)⟩
      first | exact HY.out | (rw [← HY.out]; first | rfl | exact beq0 _ | (simp [*]; done) | (simp [*]; omega) | (simp_all; done) | (simp_all; omega))
set_option maxRecDepth 100000 in
set_option maxHeartbeats 2000000 in
theorem rexpr_32 (P : Fo) (hall : AllC (FunP 14 (·.ex)) P) (t : ByteArray) (n m a : Int) (A : Option Addr) (c : Nat) (w : World) (hH : Holds w w.heap.size P A 0) (hlc : P.len ≤ c) (hcc : c ≤ 1000000000000000) :
    Calls Try.prog 14 #[.agg #[.int .i64 32, .string t, .int .i64 n, .int .i64 m, .int .i64 a, .slice A P.len c]] w fun e w' => e = .returned (.bool (exprB 32 t n m P.inf)) ∧ Below w.heap.size w w' := by
  have hl : P.len ≤ 1000000000000000 := by omega
  obtain ⟨y, hy⟩ : ∃ y, exprB 32 t n m P.inf = y := ⟨_, rfl⟩
  rw [hy]
  rw [show exprB 32 t n m P.inf = (bareB t n m && (decide (1 ≤ P.inf.length) && P.inf.all (·.ex))) from rfl] at hy
  rw [inf_len] at hy
  have KP := Lib.hid (rplain_any 32 t n m a P.len A c)
  have KX := Lib.hid (fun W (hW : Below w.heap.size w W) => rExprs_any P hall A c W ((hH.below hW).more hW.size) hl)
  unfold Flat at KP
  generalize bareB t n m = b3 at *
  generalize P.inf.all (·.ex) = b5 at *
  clear hlc hall hH
  generalize P.len = x at *
  have HY := Lib.hid hy
  clear hy
  go_enter Try.func14, Try.ntmps14
  go_wp2_with (first
    | (go_at_call 42; refine (KP.out _).mono ?_; rintro e w1 ⟨rfl, hb⟩; have bx := Box.later (by first | assumption | exact Box.new _ _ _ _ _ _ _ _ _) hb; have bx2 := bx; obtain ⟨-, -, c0, c1, c2, c3, c4, c5⟩ := bx2)
    | (go_at_call 50; refine (KX.out _ (by first | exact Box.below (by assumption) | exact (Below.refl _ _).alloc (Nat.le_refl _) _)).mono ?_; rintro e w1 ⟨rfl, hb⟩; have bx := Box.later (by first | assumption | exact Box.new _ _ _ _ _ _ _ _ _) hb; have bx2 := bx; obtain ⟨-, -, c0, c1, c2, c3, c4, c5⟩ := bx2))
  all_goals
    go_ret
    refine ⟨ret_bool ?_, (by first | exact Box.below (by assumption) | exact (Below.refl _ _).alloc (Nat.le_refl _) _)⟩
    first | exact HY.out | (rw [← HY.out]; first | rfl | exact beq0 _ | (simp [*]; done) | (simp [*]; omega) | (simp_all; done) | (simp_all; omega))
set_option maxRecDepth 100000 in
set_option maxHeartbeats 2000000 in
theorem rexpr_33 (P : Fo) (hall : AllC (FunP 14 (·.ex)) P) (t : ByteArray) (n m a : Int) (A : Option Addr) (c : Nat) (w : World) (hH : Holds w w.heap.size P A 0) (hlc : P.len ≤ c) (hcc : c ≤ 1000000000000000) (ht : t.size ≤ 1000000000000000) :
    Calls Try.prog 14 #[.agg #[.int .i64 33, .string t, .int .i64 n, .int .i64 m, .int .i64 a, .slice A P.len c]] w fun e w' => e = .returned (.bool (exprB 33 t n m P.inf)) ∧ Below w.heap.size w w' := by
  have hl : P.len ≤ 1000000000000000 := by omega
  obtain ⟨y, hy⟩ : ∃ y, exprB 33 t n m P.inf = y := ⟨_, rfl⟩
  rw [hy]
  rw [show exprB 33 t n m P.inf = (idB t && (plainB n m && P.inf.all (·.ex))) from rfl] at hy
  simp only [plainB] at hy
  have KN := Lib.hid (rnamed_any 33 t n m a P.len A c ht)
  have KX := Lib.hid (fun W (hW : Below w.heap.size w W) => rExprs_any P hall A c W ((hH.below hW).more hW.size) hl)
  unfold Flat at KN
  generalize P.inf.all (·.ex) = b5 at *
  generalize idB t = b1 at *
  clear hlc hall hH
  generalize P.len = x at *
  have HY := Lib.hid hy
  clear hy
  go_enter Try.func14, Try.ntmps14
  go_wp2_with (first
    | (go_at_call 41; refine (KN.out _).mono ?_; rintro e w1 ⟨rfl, hb⟩; have bx := Box.later (by first | assumption | exact Box.new _ _ _ _ _ _ _ _ _) hb; have bx2 := bx; obtain ⟨-, -, c0, c1, c2, c3, c4, c5⟩ := bx2)
    | (go_at_call 50; refine (KX.out _ (by first | exact Box.below (by assumption) | exact (Below.refl _ _).alloc (Nat.le_refl _) _)).mono ?_; rintro e w1 ⟨rfl, hb⟩; have bx := Box.later (by first | assumption | exact Box.new _ _ _ _ _ _ _ _ _) hb; have bx2 := bx; obtain ⟨-, -, c0, c1, c2, c3, c4, c5⟩ := bx2))
  all_goals
    go_ret
    refine ⟨ret_bool ?_, (by first | exact Box.below (by assumption) | exact (Below.refl _ _).alloc (Nat.le_refl _) _)⟩
    first | exact HY.out | (rw [← HY.out]; first | rfl | exact beq0 _ | (simp [*]; done) | (simp [*]; omega) | (simp_all; done) | (simp_all; omega))
set_option maxRecDepth 100000 in
set_option maxHeartbeats 2000000 in
theorem rexpr_36 (P : Fo) (hall : AllC (FunP 14 (·.ex)) P) (t : ByteArray) (n m a : Int) (A : Option Addr) (c : Nat) (w : World) (hH : Holds w w.heap.size P A 0) (hlc : P.len ≤ c) (hcc : c ≤ 1000000000000000) :
    Calls Try.prog 14 #[.agg #[.int .i64 36, .string t, .int .i64 n, .int .i64 m, .int .i64 a, .slice A P.len c]] w fun e w' => e = .returned (.bool (exprB 36 t n m P.inf)) ∧ Below w.heap.size w w' := by
  have hl : P.len ≤ 1000000000000000 := by omega
  obtain ⟨y, hy⟩ : ∃ y, exprB 36 t n m P.inf = y := ⟨_, rfl⟩
  rw [hy]
  rw [show exprB 36 t n m P.inf = (binB t && (plainB n m && exprsB P.inf 2)) from rfl] at hy
  simp only [plainB, exprsB, lenB] at hy
  rw [inf_len] at hy
  have KS := Lib.hid (fun W => rbin_any t W)
  have KX := Lib.hid (fun W (hW : Below w.heap.size w W) => rExprs_any P hall A c W ((hH.below hW).more hW.size) hl)
  generalize binB t = b7 at *
  generalize P.inf.all (·.ex) = b5 at *
  clear hlc hall hH
  generalize P.len = x at *
  by_cases hx : x = 2
  · subst hx
    have HY := Lib.hid hy
    clear hy
    go_enter Try.func14, Try.ntmps14
    go_wp2_with (first
      | (go_at_call 52; refine (KS.out _).mono ?_; rintro e w1 ⟨rfl, hb⟩; have bx := Box.later (by first | assumption | exact Box.new _ _ _ _ _ _ _ _ _) hb; have bx2 := bx; obtain ⟨-, -, c0, c1, c2, c3, c4, c5⟩ := bx2)
      | (go_at_call 50; refine (KX.out _ (by first | exact Box.below (by assumption) | exact (Below.refl _ _).alloc (Nat.le_refl _) _)).mono ?_; rintro e w1 ⟨rfl, hb⟩; have bx := Box.later (by first | assumption | exact Box.new _ _ _ _ _ _ _ _ _) hb; have bx2 := bx; obtain ⟨-, -, c0, c1, c2, c3, c4, c5⟩ := bx2))
    all_goals
      go_ret
      refine ⟨ret_bool ?_, (by first | exact Box.below (by assumption) | exact (Below.refl _ _).alloc (Nat.le_refl _) _)⟩
      first | exact HY.out | (rw [← HY.out]; first | rfl | exact beq0 _ | (simp [*]; done) | (simp [*]; omega) | (simp_all; done) | (simp_all; omega))
  · have tx : (((x : Nat) : Int) == 2) = false := by simp; omega
    have HY : Hid (false = y) := Lib.hid (by rw [← hy]; simp [hx])
    clear hy
    go_enter Try.func14, Try.ntmps14
    go_wp2_with (first
      | (go_at_call 52; refine (KS.out _).mono ?_; rintro e w1 ⟨rfl, hb⟩; have bx := Box.later (by first | assumption | exact Box.new _ _ _ _ _ _ _ _ _) hb; have bx2 := bx; obtain ⟨-, -, c0, c1, c2, c3, c4, c5⟩ := bx2)
      | (go_at_call 50; refine (KX.out _ (by first | exact Box.below (by assumption) | exact (Below.refl _ _).alloc (Nat.le_refl _) _)).mono ?_; rintro e w1 ⟨rfl, hb⟩; have bx := Box.later (by first | assumption | exact Box.new _ _ _ _ _ _ _ _ _) hb; have bx2 := bx; obtain ⟨-, -, c0, c1, c2, c3, c4, c5⟩ := bx2))
    all_goals
      go_ret
      refine ⟨ret_bool ?_, (by first | exact Box.below (by assumption) | exact (Below.refl _ _).alloc (Nat.le_refl _) _)⟩
      first | exact HY.out | (rw [← HY.out]; first | rfl | exact beq0 _ | (simp [*]; done) | (simp [*]; omega) | (simp_all; done) | (simp_all; omega))
set_option maxRecDepth 100000 in
set_option maxHeartbeats 2000000 in
theorem rexpr_37 (P : Fo) (hall : AllC (FunP 14 (·.ex)) P) (t : ByteArray) (n m a : Int) (A : Option Addr) (c : Nat) (w : World) (hH : Holds w w.heap.size P A 0) (hlc : P.len ≤ c) (hcc : c ≤ 1000000000000000) :
    Calls Try.prog 14 #[.agg #[.int .i64 37, .string t, .int .i64 n, .int .i64 m, .int .i64 a, .slice A P.len c]] w fun e w' => e = .returned (.bool (exprB 37 t n m P.inf)) ∧ Below w.heap.size w w' := by
  have hl : P.len ≤ 1000000000000000 := by omega
  obtain ⟨y, hy⟩ : ∃ y, exprB 37 t n m P.inf = y := ⟨_, rfl⟩
  rw [hy]
  rw [show exprB 37 t n m P.inf = (bareB t n m && exprsB P.inf 3) from rfl] at hy
  simp only [exprsB, lenB] at hy
  rw [inf_len] at hy
  have KP := Lib.hid (rplain_any 37 t n m a P.len A c)
  have KX := Lib.hid (fun W (hW : Below w.heap.size w W) => rExprs_any P hall A c W ((hH.below hW).more hW.size) hl)
  unfold Flat at KP
  generalize bareB t n m = b3 at *
  generalize P.inf.all (·.ex) = b5 at *
  clear hlc hall hH
  generalize P.len = x at *
  by_cases hx : x = 3
  · subst hx
    have HY := Lib.hid hy
    clear hy
    go_enter Try.func14, Try.ntmps14
    go_wp2_with (first
      | (go_at_call 42; refine (KP.out _).mono ?_; rintro e w1 ⟨rfl, hb⟩; have bx := Box.later (by first | assumption | exact Box.new _ _ _ _ _ _ _ _ _) hb; have bx2 := bx; obtain ⟨-, -, c0, c1, c2, c3, c4, c5⟩ := bx2)
      | (go_at_call 50; refine (KX.out _ (by first | exact Box.below (by assumption) | exact (Below.refl _ _).alloc (Nat.le_refl _) _)).mono ?_; rintro e w1 ⟨rfl, hb⟩; have bx := Box.later (by first | assumption | exact Box.new _ _ _ _ _ _ _ _ _) hb; have bx2 := bx; obtain ⟨-, -, c0, c1, c2, c3, c4, c5⟩ := bx2))
    all_goals
      go_ret
      refine ⟨ret_bool ?_, (by first | exact Box.below (by assumption) | exact (Below.refl _ _).alloc (Nat.le_refl _) _)⟩
      first | exact HY.out | (rw [← HY.out]; first | rfl | exact beq0 _ | (simp [*]; done) | (simp [*]; omega) | (simp_all; done) | (simp_all; omega))
  · have tx : (((x : Nat) : Int) == 3) = false := by simp; omega
    have HY : Hid (false = y) := Lib.hid (by rw [← hy]; simp [hx])
    clear hy
    go_enter Try.func14, Try.ntmps14
    go_wp2_with (first
      | (go_at_call 42; refine (KP.out _).mono ?_; rintro e w1 ⟨rfl, hb⟩; have bx := Box.later (by first | assumption | exact Box.new _ _ _ _ _ _ _ _ _) hb; have bx2 := bx; obtain ⟨-, -, c0, c1, c2, c3, c4, c5⟩ := bx2)
      | (go_at_call 50; refine (KX.out _ (by first | exact Box.below (by assumption) | exact (Below.refl _ _).alloc (Nat.le_refl _) _)).mono ?_; rintro e w1 ⟨rfl, hb⟩; have bx := Box.later (by first | assumption | exact Box.new _ _ _ _ _ _ _ _ _) hb; have bx2 := bx; obtain ⟨-, -, c0, c1, c2, c3, c4, c5⟩ := bx2))
    all_goals
      go_ret
      refine ⟨ret_bool ?_, (by first | exact Box.below (by assumption) | exact (Below.refl _ _).alloc (Nat.le_refl _) _)⟩
      first | exact HY.out | (rw [← HY.out]; first | rfl | exact beq0 _ | (simp [*]; done) | (simp [*]; omega) | (simp_all; done) | (simp_all; omega))
set_option maxRecDepth 100000 in
set_option maxHeartbeats 2000000 in
theorem rexpr_39 (P : Fo) (hall : AllC (FunP 14 (·.ex)) P) (t : ByteArray) (n m a : Int) (A : Option Addr) (c : Nat) (w : World) (hH : Holds w w.heap.size P A 0) (hlc : P.len ≤ c) (hcc : c ≤ 1000000000000000) :
    Calls Try.prog 14 #[.agg #[.int .i64 39, .string t, .int .i64 n, .int .i64 m, .int .i64 a, .slice A P.len c]] w fun e w' => e = .returned (.bool (exprB 39 t n m P.inf)) ∧ Below w.heap.size w w' := by
  have hl : P.len ≤ 1000000000000000 := by omega
  obtain ⟨y, hy⟩ : ∃ y, exprB 39 t n m P.inf = y := ⟨_, rfl⟩
  rw [hy]
  rw [show exprB 39 t n m P.inf = (bareB t n m && exprsB P.inf 1) from rfl] at hy
  simp only [exprsB, lenB] at hy
  rw [inf_len] at hy
  have KP := Lib.hid (rplain_any 39 t n m a P.len A c)
  have KX := Lib.hid (fun W (hW : Below w.heap.size w W) => rExprs_any P hall A c W ((hH.below hW).more hW.size) hl)
  unfold Flat at KP
  generalize bareB t n m = b3 at *
  generalize P.inf.all (·.ex) = b5 at *
  clear hlc hall hH
  generalize P.len = x at *
  by_cases hx : x = 1
  · subst hx
    have HY := Lib.hid hy
    clear hy
    go_enter Try.func14, Try.ntmps14
    go_wp2_with (first
      | (go_at_call 42; refine (KP.out _).mono ?_; rintro e w1 ⟨rfl, hb⟩; have bx := Box.later (by first | assumption | exact Box.new _ _ _ _ _ _ _ _ _) hb; have bx2 := bx; obtain ⟨-, -, c0, c1, c2, c3, c4, c5⟩ := bx2)
      | (go_at_call 50; refine (KX.out _ (by first | exact Box.below (by assumption) | exact (Below.refl _ _).alloc (Nat.le_refl _) _)).mono ?_; rintro e w1 ⟨rfl, hb⟩; have bx := Box.later (by first | assumption | exact Box.new _ _ _ _ _ _ _ _ _) hb; have bx2 := bx; obtain ⟨-, -, c0, c1, c2, c3, c4, c5⟩ := bx2))
    all_goals
      go_ret
      refine ⟨ret_bool ?_, (by first | exact Box.below (by assumption) | exact (Below.refl _ _).alloc (Nat.le_refl _) _)⟩
      first | exact HY.out | (rw [← HY.out]; first | rfl | exact beq0 _ | (simp [*]; done) | (simp [*]; omega) | (simp_all; done) | (simp_all; omega))
  · have tx : (((x : Nat) : Int) == 1) = false := by simp; omega
    have HY : Hid (false = y) := Lib.hid (by rw [← hy]; simp [hx])
    clear hy
    go_enter Try.func14, Try.ntmps14
    go_wp2_with (first
      | (go_at_call 42; refine (KP.out _).mono ?_; rintro e w1 ⟨rfl, hb⟩; have bx := Box.later (by first | assumption | exact Box.new _ _ _ _ _ _ _ _ _) hb; have bx2 := bx; obtain ⟨-, -, c0, c1, c2, c3, c4, c5⟩ := bx2)
      | (go_at_call 50; refine (KX.out _ (by first | exact Box.below (by assumption) | exact (Below.refl _ _).alloc (Nat.le_refl _) _)).mono ?_; rintro e w1 ⟨rfl, hb⟩; have bx := Box.later (by first | assumption | exact Box.new _ _ _ _ _ _ _ _ _) hb; have bx2 := bx; obtain ⟨-, -, c0, c1, c2, c3, c4, c5⟩ := bx2))
    all_goals
      go_ret
      refine ⟨ret_bool ?_, (by first | exact Box.below (by assumption) | exact (Below.refl _ _).alloc (Nat.le_refl _) _)⟩
      first | exact HY.out | (rw [← HY.out]; first | rfl | exact beq0 _ | (simp [*]; done) | (simp [*]; omega) | (simp_all; done) | (simp_all; omega))
set_option maxRecDepth 100000 in
set_option maxHeartbeats 2000000 in
theorem rexpr_40 (P : Fo) (hall : AllC (FunP 14 (·.ex)) P) (t : ByteArray) (n m a : Int) (A : Option Addr) (c : Nat) (w : World) (hH : Holds w w.heap.size P A 0) (hlc : P.len ≤ c) (hcc : c ≤ 1000000000000000) :
    Calls Try.prog 14 #[.agg #[.int .i64 40, .string t, .int .i64 n, .int .i64 m, .int .i64 a, .slice A P.len c]] w fun e w' => e = .returned (.bool (exprB 40 t n m P.inf)) ∧ Below w.heap.size w w' := by
  have hl : P.len ≤ 1000000000000000 := by omega
  obtain ⟨y, hy⟩ : ∃ y, exprB 40 t n m P.inf = y := ⟨_, rfl⟩
  rw [hy]
  rw [show exprB 40 t n m P.inf = (bareB t n m && exprsB P.inf 1) from rfl] at hy
  simp only [exprsB, lenB] at hy
  rw [inf_len] at hy
  have KP := Lib.hid (rplain_any 40 t n m a P.len A c)
  have KX := Lib.hid (fun W (hW : Below w.heap.size w W) => rExprs_any P hall A c W ((hH.below hW).more hW.size) hl)
  unfold Flat at KP
  generalize bareB t n m = b3 at *
  generalize P.inf.all (·.ex) = b5 at *
  clear hlc hall hH
  generalize P.len = x at *
  by_cases hx : x = 1
  · subst hx
    have HY := Lib.hid hy
    clear hy
    go_enter Try.func14, Try.ntmps14
    go_wp2_with (first
      | (go_at_call 42; refine (KP.out _).mono ?_; rintro e w1 ⟨rfl, hb⟩; have bx := Box.later (by first | assumption | exact Box.new _ _ _ _ _ _ _ _ _) hb; have bx2 := bx; obtain ⟨-, -, c0, c1, c2, c3, c4, c5⟩ := bx2)
      | (go_at_call 50; refine (KX.out _ (by first | exact Box.below (by assumption) | exact (Below.refl _ _).alloc (Nat.le_refl _) _)).mono ?_; rintro e w1 ⟨rfl, hb⟩; have bx := Box.later (by first | assumption | exact Box.new _ _ _ _ _ _ _ _ _) hb; have bx2 := bx; obtain ⟨-, -, c0, c1, c2, c3, c4, c5⟩ := bx2))
    all_goals
      go_ret
      refine ⟨ret_bool ?_, (by first | exact Box.below (by assumption) | exact (Below.refl _ _).alloc (Nat.le_refl _) _)⟩
      first | exact HY.out | (rw [← HY.out]; first | rfl | exact beq0 _ | (simp [*]; done) | (simp [*]; omega) | (simp_all; done) | (simp_all; omega))
  · have tx : (((x : Nat) : Int) == 1) = false := by simp; omega
    have HY : Hid (false = y) := Lib.hid (by rw [← hy]; simp [hx])
    clear hy
    go_enter Try.func14, Try.ntmps14
    go_wp2_with (first
      | (go_at_call 42; refine (KP.out _).mono ?_; rintro e w1 ⟨rfl, hb⟩; have bx := Box.later (by first | assumption | exact Box.new _ _ _ _ _ _ _ _ _) hb; have bx2 := bx; obtain ⟨-, -, c0, c1, c2, c3, c4, c5⟩ := bx2)
      | (go_at_call 50; refine (KX.out _ (by first | exact Box.below (by assumption) | exact (Below.refl _ _).alloc (Nat.le_refl _) _)).mono ?_; rintro e w1 ⟨rfl, hb⟩; have bx := Box.later (by first | assumption | exact Box.new _ _ _ _ _ _ _ _ _) hb; have bx2 := bx; obtain ⟨-, -, c0, c1, c2, c3, c4, c5⟩ := bx2))
    all_goals
      go_ret
      refine ⟨ret_bool ?_, (by first | exact Box.below (by assumption) | exact (Below.refl _ _).alloc (Nat.le_refl _) _)⟩
      first | exact HY.out | (rw [← HY.out]; first | rfl | exact beq0 _ | (simp [*]; done) | (simp [*]; omega) | (simp_all; done) | (simp_all; omega))
set_option maxRecDepth 100000 in
set_option maxHeartbeats 2000000 in
theorem rexpr_35 (P : Fo) (hall : AllC (FunP 14 (·.ex)) P) (t : ByteArray) (n m a : Int) (A : Option Addr) (c : Nat) (w : World) (hH : Holds w w.heap.size P A 0) (hlc : P.len ≤ c) (hcc : c ≤ 1000000000000000) :
    Calls Try.prog 14 #[.agg #[.int .i64 35, .string t, .int .i64 n, .int .i64 m, .int .i64 a, .slice A P.len c]] w fun e w' => e = .returned (.bool (exprB 35 t n m P.inf)) ∧ Below w.heap.size w w' := by
  have hl : P.len ≤ 1000000000000000 := by omega
  obtain ⟨y, hy⟩ : ∃ y, exprB 35 t n m P.inf = y := ⟨_, rfl⟩
  rw [hy]
  rw [show exprB 35 t n m P.inf = (((t.toList == [45]) || (t.toList == [33])) && (plainB n m && exprsB P.inf 1)) from rfl] at hy
  simp only [plainB, exprsB, lenB] at hy
  rw [inf_len] at hy
  have KX := Lib.hid (fun W (hW : Below w.heap.size w W) => rExprs_any P hall A c W ((hH.below hW).more hW.size) hl)
  generalize P.inf.all (·.ex) = b5 at *
  clear hlc hall hH
  generalize P.len = x at *
  by_cases hx : x = 1
  · subst hx
    have HY := Lib.hid hy
    clear hy
    go_enter Try.func14, Try.ntmps14
    go_wp2_with (first
      | (go_at_call 50; refine (KX.out _ (by first | exact Box.below (by assumption) | exact (Below.refl _ _).alloc (Nat.le_refl _) _)).mono ?_; rintro e w1 ⟨rfl, hb⟩; have bx := Box.later (by first | assumption | exact Box.new _ _ _ _ _ _ _ _ _) hb; have bx2 := bx; obtain ⟨-, -, c0, c1, c2, c3, c4, c5⟩ := bx2))
    all_goals
      go_ret
      refine ⟨ret_bool ?_, (by first | exact Box.below (by assumption) | exact (Below.refl _ _).alloc (Nat.le_refl _) _)⟩
      first | exact HY.out | (rw [← HY.out]; first | rfl | exact beq0 _ | (simp [*]; done) | (simp [*]; omega) | (simp_all; done) | (simp_all; omega))
  · have tx : (((x : Nat) : Int) == 1) = false := by simp; omega
    have HY : Hid (false = y) := Lib.hid (by rw [← hy]; simp [hx])
    clear hy
    go_enter Try.func14, Try.ntmps14
    go_wp2_with (first
      | (go_at_call 50; refine (KX.out _ (by first | exact Box.below (by assumption) | exact (Below.refl _ _).alloc (Nat.le_refl _) _)).mono ?_; rintro e w1 ⟨rfl, hb⟩; have bx := Box.later (by first | assumption | exact Box.new _ _ _ _ _ _ _ _ _) hb; have bx2 := bx; obtain ⟨-, -, c0, c1, c2, c3, c4, c5⟩ := bx2))
    all_goals
      go_ret
      refine ⟨ret_bool ?_, (by first | exact Box.below (by assumption) | exact (Below.refl _ _).alloc (Nat.le_refl _) _)⟩
      first | exact HY.out | (rw [← HY.out]; first | rfl | exact beq0 _ | (simp [*]; done) | (simp [*]; omega) | (simp_all; done) | (simp_all; omega))
set_option maxRecDepth 100000 in
set_option maxHeartbeats 2000000 in
theorem rexpr_34 (P : Fo) (hallb : AllC (FunP 58 (·.blk)) P) (t : ByteArray) (n m a : Int) (A : Option Addr) (c : Nat) (w : World) (hH : Holds w w.heap.size P A 0) (hlc : P.len ≤ c) (hcc : c ≤ 1000000000000000) :
    Calls Try.prog 14 #[.agg #[.int .i64 34, .string t, .int .i64 n, .int .i64 m, .int .i64 a, .slice A P.len c]] w fun e w' => e = .returned (.bool (exprB 34 t n m P.inf)) ∧ Below w.heap.size w w' := by
  have hl : P.len ≤ 1000000000000000 := by omega
  obtain ⟨y, hy⟩ : ∃ y, exprB 34 t n m P.inf = y := ⟨_, rfl⟩
  rw [hy]
  rw [show exprB 34 t n m P.inf = (emptyB t && ((m == 0) && routB n P.inf true)) from rfl] at hy
  simp only [emptyB] at hy
  have KFn := Lib.hid (fun W (hW : Below w.heap.size w W) => rfunc_any P hallb n A c W ((hH.below hW).more hW.size) hlc hcc)
  generalize routB n P.inf true = b6 at *
  clear hlc hallb hH
  generalize P.len = x at *
  have HY := Lib.hid hy
  clear hy
  go_enter Try.func14, Try.ntmps14
  go_wp2_with (first
    | (go_at_call 51; refine (KFn.out _ (by first | exact Box.below (by assumption) | exact (Below.refl _ _).alloc (Nat.le_refl _) _)).mono ?_; rintro e w1 ⟨rfl, hb⟩; have bx := Box.later (by first | assumption | exact Box.new _ _ _ _ _ _ _ _ _) hb; have bx2 := bx; obtain ⟨-, -, c0, c1, c2, c3, c4, c5⟩ := bx2))
  all_goals
    go_ret
    refine ⟨ret_bool ?_, (by first | exact Box.below (by assumption) | exact (Below.refl _ _).alloc (Nat.le_refl _) _)⟩
    first | exact HY.out | (rw [← HY.out]; first | rfl | exact beq0 _ | (simp [*]; done) | (simp [*]; omega) | (simp_all; done) | (simp_all; omega))
set_option maxRecDepth 100000 in
set_option maxHeartbeats 2000000 in
theorem rexpr_38 (P : Fo) (hall : AllC (FunP 14 (·.ex)) P) (t : ByteArray) (n m a : Int) (A : Option Addr) (c : Nat) (w : World) (hH : Holds w w.heap.size P A 0) (hlc : P.len ≤ c) :
    Calls Try.prog 14 #[.agg #[.int .i64 38, .string t, .int .i64 n, .int .i64 m, .int .i64 a, .slice A P.len c]] w fun e w' => e = .returned (.bool (exprB 38 t n m P.inf)) ∧ Below w.heap.size w w' := by
  have hallT : AllC (FunP 12 (·.ty)) P := AllC.of (fun Q => (rtype_prog Q).1) P
  obtain ⟨y, hy⟩ : ∃ y, exprB 38 t n m P.inf = y := ⟨_, rfl⟩
  rw [hy]
  rw [show exprB 38 t n m P.inf = (bareB t n m && (lenB P.inf 2 && ((P.inf.take 1).all (·.ex) && (P.inf.drop 1).all (·.ty)))) from rfl] at hy
  unfold lenB at hy
  rw [inf_len] at hy
  have KP := Lib.hid (rplain_any 38 t n m a P.len A c)
  unfold Flat at KP
  generalize bareB t n m = b3 at *
  by_cases h2 : P.len = 2
  case neg =>
    have t2 : (((P.len : Nat) : Int) == 2) = false := by simp; omega
    have HY : Hid (false = y) := Lib.hid (by rw [← hy, decide_eq_false h2]; simp)
    clear hy hH hall hallT hlc h2
    generalize P.len = x at *
    go_enter Try.func14, Try.ntmps14
    go_wp2_with (first
      | (go_at_call 42; refine (KP.out _).mono ?_; rintro e w1 ⟨rfl, hb⟩; have bx := Box.later (by first | assumption | exact Box.new _ _ _ _ _ _ _ _ _) hb; have bx2 := bx; obtain ⟨-, -, c0, c1, c2, c3, c4, c5⟩ := bx2))
    all_goals
      go_ret
      refine ⟨ret_bool ?_, (by first | exact Box.below (by assumption) | exact (Below.refl _ _).alloc (Nat.le_refl _) _)⟩
      exact HY.out
  obtain ⟨k1, t1, n1, m1, a1, Q1, ad, A1, d1, R1, rfl, hd1, hR1, hP1⟩ := part_at hH (j := 0) (by omega)
  obtain ⟨k2, t2, n2, m2, a2, Q2, ad2, A2, d2, R2, had, hd2, hR2, hP2⟩ := part_at hH (j := 1) (by omega)
  cases had
  have e2 := drop_last hd2 hR2 (by omega)
  have e1 : P.inf.take 1 = [mk k1 t1 n1 m1 Q1.inf] := by
    rw [show P.inf = P.inf.drop 0 by simp, hd1]; rfl
  rw [e1, e2, decide_eq_true h2] at hy
  simp only [List.all_cons, List.all_nil, Bool.and_true, Bool.true_and] at hy
  have K1 := Lib.hid (hP1.good _ _ hall)
  have K2 := Lib.hid (hP2.good _ _ hallT)
  have FX1 : Hid (∀ W, Below w.heap.size w W → At6 W ad k1 t1 n1 m1 a1 Q1.len A1 d1) := Lib.hid (fun W hW => hP1.cells W hW)
  have FX2 : Hid (∀ W, Below w.heap.size w W → At6 W ⟨ad.block, ad.off + 6, none⟩ k2 t2 n2 m2 a2 Q2.len A2 d2) := Lib.hid (fun W hW => hP2.cells W hW)
  have h2c : 2 ≤ c := by omega
  rw [h2] at KP ⊢
  unfold At6 at FX1 FX2
  clear e1 e2 hd1 hR1 hP1 hd2 hR2 hP2 hlc h2 hH hall hallT
  generalize (mk k1 t1 n1 m1 Q1.inf).ex = b5 at *
  generalize (mk k2 t2 n2 m2 Q2.inf).ty = b6 at *
  generalize Q1.len = x1 at *
  generalize Q2.len = x2 at *
  have HY := Lib.hid hy
  clear hy
  go_enter Try.func14, Try.ntmps14
  go_wp2_with (first
    | (go_at_call 42; refine (KP.out _).mono ?_; rintro e w1 ⟨rfl, hb⟩; have bx := Box.later (by first | assumption | exact Box.new _ _ _ _ _ _ _ _ _) hb; have bx2 := bx; obtain ⟨-, -, c0, c1, c2, c3, c4, c5⟩ := bx2; obtain ⟨f0, f1, f2, f3, f4, f5⟩ := FX1.out _ (Box.below (by assumption)))
    | (go_at_call 14; refine (K1.out _ (by first | exact Box.below (by assumption) | exact (Below.refl _ _).alloc (Nat.le_refl _) _)).mono ?_; rintro e w1 ⟨rfl, hb⟩; have bx := Box.later (by first | assumption | exact Box.new _ _ _ _ _ _ _ _ _) hb; have bx2 := bx; obtain ⟨-, -, c0, c1, c2, c3, c4, c5⟩ := bx2; obtain ⟨g0, g1, g2, g3, g4, g5⟩ := FX2.out _ (Box.below (by assumption)))
    | (go_at_call 12; refine (K2.out _ (by first | exact Box.below (by assumption) | exact (Below.refl _ _).alloc (Nat.le_refl _) _)).mono ?_; rintro e w1 ⟨rfl, hb⟩; have bx := Box.later (by first | assumption | exact Box.new _ _ _ _ _ _ _ _ _) hb; have bx2 := bx; obtain ⟨-, -, c0, c1, c2, c3, c4, c5⟩ := bx2))
  all_goals
    go_ret
    refine ⟨ret_bool ?_, (by first | exact Box.below (by assumption) | exact (Below.refl _ _).alloc (Nat.le_refl _) _)⟩
    first | exact HY.out | (rw [← HY.out]; first | rfl | exact beq0 _ | (simp [*]; done) | (simp [*]; omega) | (simp_all; done) | (simp_all; omega))
theorem exprB_leaf (k : Int) (t : ByteArray) (n m : Int) (l : List Inf) (h : k ≠ 27 ∧ k ≠ 29 ∧ k ≠ 30 ∧ k ≠ 31 ∧ k ≠ 32 ∧ k ≠ 33 ∧ k ≠ 34 ∧ k ≠ 35 ∧ k ≠ 36 ∧ k ≠ 37 ∧ k ≠ 38 ∧ k ≠ 39 ∧ k ≠ 40) : exprB k t n m l = (lenB l 0 && leafB k t n m) := by
  obtain ⟨h27, h29, h30, h31, h32, h33, h34, h35, h36, h37, h38, h39, h40⟩ := h
  by_cases h20 : k = 20
  · subst h20; rw [show exprB 20 t n m l = (emptyB t && (decide (0 ≤ n) && ((m == 0) && lenB l 0))) from rfl, show leafB 20 t n m = (emptyB t && (decide (0 ≤ n) && (m == 0))) from rfl]; cases emptyB t <;> cases lenB l 0 <;> simp
  by_cases h21 : k = 21
  · subst h21; rw [show exprB 21 t n m l = (plainB n m && lenB l 0) from rfl, show leafB 21 t n m = plainB n m from rfl, Bool.and_comm]
  by_cases h25 : k = 25
  · subst h25; rw [show exprB 25 t n m l = (idB t && (plainB n m && lenB l 0)) from rfl, show leafB 25 t n m = (idB t && plainB n m) from rfl]; cases idB t <;> cases lenB l 0 <;> simp
  by_cases hb : k = 22 ∨ k = 23 ∨ k = 24 ∨ k = 26
  · rcases hb with rfl | rfl | rfl | rfl <;> (show (bareB t n m && lenB l 0) = (lenB l 0 && bareB t n m); rw [Bool.and_comm])
  · have h22 : k ≠ 22 := fun e => hb (.inl e)
    have h23 : k ≠ 23 := fun e => hb (.inr (.inl e))
    have h24 : k ≠ 24 := fun e => hb (.inr (.inr (.inl e)))
    have h26 : k ≠ 26 := fun e => hb (.inr (.inr (.inr e)))
    simp [exprB, leafB, *]
set_option maxRecDepth 100000 in
set_option maxHeartbeats 2000000 in
theorem rexpr_else (P : Fo) (k : Int) (t : ByteArray) (n m a : Int) (A : Option Addr) (c : Nat) (w : World) (ht : t.size ≤ 1000000000000000) (h : k ≠ 27 ∧ k ≠ 29 ∧ k ≠ 30 ∧ k ≠ 31 ∧ k ≠ 32 ∧ k ≠ 33 ∧ k ≠ 34 ∧ k ≠ 35 ∧ k ≠ 36 ∧ k ≠ 37 ∧ k ≠ 38 ∧ k ≠ 39 ∧ k ≠ 40) :
    Calls Try.prog 14 #[.agg #[.int .i64 k, .string t, .int .i64 n, .int .i64 m, .int .i64 a, .slice A P.len c]] w fun e w' => e = .returned (.bool (exprB k t n m P.inf)) ∧ Below w.heap.size w w' := by
  rw [exprB_leaf k t n m P.inf h]
  obtain ⟨h27, h29, h30, h31, h32, h33, h34, h35, h36, h37, h38, h39, h40⟩ := h
  have t27 : (k == 27) = false := beq_eq_false_iff_ne.2 h27
  have t29 : (k == 29) = false := beq_eq_false_iff_ne.2 h29
  have t30 : (k == 30) = false := beq_eq_false_iff_ne.2 h30
  have t31 : (k == 31) = false := beq_eq_false_iff_ne.2 h31
  have t32 : (k == 32) = false := beq_eq_false_iff_ne.2 h32
  have t33 : (k == 33) = false := beq_eq_false_iff_ne.2 h33
  have t34 : (k == 34) = false := beq_eq_false_iff_ne.2 h34
  have t35 : (k == 35) = false := beq_eq_false_iff_ne.2 h35
  have t36 : (k == 36) = false := beq_eq_false_iff_ne.2 h36
  have t37 : (k == 37) = false := beq_eq_false_iff_ne.2 h37
  have t38 : (k == 38) = false := beq_eq_false_iff_ne.2 h38
  have t39 : (k == 39) = false := beq_eq_false_iff_ne.2 h39
  have t40 : (k == 40) = false := beq_eq_false_iff_ne.2 h40
  clear h27 h29 h30 h31 h32 h33 h34 h35 h36 h37 h38 h39 h40
  unfold lenB
  rw [inf_len]
  by_cases h0 : P.len = 0
  · rw [decide_eq_true h0, h0]
    have KL := Lib.hid (leaf_any k t n m a 0 A c ht)
    unfold Flat at KL
    generalize leafB k t n m = b at *
    clear h0
    go_enter Try.func14, Try.ntmps14
    go_wp2_with (first
      | (go_at_call 53; refine (KL.out _).mono ?_; rintro e w1 ⟨rfl, hb⟩; have bx := Box.later (by first | assumption | exact Box.new _ _ _ _ _ _ _ _ _) hb; have bx2 := bx; obtain ⟨-, -, c0, c1, c2, c3, c4, c5⟩ := bx2))
    all_goals
      go_ret
      refine ⟨ret_bool ?_, (by first | exact Box.below (by assumption) | exact (Below.refl _ _).alloc (Nat.le_refl _) _)⟩
      first | rfl | (simp; done)
  · rw [decide_eq_false h0]
    have tx : (((P.len : Nat) : Int) == 0) = false := by simp; omega
    clear h0
    generalize P.len = x at *
    go_enter Try.func14, Try.ntmps14
    go_wp2_with fail
    all_goals
      go_ret
      refine ⟨ret_bool ?_, (by first | exact Box.below (by assumption) | exact (Below.refl _ _).alloc (Nat.le_refl _) _)⟩
      first | rfl | (simp; done)
theorem rexpr_step (P : Fo) (hall : AllC (FunP 14 (·.ex)) P) (hallx : AllC (fun Q => AllC (FunP 14 (·.ex)) Q) P) (hallb : AllC (FunP 58 (·.blk)) P) : FunP 14 (·.ex) P := by
  intro k t n m a A c w hH hlc hcc ht
  show Calls _ _ _ _ fun e w' => e = .returned (.bool (exprB k t n m P.inf)) ∧ _
  simp only [val6, cells6]
  by_cases h : k ≠ 27 ∧ k ≠ 29 ∧ k ≠ 30 ∧ k ≠ 31 ∧ k ≠ 32 ∧ k ≠ 33 ∧ k ≠ 34 ∧ k ≠ 35 ∧ k ≠ 36 ∧ k ≠ 37 ∧ k ≠ 38 ∧ k ≠ 39 ∧ k ≠ 40
  · exact rexpr_else P k t n m a A c w ht h
  · have h' : k = 27 ∨ k = 29 ∨ k = 30 ∨ k = 31 ∨ k = 32 ∨ k = 33 ∨ k = 34 ∨ k = 35 ∨ k = 36 ∨ k = 37 ∨ k = 38 ∨ k = 39 ∨ k = 40 := by omega
    clear h
    rcases h' with rfl | rfl | rfl | rfl | rfl | rfl | rfl | rfl | rfl | rfl | rfl | rfl | rfl
    · exact rexpr_27 P hallx t n m a A c w hH hlc hcc
    · exact rexpr_29 P hall t n m a A c w hH hlc hcc
    · exact rexpr_30 P hall t n m a A c w hH hlc hcc ht
    · exact rexpr_31 P hall t n m a A c w hH hlc hcc
    · exact rexpr_32 P hall t n m a A c w hH hlc hcc
    · exact rexpr_33 P hall t n m a A c w hH hlc hcc ht
    · exact rexpr_34 P hallb t n m a A c w hH hlc hcc
    · exact rexpr_35 P hall t n m a A c w hH hlc hcc
    · exact rexpr_36 P hall t n m a A c w hH hlc hcc
    · exact rexpr_37 P hall t n m a A c w hH hlc hcc
    · exact rexpr_38 P hall t n m a A c w hH hlc
    · exact rexpr_39 P hall t n m a A c w hH hlc hcc
    · exact rexpr_40 P hall t n m a A c w hH hlc hcc
end Go.Proofs.Ytogoolpgajopcaa
