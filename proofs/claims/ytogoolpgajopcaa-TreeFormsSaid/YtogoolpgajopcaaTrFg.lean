import Derived.Test.YtogoolpgajopcaaTrFf
namespace Go.Proofs.Ytogoolpgajopcaa
open Go.RowKit
set_option maxRecDepth 100000 in
set_option maxHeartbeats 2000000 in
theorem expr_20 (P : Fo) (t : ByteArray) (n m a : Int) (A : Option Addr) (c : Nat) (w : World) (hlc : P.len ≤ c) (hcc : c ≤ 1000000000000000) :
    Calls Try.prog 13 #[.agg #[.int .i64 20, .string t, .int .i64 n, .int .i64 m, .int .i64 a, .slice A P.len c]] w fun e w' => e = .returned (.bool (exprB 20 t n m P.inf)) ∧ Below w.heap.size w w' := by
  have hl : P.len ≤ 1000000000000000 := by omega
  obtain ⟨y, hy⟩ : ∃ y, exprB 20 t n m P.inf = y := ⟨_, rfl⟩
  rw [hy]
  rw [show exprB 20 t n m P.inf = (emptyB t && (decide (0 ≤ n) && ((m == 0) && lenB P.inf 0))) from rfl] at hy
  simp only [lenB] at hy
  rw [inf_len] at hy
  have KN := Lib.hid (notext_any 20 t n m a P.len A c)
  unfold Flat at KN
  generalize emptyB t = b4 at *
  clear hlc
  generalize P.len = x at *
  have HY := Lib.hid hy
  clear hy
  go_enter Try.func13, Try.ntmps13
  go_wp2_with (first
    | (go_at_call 29; refine (KN.out _).mono ?_; rintro e w1 ⟨rfl, hb⟩; have bx := Box.later (by first | assumption | exact Box.new _ _ _ _ _ _ _ _ _) hb; have bx2 := bx; obtain ⟨-, -, c0, c1, c2, c3, c4, c5⟩ := bx2))
  all_goals
    go_ret
    refine ⟨ret_bool ?_, (by first | exact Box.below (by assumption) | exact (Below.refl _ _).alloc (Nat.le_refl _) _)⟩
    rw [← HY.out]; first | rfl | exact beq0 _ | (simp [*]; done) | (simp [*, beq0]; done) | (simp [*]; omega) | (simp_all; done)
set_option maxRecDepth 100000 in
set_option maxHeartbeats 2000000 in
theorem expr_21 (P : Fo) (t : ByteArray) (n m a : Int) (A : Option Addr) (c : Nat) (w : World) (hlc : P.len ≤ c) (hcc : c ≤ 1000000000000000) :
    Calls Try.prog 13 #[.agg #[.int .i64 21, .string t, .int .i64 n, .int .i64 m, .int .i64 a, .slice A P.len c]] w fun e w' => e = .returned (.bool (exprB 21 t n m P.inf)) ∧ Below w.heap.size w w' := by
  have hl : P.len ≤ 1000000000000000 := by omega
  obtain ⟨y, hy⟩ : ∃ y, exprB 21 t n m P.inf = y := ⟨_, rfl⟩
  rw [hy]
  rw [show exprB 21 t n m P.inf = (plainB n m && lenB P.inf 0) from rfl] at hy
  simp only [lenB] at hy
  rw [inf_len] at hy
  have KP := Lib.hid (plain_any 21 t n m a P.len A c)
  unfold Flat at KP
  generalize plainB n m = b2 at *
  clear hlc
  generalize P.len = x at *
  have HY := Lib.hid hy
  clear hy
  go_enter Try.func13, Try.ntmps13
  go_wp2_with (first
    | (go_at_call 30; refine (KP.out _).mono ?_; rintro e w1 ⟨rfl, hb⟩; have bx := Box.later (by first | assumption | exact Box.new _ _ _ _ _ _ _ _ _) hb; have bx2 := bx; obtain ⟨-, -, c0, c1, c2, c3, c4, c5⟩ := bx2))
  all_goals
    go_ret
    refine ⟨ret_bool ?_, (by first | exact Box.below (by assumption) | exact (Below.refl _ _).alloc (Nat.le_refl _) _)⟩
    rw [← HY.out]; first | rfl | exact beq0 _ | (simp [*]; done) | (simp [*, beq0]; done) | (simp [*]; omega) | (simp_all; done)
set_option maxRecDepth 100000 in
set_option maxHeartbeats 2000000 in
theorem expr_22 (P : Fo) (t : ByteArray) (n m a : Int) (A : Option Addr) (c : Nat) (w : World) (hlc : P.len ≤ c) (hcc : c ≤ 1000000000000000) :
    Calls Try.prog 13 #[.agg #[.int .i64 22, .string t, .int .i64 n, .int .i64 m, .int .i64 a, .slice A P.len c]] w fun e w' => e = .returned (.bool (exprB 22 t n m P.inf)) ∧ Below w.heap.size w w' := by
  have hl : P.len ≤ 1000000000000000 := by omega
  obtain ⟨y, hy⟩ : ∃ y, exprB 22 t n m P.inf = y := ⟨_, rfl⟩
  rw [hy]
  rw [show exprB 22 t n m P.inf = (bareB t n m && lenB P.inf 0) from rfl] at hy
  simp only [lenB] at hy
  rw [inf_len] at hy
  have KB := Lib.hid (bare_any 22 t n m a P.len A c)
  unfold Flat at KB
  generalize bareB t n m = b3 at *
  clear hlc
  generalize P.len = x at *
  have HY := Lib.hid hy
  clear hy
  go_enter Try.func13, Try.ntmps13
  go_wp2_with (first
    | (go_at_call 32; refine (KB.out _).mono ?_; rintro e w1 ⟨rfl, hb⟩; have bx := Box.later (by first | assumption | exact Box.new _ _ _ _ _ _ _ _ _) hb; have bx2 := bx; obtain ⟨-, -, c0, c1, c2, c3, c4, c5⟩ := bx2))
  all_goals
    go_ret
    refine ⟨ret_bool ?_, (by first | exact Box.below (by assumption) | exact (Below.refl _ _).alloc (Nat.le_refl _) _)⟩
    rw [← HY.out]; first | rfl | exact beq0 _ | (simp [*]; done) | (simp [*, beq0]; done) | (simp [*]; omega) | (simp_all; done)
set_option maxRecDepth 100000 in
set_option maxHeartbeats 2000000 in
theorem expr_23 (P : Fo) (t : ByteArray) (n m a : Int) (A : Option Addr) (c : Nat) (w : World) (hlc : P.len ≤ c) (hcc : c ≤ 1000000000000000) :
    Calls Try.prog 13 #[.agg #[.int .i64 23, .string t, .int .i64 n, .int .i64 m, .int .i64 a, .slice A P.len c]] w fun e w' => e = .returned (.bool (exprB 23 t n m P.inf)) ∧ Below w.heap.size w w' := by
  have hl : P.len ≤ 1000000000000000 := by omega
  obtain ⟨y, hy⟩ : ∃ y, exprB 23 t n m P.inf = y := ⟨_, rfl⟩
  rw [hy]
  rw [show exprB 23 t n m P.inf = (bareB t n m && lenB P.inf 0) from rfl] at hy
  simp only [lenB] at hy
  rw [inf_len] at hy
  have KB := Lib.hid (bare_any 23 t n m a P.len A c)
  unfold Flat at KB
  generalize bareB t n m = b3 at *
  clear hlc
  generalize P.len = x at *
  have HY := Lib.hid hy
  clear hy
  go_enter Try.func13, Try.ntmps13
  go_wp2_with (first
    | (go_at_call 32; refine (KB.out _).mono ?_; rintro e w1 ⟨rfl, hb⟩; have bx := Box.later (by first | assumption | exact Box.new _ _ _ _ _ _ _ _ _) hb; have bx2 := bx; obtain ⟨-, -, c0, c1, c2, c3, c4, c5⟩ := bx2))
  all_goals
    go_ret
    refine ⟨ret_bool ?_, (by first | exact Box.below (by assumption) | exact (Below.refl _ _).alloc (Nat.le_refl _) _)⟩
    rw [← HY.out]; first | rfl | exact beq0 _ | (simp [*]; done) | (simp [*, beq0]; done) | (simp [*]; omega) | (simp_all; done)
set_option maxRecDepth 100000 in
set_option maxHeartbeats 2000000 in
theorem expr_24 (P : Fo) (t : ByteArray) (n m a : Int) (A : Option Addr) (c : Nat) (w : World) (hlc : P.len ≤ c) (hcc : c ≤ 1000000000000000) :
    Calls Try.prog 13 #[.agg #[.int .i64 24, .string t, .int .i64 n, .int .i64 m, .int .i64 a, .slice A P.len c]] w fun e w' => e = .returned (.bool (exprB 24 t n m P.inf)) ∧ Below w.heap.size w w' := by
  have hl : P.len ≤ 1000000000000000 := by omega
  obtain ⟨y, hy⟩ : ∃ y, exprB 24 t n m P.inf = y := ⟨_, rfl⟩
  rw [hy]
  rw [show exprB 24 t n m P.inf = (bareB t n m && lenB P.inf 0) from rfl] at hy
  simp only [lenB] at hy
  rw [inf_len] at hy
  have KB := Lib.hid (bare_any 24 t n m a P.len A c)
  unfold Flat at KB
  generalize bareB t n m = b3 at *
  clear hlc
  generalize P.len = x at *
  have HY := Lib.hid hy
  clear hy
  go_enter Try.func13, Try.ntmps13
  go_wp2_with (first
    | (go_at_call 32; refine (KB.out _).mono ?_; rintro e w1 ⟨rfl, hb⟩; have bx := Box.later (by first | assumption | exact Box.new _ _ _ _ _ _ _ _ _) hb; have bx2 := bx; obtain ⟨-, -, c0, c1, c2, c3, c4, c5⟩ := bx2))
  all_goals
    go_ret
    refine ⟨ret_bool ?_, (by first | exact Box.below (by assumption) | exact (Below.refl _ _).alloc (Nat.le_refl _) _)⟩
    rw [← HY.out]; first | rfl | exact beq0 _ | (simp [*]; done) | (simp [*, beq0]; done) | (simp [*]; omega) | (simp_all; done)
set_option maxRecDepth 100000 in
set_option maxHeartbeats 2000000 in
theorem expr_26 (P : Fo) (t : ByteArray) (n m a : Int) (A : Option Addr) (c : Nat) (w : World) (hlc : P.len ≤ c) (hcc : c ≤ 1000000000000000) :
    Calls Try.prog 13 #[.agg #[.int .i64 26, .string t, .int .i64 n, .int .i64 m, .int .i64 a, .slice A P.len c]] w fun e w' => e = .returned (.bool (exprB 26 t n m P.inf)) ∧ Below w.heap.size w w' := by
  have hl : P.len ≤ 1000000000000000 := by omega
  obtain ⟨y, hy⟩ : ∃ y, exprB 26 t n m P.inf = y := ⟨_, rfl⟩
  rw [hy]
  rw [show exprB 26 t n m P.inf = (bareB t n m && lenB P.inf 0) from rfl] at hy
  simp only [lenB] at hy
  rw [inf_len] at hy
  have KB := Lib.hid (bare_any 26 t n m a P.len A c)
  unfold Flat at KB
  generalize bareB t n m = b3 at *
  clear hlc
  generalize P.len = x at *
  have HY := Lib.hid hy
  clear hy
  go_enter Try.func13, Try.ntmps13
  go_wp2_with (first
    | (go_at_call 32; refine (KB.out _).mono ?_; rintro e w1 ⟨rfl, hb⟩; have bx := Box.later (by first | assumption | exact Box.new _ _ _ _ _ _ _ _ _) hb; have bx2 := bx; obtain ⟨-, -, c0, c1, c2, c3, c4, c5⟩ := bx2))
  all_goals
    go_ret
    refine ⟨ret_bool ?_, (by first | exact Box.below (by assumption) | exact (Below.refl _ _).alloc (Nat.le_refl _) _)⟩
    rw [← HY.out]; first | rfl | exact beq0 _ | (simp [*]; done) | (simp [*, beq0]; done) | (simp [*]; omega) | (simp_all; done)
set_option maxRecDepth 100000 in
set_option maxHeartbeats 2000000 in
theorem expr_25 (P : Fo) (t : ByteArray) (n m a : Int) (A : Option Addr) (c : Nat) (w : World) (hlc : P.len ≤ c) (hcc : c ≤ 1000000000000000) (ht : t.size ≤ 1000000000000000) :
    Calls Try.prog 13 #[.agg #[.int .i64 25, .string t, .int .i64 n, .int .i64 m, .int .i64 a, .slice A P.len c]] w fun e w' => e = .returned (.bool (exprB 25 t n m P.inf)) ∧ Below w.heap.size w w' := by
  have hl : P.len ≤ 1000000000000000 := by omega
  obtain ⟨y, hy⟩ : ∃ y, exprB 25 t n m P.inf = y := ⟨_, rfl⟩
  rw [hy]
  rw [show exprB 25 t n m P.inf = (idB t && (plainB n m && lenB P.inf 0)) from rfl] at hy
  simp only [lenB] at hy
  rw [inf_len] at hy
  have KI := Lib.hid (isname_any 25 t n m a P.len A c ht)
  have KP := Lib.hid (plain_any 25 t n m a P.len A c)
  unfold Flat at KI KP
  generalize idB t = b1 at *
  generalize plainB n m = b2 at *
  clear hlc
  generalize P.len = x at *
  have HY := Lib.hid hy
  clear hy
  go_enter Try.func13, Try.ntmps13
  go_wp2_with (first
    | (go_at_call 31; refine (KI.out _).mono ?_; rintro e w1 ⟨rfl, hb⟩; have bx := Box.later (by first | assumption | exact Box.new _ _ _ _ _ _ _ _ _) hb; have bx2 := bx; obtain ⟨-, -, c0, c1, c2, c3, c4, c5⟩ := bx2)
    | (go_at_call 30; refine (KP.out _).mono ?_; rintro e w1 ⟨rfl, hb⟩; have bx := Box.later (by first | assumption | exact Box.new _ _ _ _ _ _ _ _ _) hb; have bx2 := bx; obtain ⟨-, -, c0, c1, c2, c3, c4, c5⟩ := bx2))
  all_goals
    go_ret
    refine ⟨ret_bool ?_, (by first | exact Box.below (by assumption) | exact (Below.refl _ _).alloc (Nat.le_refl _) _)⟩
    rw [← HY.out]; first | rfl | exact beq0 _ | (simp [*]; done) | (simp [*, beq0]; done) | (simp [*]; omega) | (simp_all; done)
set_option maxRecDepth 100000 in
set_option maxHeartbeats 2000000 in
theorem expr_27 (P : Fo) (hallf : AllC (FunP 45 (·.efl)) P) (t : ByteArray) (n m a : Int) (A : Option Addr) (c : Nat) (w : World) (hH : Holds w w.heap.size P A 0) (hlc : P.len ≤ c) (hcc : c ≤ 1000000000000000) :
    Calls Try.prog 13 #[.agg #[.int .i64 27, .string t, .int .i64 n, .int .i64 m, .int .i64 a, .slice A P.len c]] w fun e w' => e = .returned (.bool (exprB 27 t n m P.inf)) ∧ Below w.heap.size w w' := by
  have hl : P.len ≤ 1000000000000000 := by omega
  obtain ⟨y, hy⟩ : ∃ y, exprB 27 t n m P.inf = y := ⟨_, rfl⟩
  rw [hy]
  rw [show exprB 27 t n m P.inf = (bareB t n m && P.inf.all (·.efl)) from rfl] at hy
  have KB := Lib.hid (bare_any 27 t n m a P.len A c)
  have KAf := Lib.hid (fun W (hW : Below w.heap.size w W) => all_valueField (·.efl) P hallf A c W ((hH.below hW).more hW.size) hl)
  unfold Flat at KB
  generalize bareB t n m = b3 at *
  generalize P.inf.all (·.efl) = b5 at *
  clear hlc hallf hH
  generalize P.len = x at *
  have HY := Lib.hid hy
  clear hy
  go_enter Try.func13, Try.ntmps13
  go_wp2_with (first
    | (go_at_call 32; refine (KB.out _).mono ?_; rintro e w1 ⟨rfl, hb⟩; have bx := Box.later (by first | assumption | exact Box.new _ _ _ _ _ _ _ _ _) hb; have bx2 := bx; obtain ⟨-, -, c0, c1, c2, c3, c4, c5⟩ := bx2)
    | (go_at_call 34; refine (KAf.out _ (by first | exact Box.below (by assumption) | exact (Below.refl _ _).alloc (Nat.le_refl _) _)).mono ?_; rintro e w1 ⟨rfl, hb⟩; have bx := Box.later (by first | assumption | exact Box.new _ _ _ _ _ _ _ _ _) hb; have bx2 := bx; obtain ⟨-, -, c0, c1, c2, c3, c4, c5⟩ := bx2))
  all_goals
    go_ret
    refine ⟨ret_bool ?_, (by first | exact Box.below (by assumption) | exact (Below.refl _ _).alloc (Nat.le_refl _) _)⟩
    rw [← HY.out]; first | rfl | exact beq0 _ | (simp [*]; done) | (simp [*, beq0]; done) | (simp [*]; omega) | (simp_all; done)
set_option maxRecDepth 100000 in
set_option maxHeartbeats 2000000 in
theorem expr_29 (P : Fo) (hall : AllC (FunP 13 (·.ex)) P) (t : ByteArray) (n m a : Int) (A : Option Addr) (c : Nat) (w : World) (hH : Holds w w.heap.size P A 0) (hlc : P.len ≤ c) (hcc : c ≤ 1000000000000000) :
    Calls Try.prog 13 #[.agg #[.int .i64 29, .string t, .int .i64 n, .int .i64 m, .int .i64 a, .slice A P.len c]] w fun e w' => e = .returned (.bool (exprB 29 t n m P.inf)) ∧ Below w.heap.size w w' := by
  have hl : P.len ≤ 1000000000000000 := by omega
  obtain ⟨y, hy⟩ : ∃ y, exprB 29 t n m P.inf = y := ⟨_, rfl⟩
  rw [hy]
  rw [show exprB 29 t n m P.inf = (bareB t n m && P.inf.all (·.ex)) from rfl] at hy
  have KB := Lib.hid (bare_any 29 t n m a P.len A c)
  have KAx := Lib.hid (fun W (hW : Below w.heap.size w W) => all_Expr (·.ex) P hall A c W ((hH.below hW).more hW.size) hl)
  unfold Flat at KB
  generalize bareB t n m = b3 at *
  generalize P.inf.all (·.ex) = b5 at *
  clear hlc hall hH
  generalize P.len = x at *
  have HY := Lib.hid hy
  clear hy
  go_enter Try.func13, Try.ntmps13
  go_wp2_with (first
    | (go_at_call 32; refine (KB.out _).mono ?_; rintro e w1 ⟨rfl, hb⟩; have bx := Box.later (by first | assumption | exact Box.new _ _ _ _ _ _ _ _ _) hb; have bx2 := bx; obtain ⟨-, -, c0, c1, c2, c3, c4, c5⟩ := bx2)
    | (go_at_call 34; refine (KAx.out _ (by first | exact Box.below (by assumption) | exact (Below.refl _ _).alloc (Nat.le_refl _) _)).mono ?_; rintro e w1 ⟨rfl, hb⟩; have bx := Box.later (by first | assumption | exact Box.new _ _ _ _ _ _ _ _ _) hb; have bx2 := bx; obtain ⟨-, -, c0, c1, c2, c3, c4, c5⟩ := bx2))
  all_goals
    go_ret
    refine ⟨ret_bool ?_, (by first | exact Box.below (by assumption) | exact (Below.refl _ _).alloc (Nat.le_refl _) _)⟩
    rw [← HY.out]; first | rfl | exact beq0 _ | (simp [*]; done) | (simp [*, beq0]; done) | (simp [*]; omega) | (simp_all; done)
set_option maxRecDepth 100000 in
set_option maxHeartbeats 2000000 in
theorem expr_30 (P : Fo) (hall : AllC (FunP 13 (·.ex)) P) (t : ByteArray) (n m a : Int) (A : Option Addr) (c : Nat) (w : World) (hH : Holds w w.heap.size P A 0) (hlc : P.len ≤ c) (hcc : c ≤ 1000000000000000) (ht : t.size ≤ 1000000000000000) :
    Calls Try.prog 13 #[.agg #[.int .i64 30, .string t, .int .i64 n, .int .i64 m, .int .i64 a, .slice A P.len c]] w fun e w' => e = .returned (.bool (exprB 30 t n m P.inf)) ∧ Below w.heap.size w w' := by
  have hl : P.len ≤ 1000000000000000 := by omega
  obtain ⟨y, hy⟩ : ∃ y, exprB 30 t n m P.inf = y := ⟨_, rfl⟩
  rw [hy]
  rw [show exprB 30 t n m P.inf = (idB t && (plainB n m && exprsB P.inf 1)) from rfl] at hy
  have KI := Lib.hid (isname_any 30 t n m a P.len A c ht)
  have KP := Lib.hid (plain_any 30 t n m a P.len A c)
  have KX1 := Lib.hid (fun W (hW : Below w.heap.size w W) => exprs_any P hall 1 1 (by rfl) 30 t n m a A c W ((hH.below hW).more hW.size) hl)
  unfold Flat at KI KP
  generalize idB t = b1 at *
  generalize plainB n m = b2 at *
  generalize exprsB P.inf 1 = b8 at *
  clear hlc hall hH
  generalize P.len = x at *
  have HY := Lib.hid hy
  clear hy
  go_enter Try.func13, Try.ntmps13
  go_wp2_with (first
    | (go_at_call 31; refine (KI.out _).mono ?_; rintro e w1 ⟨rfl, hb⟩; have bx := Box.later (by first | assumption | exact Box.new _ _ _ _ _ _ _ _ _) hb; have bx2 := bx; obtain ⟨-, -, c0, c1, c2, c3, c4, c5⟩ := bx2)
    | (go_at_call 30; refine (KP.out _).mono ?_; rintro e w1 ⟨rfl, hb⟩; have bx := Box.later (by first | assumption | exact Box.new _ _ _ _ _ _ _ _ _) hb; have bx2 := bx; obtain ⟨-, -, c0, c1, c2, c3, c4, c5⟩ := bx2)
    | (go_at_call 46; refine (KX1.out _ (by first | exact Box.below (by assumption) | exact (Below.refl _ _).alloc (Nat.le_refl _) _)).mono ?_; rintro e w1 ⟨rfl, hb⟩; have bx := Box.later (by first | assumption | exact Box.new _ _ _ _ _ _ _ _ _) hb; have bx2 := bx; obtain ⟨-, -, c0, c1, c2, c3, c4, c5⟩ := bx2))
  all_goals
    go_ret
    refine ⟨ret_bool ?_, (by first | exact Box.below (by assumption) | exact (Below.refl _ _).alloc (Nat.le_refl _) _)⟩
    rw [← HY.out]; first | rfl | exact beq0 _ | (simp [*]; done) | (simp [*, beq0]; done) | (simp [*]; omega) | (simp_all; done)
set_option maxRecDepth 100000 in
set_option maxHeartbeats 2000000 in
theorem expr_31 (P : Fo) (hall : AllC (FunP 13 (·.ex)) P) (t : ByteArray) (n m a : Int) (A : Option Addr) (c : Nat) (w : World) (hH : Holds w w.heap.size P A 0) (hlc : P.len ≤ c) (hcc : c ≤ 1000000000000000) :
    Calls Try.prog 13 #[.agg #[.int .i64 31, .string t, .int .i64 n, .int .i64 m, .int .i64 a, .slice A P.len c]] w fun e w' => e = .returned (.bool (exprB 31 t n m P.inf)) ∧ Below w.heap.size w w' := by
  have hl : P.len ≤ 1000000000000000 := by omega
  obtain ⟨y, hy⟩ : ∃ y, exprB 31 t n m P.inf = y := ⟨_, rfl⟩
  rw [hy]
  rw [show exprB 31 t n m P.inf = (bareB t n m && exprsB P.inf 2) from rfl] at hy
  have KB := Lib.hid (bare_any 31 t n m a P.len A c)
  have KX2 := Lib.hid (fun W (hW : Below w.heap.size w W) => exprs_any P hall 2 2 (by rfl) 31 t n m a A c W ((hH.below hW).more hW.size) hl)
  unfold Flat at KB
  generalize bareB t n m = b3 at *
  generalize exprsB P.inf 2 = b8 at *
  clear hlc hall hH
  generalize P.len = x at *
  have HY := Lib.hid hy
  clear hy
  go_enter Try.func13, Try.ntmps13
  go_wp2_with (first
    | (go_at_call 32; refine (KB.out _).mono ?_; rintro e w1 ⟨rfl, hb⟩; have bx := Box.later (by first | assumption | exact Box.new _ _ _ _ _ _ _ _ _) hb; have bx2 := bx; obtain ⟨-, -, c0, c1, c2, c3, c4, c5⟩ := bx2)
    | (go_at_call 46; refine (KX2.out _ (by first | exact Box.below (by assumption) | exact (Below.refl _ _).alloc (Nat.le_refl _) _)).mono ?_; rintro e w1 ⟨rfl, hb⟩; have bx := Box.later (by first | assumption | exact Box.new _ _ _ _ _ _ _ _ _) hb; have bx2 := bx; obtain ⟨-, -, c0, c1, c2, c3, c4, c5⟩ := bx2))
  all_goals
    go_ret
    refine ⟨ret_bool ?_, (by first | exact Box.below (by assumption) | exact (Below.refl _ _).alloc (Nat.le_refl _) _)⟩
    rw [← HY.out]; first | rfl | exact beq0 _ | (simp [*]; done) | (simp [*, beq0]; done) | (simp [*]; omega) | (simp_all; done)
set_option maxRecDepth 100000 in
set_option maxHeartbeats 2000000 in
theorem expr_32 (P : Fo) (hall : AllC (FunP 13 (·.ex)) P) (t : ByteArray) (n m a : Int) (A : Option Addr) (c : Nat) (w : World) (hH : Holds w w.heap.size P A 0) (hlc : P.len ≤ c) (hcc : c ≤ 1000000000000000) :
    Calls Try.prog 13 #[.agg #[.int .i64 32, .string t, .int .i64 n, .int .i64 m, .int .i64 a, .slice A P.len c]] w fun e w' => e = .returned (.bool (exprB 32 t n m P.inf)) ∧ Below w.heap.size w w' := by
  have hl : P.len ≤ 1000000000000000 := by omega
  obtain ⟨y, hy⟩ : ∃ y, exprB 32 t n m P.inf = y := ⟨_, rfl⟩
  rw [hy]
  rw [show exprB 32 t n m P.inf = (bareB t n m && (decide (1 ≤ P.inf.length) && P.inf.all (·.ex))) from rfl] at hy
  rw [inf_len] at hy
  have KB := Lib.hid (bare_any 32 t n m a P.len A c)
  have KAx := Lib.hid (fun W (hW : Below w.heap.size w W) => all_Expr (·.ex) P hall A c W ((hH.below hW).more hW.size) hl)
  unfold Flat at KB
  generalize bareB t n m = b3 at *
  generalize P.inf.all (·.ex) = b5 at *
  clear hlc hall hH
  generalize P.len = x at *
  have HY := Lib.hid hy
  clear hy
  go_enter Try.func13, Try.ntmps13
  go_wp2_with (first
    | (go_at_call 32; refine (KB.out _).mono ?_; rintro e w1 ⟨rfl, hb⟩; have bx := Box.later (by first | assumption | exact Box.new _ _ _ _ _ _ _ _ _) hb; have bx2 := bx; obtain ⟨-, -, c0, c1, c2, c3, c4, c5⟩ := bx2)
    | (go_at_call 34; refine (KAx.out _ (by first | exact Box.below (by assumption) | exact (Below.refl _ _).alloc (Nat.le_refl _) _)).mono ?_; rintro e w1 ⟨rfl, hb⟩; have bx := Box.later (by first | assumption | exact Box.new _ _ _ _ _ _ _ _ _) hb; have bx2 := bx; obtain ⟨-, -, c0, c1, c2, c3, c4, c5⟩ := bx2))
  all_goals
    go_ret
    refine ⟨ret_bool ?_, (by first | exact Box.below (by assumption) | exact (Below.refl _ _).alloc (Nat.le_refl _) _)⟩
    rw [← HY.out]; first | rfl | exact beq0 _ | (simp [*]; done) | (simp [*]; done) | (simp [*]; omega) | (simp_all; done)
set_option maxRecDepth 100000 in
set_option maxHeartbeats 2000000 in
theorem expr_33 (P : Fo) (hall : AllC (FunP 13 (·.ex)) P) (t : ByteArray) (n m a : Int) (A : Option Addr) (c : Nat) (w : World) (hH : Holds w w.heap.size P A 0) (hlc : P.len ≤ c) (hcc : c ≤ 1000000000000000) (ht : t.size ≤ 1000000000000000) :
    Calls Try.prog 13 #[.agg #[.int .i64 33, .string t, .int .i64 n, .int .i64 m, .int .i64 a, .slice A P.len c]] w fun e w' => e = .returned (.bool (exprB 33 t n m P.inf)) ∧ Below w.heap.size w w' := by
  have hl : P.len ≤ 1000000000000000 := by omega
  obtain ⟨y, hy⟩ : ∃ y, exprB 33 t n m P.inf = y := ⟨_, rfl⟩
  rw [hy]
  rw [show exprB 33 t n m P.inf = (idB t && (plainB n m && P.inf.all (·.ex))) from rfl] at hy
  have KI := Lib.hid (isname_any 33 t n m a P.len A c ht)
  have KP := Lib.hid (plain_any 33 t n m a P.len A c)
  have KAx := Lib.hid (fun W (hW : Below w.heap.size w W) => all_Expr (·.ex) P hall A c W ((hH.below hW).more hW.size) hl)
  unfold Flat at KI KP
  generalize idB t = b1 at *
  generalize plainB n m = b2 at *
  generalize P.inf.all (·.ex) = b5 at *
  clear hlc hall hH
  generalize P.len = x at *
  have HY := Lib.hid hy
  clear hy
  go_enter Try.func13, Try.ntmps13
  go_wp2_with (first
    | (go_at_call 31; refine (KI.out _).mono ?_; rintro e w1 ⟨rfl, hb⟩; have bx := Box.later (by first | assumption | exact Box.new _ _ _ _ _ _ _ _ _) hb; have bx2 := bx; obtain ⟨-, -, c0, c1, c2, c3, c4, c5⟩ := bx2)
    | (go_at_call 30; refine (KP.out _).mono ?_; rintro e w1 ⟨rfl, hb⟩; have bx := Box.later (by first | assumption | exact Box.new _ _ _ _ _ _ _ _ _) hb; have bx2 := bx; obtain ⟨-, -, c0, c1, c2, c3, c4, c5⟩ := bx2)
    | (go_at_call 34; refine (KAx.out _ (by first | exact Box.below (by assumption) | exact (Below.refl _ _).alloc (Nat.le_refl _) _)).mono ?_; rintro e w1 ⟨rfl, hb⟩; have bx := Box.later (by first | assumption | exact Box.new _ _ _ _ _ _ _ _ _) hb; have bx2 := bx; obtain ⟨-, -, c0, c1, c2, c3, c4, c5⟩ := bx2))
  all_goals
    go_ret
    refine ⟨ret_bool ?_, (by first | exact Box.below (by assumption) | exact (Below.refl _ _).alloc (Nat.le_refl _) _)⟩
    rw [← HY.out]; first | rfl | exact beq0 _ | (simp [*]; done) | (simp [*, beq0]; done) | (simp [*]; omega) | (simp_all; done)
set_option maxRecDepth 100000 in
set_option maxHeartbeats 2000000 in
theorem expr_36 (P : Fo) (hall : AllC (FunP 13 (·.ex)) P) (t : ByteArray) (n m a : Int) (A : Option Addr) (c : Nat) (w : World) (hH : Holds w w.heap.size P A 0) (hlc : P.len ≤ c) (hcc : c ≤ 1000000000000000) :
    Calls Try.prog 13 #[.agg #[.int .i64 36, .string t, .int .i64 n, .int .i64 m, .int .i64 a, .slice A P.len c]] w fun e w' => e = .returned (.bool (exprB 36 t n m P.inf)) ∧ Below w.heap.size w w' := by
  have hl : P.len ≤ 1000000000000000 := by omega
  obtain ⟨y, hy⟩ : ∃ y, exprB 36 t n m P.inf = y := ⟨_, rfl⟩
  rw [hy]
  rw [show exprB 36 t n m P.inf = (binB t && (plainB n m && exprsB P.inf 2)) from rfl] at hy
  have KS := Lib.hid (fun W => bin_any t W)
  have KP := Lib.hid (plain_any 36 t n m a P.len A c)
  have KX2 := Lib.hid (fun W (hW : Below w.heap.size w W) => exprs_any P hall 2 2 (by rfl) 36 t n m a A c W ((hH.below hW).more hW.size) hl)
  unfold Flat at KP
  generalize binB t = b7 at *
  generalize plainB n m = b2 at *
  generalize exprsB P.inf 2 = b8 at *
  clear hlc hall hH
  generalize P.len = x at *
  have HY := Lib.hid hy
  clear hy
  go_enter Try.func13, Try.ntmps13
  go_wp2_with (first
    | (go_at_call 48; refine (KS.out _).mono ?_; rintro e w1 ⟨rfl, rfl⟩)
    | (go_at_call 30; refine (KP.out _).mono ?_; rintro e w1 ⟨rfl, hb⟩; have bx := Box.later (by first | assumption | exact Box.new _ _ _ _ _ _ _ _ _) hb; have bx2 := bx; obtain ⟨-, -, c0, c1, c2, c3, c4, c5⟩ := bx2)
    | (go_at_call 46; refine (KX2.out _ (by first | exact Box.below (by assumption) | exact (Below.refl _ _).alloc (Nat.le_refl _) _)).mono ?_; rintro e w1 ⟨rfl, hb⟩; have bx := Box.later (by first | assumption | exact Box.new _ _ _ _ _ _ _ _ _) hb; have bx2 := bx; obtain ⟨-, -, c0, c1, c2, c3, c4, c5⟩ := bx2))
  all_goals
    go_ret
    refine ⟨ret_bool ?_, (by first | exact Box.below (by assumption) | exact (Below.refl _ _).alloc (Nat.le_refl _) _)⟩
    rw [← HY.out]; first | rfl | exact beq0 _ | (simp [*]; done) | (simp [*, beq0]; done) | (simp [*]; omega) | (simp_all; done)
set_option maxRecDepth 100000 in
set_option maxHeartbeats 2000000 in
theorem expr_37 (P : Fo) (hall : AllC (FunP 13 (·.ex)) P) (t : ByteArray) (n m a : Int) (A : Option Addr) (c : Nat) (w : World) (hH : Holds w w.heap.size P A 0) (hlc : P.len ≤ c) (hcc : c ≤ 1000000000000000) :
    Calls Try.prog 13 #[.agg #[.int .i64 37, .string t, .int .i64 n, .int .i64 m, .int .i64 a, .slice A P.len c]] w fun e w' => e = .returned (.bool (exprB 37 t n m P.inf)) ∧ Below w.heap.size w w' := by
  have hl : P.len ≤ 1000000000000000 := by omega
  obtain ⟨y, hy⟩ : ∃ y, exprB 37 t n m P.inf = y := ⟨_, rfl⟩
  rw [hy]
  rw [show exprB 37 t n m P.inf = (bareB t n m && exprsB P.inf 3) from rfl] at hy
  have KB := Lib.hid (bare_any 37 t n m a P.len A c)
  have KX3 := Lib.hid (fun W (hW : Below w.heap.size w W) => exprs_any P hall 3 3 (by rfl) 37 t n m a A c W ((hH.below hW).more hW.size) hl)
  unfold Flat at KB
  generalize bareB t n m = b3 at *
  generalize exprsB P.inf 3 = b8 at *
  clear hlc hall hH
  generalize P.len = x at *
  have HY := Lib.hid hy
  clear hy
  go_enter Try.func13, Try.ntmps13
  go_wp2_with (first
    | (go_at_call 32; refine (KB.out _).mono ?_; rintro e w1 ⟨rfl, hb⟩; have bx := Box.later (by first | assumption | exact Box.new _ _ _ _ _ _ _ _ _) hb; have bx2 := bx; obtain ⟨-, -, c0, c1, c2, c3, c4, c5⟩ := bx2)
    | (go_at_call 46; refine (KX3.out _ (by first | exact Box.below (by assumption) | exact (Below.refl _ _).alloc (Nat.le_refl _) _)).mono ?_; rintro e w1 ⟨rfl, hb⟩; have bx := Box.later (by first | assumption | exact Box.new _ _ _ _ _ _ _ _ _) hb; have bx2 := bx; obtain ⟨-, -, c0, c1, c2, c3, c4, c5⟩ := bx2))
  all_goals
    go_ret
    refine ⟨ret_bool ?_, (by first | exact Box.below (by assumption) | exact (Below.refl _ _).alloc (Nat.le_refl _) _)⟩
    rw [← HY.out]; first | rfl | exact beq0 _ | (simp [*]; done) | (simp [*, beq0]; done) | (simp [*]; omega) | (simp_all; done)
set_option maxRecDepth 100000 in
set_option maxHeartbeats 2000000 in
theorem expr_39 (P : Fo) (hall : AllC (FunP 13 (·.ex)) P) (t : ByteArray) (n m a : Int) (A : Option Addr) (c : Nat) (w : World) (hH : Holds w w.heap.size P A 0) (hlc : P.len ≤ c) (hcc : c ≤ 1000000000000000) :
    Calls Try.prog 13 #[.agg #[.int .i64 39, .string t, .int .i64 n, .int .i64 m, .int .i64 a, .slice A P.len c]] w fun e w' => e = .returned (.bool (exprB 39 t n m P.inf)) ∧ Below w.heap.size w w' := by
  have hl : P.len ≤ 1000000000000000 := by omega
  obtain ⟨y, hy⟩ : ∃ y, exprB 39 t n m P.inf = y := ⟨_, rfl⟩
  rw [hy]
  rw [show exprB 39 t n m P.inf = (bareB t n m && exprsB P.inf 1) from rfl] at hy
  have KB := Lib.hid (bare_any 39 t n m a P.len A c)
  have KX1 := Lib.hid (fun W (hW : Below w.heap.size w W) => exprs_any P hall 1 1 (by rfl) 39 t n m a A c W ((hH.below hW).more hW.size) hl)
  unfold Flat at KB
  generalize bareB t n m = b3 at *
  generalize exprsB P.inf 1 = b8 at *
  clear hlc hall hH
  generalize P.len = x at *
  have HY := Lib.hid hy
  clear hy
  go_enter Try.func13, Try.ntmps13
  go_wp2_with (first
    | (go_at_call 32; refine (KB.out _).mono ?_; rintro e w1 ⟨rfl, hb⟩; have bx := Box.later (by first | assumption | exact Box.new _ _ _ _ _ _ _ _ _) hb; have bx2 := bx; obtain ⟨-, -, c0, c1, c2, c3, c4, c5⟩ := bx2)
    | (go_at_call 46; refine (KX1.out _ (by first | exact Box.below (by assumption) | exact (Below.refl _ _).alloc (Nat.le_refl _) _)).mono ?_; rintro e w1 ⟨rfl, hb⟩; have bx := Box.later (by first | assumption | exact Box.new _ _ _ _ _ _ _ _ _) hb; have bx2 := bx; obtain ⟨-, -, c0, c1, c2, c3, c4, c5⟩ := bx2))
  all_goals
    go_ret
    refine ⟨ret_bool ?_, (by first | exact Box.below (by assumption) | exact (Below.refl _ _).alloc (Nat.le_refl _) _)⟩
    rw [← HY.out]; first | rfl | exact beq0 _ | (simp [*]; done) | (simp [*, beq0]; done) | (simp [*]; omega) | (simp_all; done)
set_option maxRecDepth 100000 in
set_option maxHeartbeats 2000000 in
theorem expr_40 (P : Fo) (hall : AllC (FunP 13 (·.ex)) P) (t : ByteArray) (n m a : Int) (A : Option Addr) (c : Nat) (w : World) (hH : Holds w w.heap.size P A 0) (hlc : P.len ≤ c) (hcc : c ≤ 1000000000000000) :
    Calls Try.prog 13 #[.agg #[.int .i64 40, .string t, .int .i64 n, .int .i64 m, .int .i64 a, .slice A P.len c]] w fun e w' => e = .returned (.bool (exprB 40 t n m P.inf)) ∧ Below w.heap.size w w' := by
  have hl : P.len ≤ 1000000000000000 := by omega
  obtain ⟨y, hy⟩ : ∃ y, exprB 40 t n m P.inf = y := ⟨_, rfl⟩
  rw [hy]
  rw [show exprB 40 t n m P.inf = (bareB t n m && exprsB P.inf 1) from rfl] at hy
  have KB := Lib.hid (bare_any 40 t n m a P.len A c)
  have KX1 := Lib.hid (fun W (hW : Below w.heap.size w W) => exprs_any P hall 1 1 (by rfl) 40 t n m a A c W ((hH.below hW).more hW.size) hl)
  unfold Flat at KB
  generalize bareB t n m = b3 at *
  generalize exprsB P.inf 1 = b8 at *
  clear hlc hall hH
  generalize P.len = x at *
  have HY := Lib.hid hy
  clear hy
  go_enter Try.func13, Try.ntmps13
  go_wp2_with (first
    | (go_at_call 32; refine (KB.out _).mono ?_; rintro e w1 ⟨rfl, hb⟩; have bx := Box.later (by first | assumption | exact Box.new _ _ _ _ _ _ _ _ _) hb; have bx2 := bx; obtain ⟨-, -, c0, c1, c2, c3, c4, c5⟩ := bx2)
    | (go_at_call 46; refine (KX1.out _ (by first | exact Box.below (by assumption) | exact (Below.refl _ _).alloc (Nat.le_refl _) _)).mono ?_; rintro e w1 ⟨rfl, hb⟩; have bx := Box.later (by first | assumption | exact Box.new _ _ _ _ _ _ _ _ _) hb; have bx2 := bx; obtain ⟨-, -, c0, c1, c2, c3, c4, c5⟩ := bx2))
  all_goals
    go_ret
    refine ⟨ret_bool ?_, (by first | exact Box.below (by assumption) | exact (Below.refl _ _).alloc (Nat.le_refl _) _)⟩
    rw [← HY.out]; first | rfl | exact beq0 _ | (simp [*]; done) | (simp [*, beq0]; done) | (simp [*]; omega) | (simp_all; done)
set_option maxRecDepth 100000 in
set_option maxHeartbeats 2000000 in
theorem expr_34 (P : Fo) (hallb : AllC (FunP 57 (·.blk)) P) (t : ByteArray) (n m a : Int) (A : Option Addr) (c : Nat) (w : World) (hH : Holds w w.heap.size P A 0) (hlc : P.len ≤ c) (hcc : c ≤ 1000000000000000) :
    Calls Try.prog 13 #[.agg #[.int .i64 34, .string t, .int .i64 n, .int .i64 m, .int .i64 a, .slice A P.len c]] w fun e w' => e = .returned (.bool (exprB 34 t n m P.inf)) ∧ Below w.heap.size w w' := by
  have hl : P.len ≤ 1000000000000000 := by omega
  obtain ⟨y, hy⟩ : ∃ y, exprB 34 t n m P.inf = y := ⟨_, rfl⟩
  rw [hy]
  rw [show exprB 34 t n m P.inf = (emptyB t && ((m == 0) && routB n P.inf true)) from rfl] at hy
  by_cases hm : m = 0
  · subst hm
    have KN := Lib.hid (notext_any 34 t n 0 a P.len A c)
    have KR := Lib.hid (fun W (hW : Below w.heap.size w W) => routine_any P hallb 34 t n 0 a P.len A c true A c W ((hH.below hW).more hW.size) hlc hcc)
    unfold Flat at KN
    generalize emptyB t = b4 at *
    generalize routB n P.inf true = b6 at *
    clear hlc hallb hH
    generalize P.len = x at *
    have HY := Lib.hid hy
    clear hy
    go_enter Try.func13, Try.ntmps13
    go_wp2_with (first
      | (go_at_call 29; refine (KN.out _).mono ?_; rintro e w1 ⟨rfl, hb⟩; have bx := Box.later (by first | assumption | exact Box.new _ _ _ _ _ _ _ _ _) hb; have bx2 := bx; obtain ⟨-, -, c0, c1, c2, c3, c4, c5⟩ := bx2)
      | (go_at_call 47; refine (KR.out _ (by first | exact Box.below (by assumption) | exact (Below.refl _ _).alloc (Nat.le_refl _) _)).mono ?_; rintro e w1 ⟨rfl, hb⟩; have bx := Box.later (by first | assumption | exact Box.new _ _ _ _ _ _ _ _ _) hb; have bx2 := bx; obtain ⟨-, -, c0, c1, c2, c3, c4, c5⟩ := bx2))
    all_goals
      go_ret
      refine ⟨ret_bool ?_, (by first | exact Box.below (by assumption) | exact (Below.refl _ _).alloc (Nat.le_refl _) _)⟩
      rw [← HY.out]; first | rfl | exact beq0 _ | (simp [*]; done) | (simp [*, beq0]; done) | (simp [*]; omega) | (simp_all; done)
  · have tm : (m == 0) = false := beq_eq_false_iff_ne.2 hm
    rw [tm] at hy
    have KN := Lib.hid (notext_any 34 t n m a P.len A c)
    unfold Flat at KN
    generalize emptyB t = b4 at *
    clear hallb hH hm
    clear hlc
    generalize P.len = x at *
    have HY := Lib.hid hy
    clear hy
    go_enter Try.func13, Try.ntmps13
    go_wp2_with (first
      | (go_at_call 29; refine (KN.out _).mono ?_; rintro e w1 ⟨rfl, hb⟩; have bx := Box.later (by first | assumption | exact Box.new _ _ _ _ _ _ _ _ _) hb; have bx2 := bx; obtain ⟨-, -, c0, c1, c2, c3, c4, c5⟩ := bx2))
    all_goals
      go_ret
      refine ⟨ret_bool ?_, (by first | exact Box.below (by assumption) | exact (Below.refl _ _).alloc (Nat.le_refl _) _)⟩
      rw [← HY.out]; first | rfl | exact beq0 _ | (simp [*]; done) | (simp [*, beq0]; done) | (simp [*]; omega) | (simp_all; done)
set_option maxRecDepth 100000 in
set_option maxHeartbeats 2000000 in
theorem expr_35 (P : Fo) (hall : AllC (FunP 13 (·.ex)) P) (t : ByteArray) (n m a : Int) (A : Option Addr) (c : Nat) (w : World) (hH : Holds w w.heap.size P A 0) (hlc : P.len ≤ c) (hcc : c ≤ 1000000000000000) :
    Calls Try.prog 13 #[.agg #[.int .i64 35, .string t, .int .i64 n, .int .i64 m, .int .i64 a, .slice A P.len c]] w fun e w' => e = .returned (.bool (exprB 35 t n m P.inf)) ∧ Below w.heap.size w w' := by
  have hl : P.len ≤ 1000000000000000 := by omega
  obtain ⟨y, hy⟩ : ∃ y, exprB 35 t n m P.inf = y := ⟨_, rfl⟩
  rw [hy]
  rw [show exprB 35 t n m P.inf = (((t.toList == [45]) || (t.toList == [33])) && (plainB n m && exprsB P.inf 1)) from rfl] at hy
  have KP := Lib.hid (plain_any 35 t n m a P.len A c)
  have KX1 := Lib.hid (fun W (hW : Below w.heap.size w W) => exprs_any P hall 1 1 (by rfl) 35 t n m a A c W ((hH.below hW).more hW.size) hl)
  unfold Flat at KP
  generalize plainB n m = b2 at *
  generalize exprsB P.inf 1 = b8 at *
  clear hlc hall hH
  generalize P.len = x at *
  have HY := Lib.hid hy
  clear hy
  go_enter Try.func13, Try.ntmps13
  go_wp2_with (first
    | (go_at_call 30; refine (KP.out _).mono ?_; rintro e w1 ⟨rfl, hb⟩; have bx := Box.later (by first | assumption | exact Box.new _ _ _ _ _ _ _ _ _) hb; have bx2 := bx; obtain ⟨-, -, c0, c1, c2, c3, c4, c5⟩ := bx2)
    | (go_at_call 46; refine (KX1.out _ (by first | exact Box.below (by assumption) | exact (Below.refl _ _).alloc (Nat.le_refl _) _)).mono ?_; rintro e w1 ⟨rfl, hb⟩; have bx := Box.later (by first | assumption | exact Box.new _ _ _ _ _ _ _ _ _) hb; have bx2 := bx; obtain ⟨-, -, c0, c1, c2, c3, c4, c5⟩ := bx2))
  all_goals
    go_ret
    refine ⟨ret_bool ?_, (by first | exact Box.below (by assumption) | exact (Below.refl _ _).alloc (Nat.le_refl _) _)⟩
    rw [← HY.out]; first | rfl | exact beq0 _ | (simp [*]; done) | (simp [*, beq0]; done) | (simp [*]; omega) | (simp_all; done)
set_option maxRecDepth 100000 in
set_option maxHeartbeats 2000000 in
theorem expr_38 (P : Fo) (hall : AllC (FunP 13 (·.ex)) P) (t : ByteArray) (n m a : Int) (A : Option Addr) (c : Nat) (w : World) (hH : Holds w w.heap.size P A 0) (hlc : P.len ≤ c) :
    Calls Try.prog 13 #[.agg #[.int .i64 38, .string t, .int .i64 n, .int .i64 m, .int .i64 a, .slice A P.len c]] w fun e w' => e = .returned (.bool (exprB 38 t n m P.inf)) ∧ Below w.heap.size w w' := by
  have hallT : AllC (FunP 11 (·.ty)) P := AllC.of (fun Q => (type_prog Q).1) P
  obtain ⟨y, hy⟩ : ∃ y, exprB 38 t n m P.inf = y := ⟨_, rfl⟩
  rw [hy]
  rw [show exprB 38 t n m P.inf = (bareB t n m && (lenB P.inf 2 && ((P.inf.take 1).all (·.ex) && (P.inf.drop 1).all (·.ty)))) from rfl] at hy
  unfold lenB at hy
  rw [inf_len] at hy
  have KB := Lib.hid (bare_any 38 t n m a P.len A c)
  unfold Flat at KB
  generalize bareB t n m = b3 at *
  by_cases h2 : P.len = 2
  case neg =>
    have t2 : (((P.len : Nat) : Int) == 2) = false := by simp; omega
    have HY : Hid (false = y) := Lib.hid (by rw [← hy, decide_eq_false h2]; simp)
    clear hy hH hall hallT hlc h2
    generalize P.len = x at *
    go_enter Try.func13, Try.ntmps13
    go_wp2_with (first
      | (go_at_call 32; refine (KB.out _).mono ?_; rintro e w1 ⟨rfl, hb⟩; have bx := Box.later (by first | assumption | exact Box.new _ _ _ _ _ _ _ _ _) hb; have bx2 := bx; obtain ⟨-, -, c0, c1, c2, c3, c4, c5⟩ := bx2))
    all_goals
      go_ret
      refine ⟨ret_bool ?_, (by first | exact Box.below (by assumption) | exact (Below.refl _ _).alloc (Nat.le_refl _) _)⟩
      exact HY.out
  obtain ⟨k1, t1, n1, m1, a1, Q1, ad, A1, d1, R1, rfl, hd1, hR1, hP1⟩ := part_at hH (j := 0) (by omega)
  obtain ⟨k2, t2, n2, m2, a2, Q2, ad2, A2, d2, R2, had, hd2, hR2, hP2⟩ := part_at hH (j := 1) (by omega)
  cases had
  have e2 := drop_last hd2 hR2 (by omega)
  have e1 : P.inf.take 1 = [mk k1 t1 n1 m1 Q1.inf] := by
    rw [show P.inf = P.inf.drop 0 by simp, hd1]; rfl
  rw [e1, e2, decide_eq_true h2] at hy
  simp only [List.all_cons, List.all_nil, Bool.and_true, Bool.true_and] at hy
  have K1 := Lib.hid (hP1.good _ _ hall)
  have K2 := Lib.hid (hP2.good _ _ hallT)
  have FX1 : Hid (∀ W, Below w.heap.size w W → At6 W ad k1 t1 n1 m1 a1 Q1.len A1 d1) := Lib.hid (fun W hW => hP1.cells W hW)
  have FX2 : Hid (∀ W, Below w.heap.size w W → At6 W ⟨ad.block, ad.off + 6, none⟩ k2 t2 n2 m2 a2 Q2.len A2 d2) := Lib.hid (fun W hW => hP2.cells W hW)
  have h2c : 2 ≤ c := by omega
  rw [h2] at KB ⊢
  unfold At6 at FX1 FX2
  clear e1 e2 hH hall hallT hd1 hR1 hP1 hd2 hR2 hP2 hlc h2
  generalize (mk k1 t1 n1 m1 Q1.inf).ex = b5 at *
  generalize (mk k2 t2 n2 m2 Q2.inf).ty = b6 at *
  generalize Q1.len = x1 at *
  generalize Q2.len = x2 at *
  have HY := Lib.hid hy
  clear hy
  go_enter Try.func13, Try.ntmps13
  go_wp2_with (first
    | (go_at_call 32; refine (KB.out _).mono ?_; rintro e w1 ⟨rfl, hb⟩; have bx := Box.later (by first | assumption | exact Box.new _ _ _ _ _ _ _ _ _) hb; have bx2 := bx; obtain ⟨-, -, c0, c1, c2, c3, c4, c5⟩ := bx2; obtain ⟨f0, f1, f2, f3, f4, f5⟩ := FX1.out _ (Box.below (by assumption)))
    | (go_at_call 13; refine (K1.out _ (by first | exact Box.below (by assumption) | exact (Below.refl _ _).alloc (Nat.le_refl _) _)).mono ?_; rintro e w1 ⟨rfl, hb⟩; have bx := Box.later (by first | assumption | exact Box.new _ _ _ _ _ _ _ _ _) hb; have bx2 := bx; obtain ⟨-, -, c0, c1, c2, c3, c4, c5⟩ := bx2; obtain ⟨g0, g1, g2, g3, g4, g5⟩ := FX2.out _ (Box.below (by assumption)))
    | (go_at_call 11; refine (K2.out _ (by first | exact Box.below (by assumption) | exact (Below.refl _ _).alloc (Nat.le_refl _) _)).mono ?_; rintro e w1 ⟨rfl, hb⟩; have bx := Box.later (by first | assumption | exact Box.new _ _ _ _ _ _ _ _ _) hb; have bx2 := bx; obtain ⟨-, -, c0, c1, c2, c3, c4, c5⟩ := bx2))
  all_goals
    go_ret
    refine ⟨ret_bool ?_, (by first | exact Box.below (by assumption) | exact (Below.refl _ _).alloc (Nat.le_refl _) _)⟩
    rw [← HY.out]; first | rfl | exact beq0 _ | (simp [*]; done) | (simp [*, beq0]; done) | (simp [*]; omega) | (simp_all; done)
set_option maxRecDepth 100000 in
set_option maxHeartbeats 1000000 in
theorem expr_else (k : Int) (t : ByteArray) (n m a : Int) (l : Nat) (A : Option Addr) (c : Nat) (w : World) (h : k ≠ 20 ∧ k ≠ 21 ∧ k ≠ 22 ∧ k ≠ 23 ∧ k ≠ 24 ∧ k ≠ 25 ∧ k ≠ 26 ∧ k ≠ 27 ∧ k ≠ 29 ∧ k ≠ 30 ∧ k ≠ 31 ∧ k ≠ 32 ∧ k ≠ 33 ∧ k ≠ 34 ∧ k ≠ 35 ∧ k ≠ 36 ∧ k ≠ 37 ∧ k ≠ 38 ∧ k ≠ 39 ∧ k ≠ 40) :
    Calls Try.prog 13 #[.agg #[.int .i64 k, .string t, .int .i64 n, .int .i64 m, .int .i64 a, .slice A l c]] w fun e w' => e = .returned (.bool false) ∧ Below w.heap.size w w' := by
  obtain ⟨h20, h21, h22, h23, h24, h25, h26, h27, h29, h30, h31, h32, h33, h34, h35, h36, h37, h38, h39, h40⟩ := h
  have t20 : (k == 20) = false := beq_eq_false_iff_ne.2 h20
  have t21 : (k == 21) = false := beq_eq_false_iff_ne.2 h21
  have t22 : (k == 22) = false := beq_eq_false_iff_ne.2 h22
  have t23 : (k == 23) = false := beq_eq_false_iff_ne.2 h23
  have t24 : (k == 24) = false := beq_eq_false_iff_ne.2 h24
  have t25 : (k == 25) = false := beq_eq_false_iff_ne.2 h25
  have t26 : (k == 26) = false := beq_eq_false_iff_ne.2 h26
  have t27 : (k == 27) = false := beq_eq_false_iff_ne.2 h27
  have t29 : (k == 29) = false := beq_eq_false_iff_ne.2 h29
  have t30 : (k == 30) = false := beq_eq_false_iff_ne.2 h30
  have t31 : (k == 31) = false := beq_eq_false_iff_ne.2 h31
  have t32 : (k == 32) = false := beq_eq_false_iff_ne.2 h32
  have t33 : (k == 33) = false := beq_eq_false_iff_ne.2 h33
  have t34 : (k == 34) = false := beq_eq_false_iff_ne.2 h34
  have t35 : (k == 35) = false := beq_eq_false_iff_ne.2 h35
  have t36 : (k == 36) = false := beq_eq_false_iff_ne.2 h36
  have t37 : (k == 37) = false := beq_eq_false_iff_ne.2 h37
  have t38 : (k == 38) = false := beq_eq_false_iff_ne.2 h38
  have t39 : (k == 39) = false := beq_eq_false_iff_ne.2 h39
  have t40 : (k == 40) = false := beq_eq_false_iff_ne.2 h40
  clear h20 h21 h22 h23 h24 h25 h26 h27 h29 h30 h31 h32 h33 h34 h35 h36 h37 h38 h39 h40
  go_enter Try.func13, Try.ntmps13
  go_wp2_with fail
  go_ret
  exact ⟨rfl, (Below.refl _ _).alloc (Nat.le_refl _) _⟩
theorem exprB_else (k : Int) (t : ByteArray) (n m : Int) (l : List Inf) (h : k ≠ 20 ∧ k ≠ 21 ∧ k ≠ 22 ∧ k ≠ 23 ∧ k ≠ 24 ∧ k ≠ 25 ∧ k ≠ 26 ∧ k ≠ 27 ∧ k ≠ 29 ∧ k ≠ 30 ∧ k ≠ 31 ∧ k ≠ 32 ∧ k ≠ 33 ∧ k ≠ 34 ∧ k ≠ 35 ∧ k ≠ 36 ∧ k ≠ 37 ∧ k ≠ 38 ∧ k ≠ 39 ∧ k ≠ 40) : exprB k t n m l = false := by
  obtain ⟨h20, h21, h22, h23, h24, h25, h26, h27, h29, h30, h31, h32, h33, h34, h35, h36, h37, h38, h39, h40⟩ := h
  simp [exprB, *]
theorem expr_step (P : Fo) (hall : AllC (FunP 13 (·.ex)) P) (hallf : AllC (FunP 45 (·.efl)) P) (hallb : AllC (FunP 57 (·.blk)) P) : FunP 13 (·.ex) P := by
  intro k t n m a A c w hH hlc hcc ht
  show Calls _ _ _ _ fun e w' => e = .returned (.bool (exprB k t n m P.inf)) ∧ _
  simp only [val6, cells6]
  by_cases h : k ≠ 20 ∧ k ≠ 21 ∧ k ≠ 22 ∧ k ≠ 23 ∧ k ≠ 24 ∧ k ≠ 25 ∧ k ≠ 26 ∧ k ≠ 27 ∧ k ≠ 29 ∧ k ≠ 30 ∧ k ≠ 31 ∧ k ≠ 32 ∧ k ≠ 33 ∧ k ≠ 34 ∧ k ≠ 35 ∧ k ≠ 36 ∧ k ≠ 37 ∧ k ≠ 38 ∧ k ≠ 39 ∧ k ≠ 40
  · rw [exprB_else k t n m _ h]; exact expr_else k t n m a _ A c w h
  · have h' : k = 20 ∨ k = 21 ∨ k = 22 ∨ k = 23 ∨ k = 24 ∨ k = 25 ∨ k = 26 ∨ k = 27 ∨ k = 29 ∨ k = 30 ∨ k = 31 ∨ k = 32 ∨ k = 33 ∨ k = 34 ∨ k = 35 ∨ k = 36 ∨ k = 37 ∨ k = 38 ∨ k = 39 ∨ k = 40 := by omega
    clear h
    rcases h' with rfl | rfl | rfl | rfl | rfl | rfl | rfl | rfl | rfl | rfl | rfl | rfl | rfl | rfl | rfl | rfl | rfl | rfl | rfl | rfl
    · exact expr_20 P t n m a A c w hlc hcc
    · exact expr_21 P t n m a A c w hlc hcc
    · exact expr_22 P t n m a A c w hlc hcc
    · exact expr_23 P t n m a A c w hlc hcc
    · exact expr_24 P t n m a A c w hlc hcc
    · exact expr_25 P t n m a A c w hlc hcc ht
    · exact expr_26 P t n m a A c w hlc hcc
    · exact expr_27 P hallf t n m a A c w hH hlc hcc
    · exact expr_29 P hall t n m a A c w hH hlc hcc
    · exact expr_30 P hall t n m a A c w hH hlc hcc ht
    · exact expr_31 P hall t n m a A c w hH hlc hcc
    · exact expr_32 P hall t n m a A c w hH hlc hcc
    · exact expr_33 P hall t n m a A c w hH hlc hcc ht
    · exact expr_34 P hallb t n m a A c w hH hlc hcc
    · exact expr_35 P hall t n m a A c w hH hlc hcc
    · exact expr_36 P hall t n m a A c w hH hlc hcc
    · exact expr_37 P hall t n m a A c w hH hlc hcc
    · exact expr_38 P hall t n m a A c w hH hlc
    · exact expr_39 P hall t n m a A c w hH hlc hcc
    · exact expr_40 P hall t n m a A c w hH hlc hcc
end Go.Proofs.Ytogoolpgajopcaa
