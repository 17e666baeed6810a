import Derived.Test.YtogoolpgajopcaaTrFh
namespace Go.Proofs.Ytogoolpgajopcaa
open Go.RowKit
set_option maxRecDepth 100000 in
set_option maxHeartbeats 2000000 in
theorem stat_53 (P : Fo) (hall : AllC (FunP 13 (·.ex)) P) (t : ByteArray) (n m a : Int) (A : Option Addr) (c : Nat) (w : World) (hH : Holds w w.heap.size P A 0) (hlc : P.len ≤ c) (hcc : c ≤ 1000000000000000) :
    Calls Try.prog 15 #[.agg #[.int .i64 53, .string t, .int .i64 n, .int .i64 m, .int .i64 a, .slice A P.len c]] w fun e w' => e = .returned (.bool (statB 53 t n m P.inf)) ∧ Below w.heap.size w w' := by
  have hl : P.len ≤ 1000000000000000 := by omega
  obtain ⟨y, hy⟩ : ∃ y, statB 53 t n m P.inf = y := ⟨_, rfl⟩
  rw [hy]
  rw [show statB 53 t n m P.inf = (bareB t n m && exprsB P.inf 1) from rfl] at hy
  have KB := Lib.hid (bare_any 53 t n m a P.len A c)
  have KX1 := Lib.hid (fun W (hW : Below w.heap.size w W) => exprs_any P hall 1 1 (by rfl) 53 t n m a A c W ((hH.below hW).more hW.size) hl)
  unfold Flat at KB
  generalize bareB t n m = b3 at *
  generalize exprsB P.inf 1 = b8 at *
  clear hlc hall hH
  generalize P.len = x at *
  have HY := Lib.hid hy
  clear hy
  go_enter Try.func15, Try.ntmps15
  go_wp2_with (first
    | (go_at_call 32; refine (KB.out _).mono ?_; rintro e w1 ⟨rfl, hb⟩; have bx := Box.later (by first | assumption | exact Box.new _ _ _ _ _ _ _ _ _) hb; have bx2 := bx; obtain ⟨-, -, c0, c1, c2, c3, c4, c5⟩ := bx2)
    | (go_at_call 46; refine (KX1.out _ (by first | exact Box.below (by assumption) | exact (Below.refl _ _).alloc (Nat.le_refl _) _)).mono ?_; rintro e w1 ⟨rfl, hb⟩; have bx := Box.later (by first | assumption | exact Box.new _ _ _ _ _ _ _ _ _) hb; have bx2 := bx; obtain ⟨-, -, c0, c1, c2, c3, c4, c5⟩ := bx2))
  all_goals
    go_ret
    refine ⟨ret_bool ?_, (by first | exact Box.below (by assumption) | exact (Below.refl _ _).alloc (Nat.le_refl _) _)⟩
    first | exact HY.out | (rw [← HY.out]; first | rfl | exact beq0 _ | (simp [*]; done) | (simp [*, beq0]; done) | (simp [*]; omega) | (simp_all; done))
set_option maxRecDepth 100000 in
set_option maxHeartbeats 2000000 in
theorem stat_57 (P : Fo) (hall : AllC (FunP 13 (·.ex)) P) (t : ByteArray) (n m a : Int) (A : Option Addr) (c : Nat) (w : World) (hH : Holds w w.heap.size P A 0) (hlc : P.len ≤ c) (hcc : c ≤ 1000000000000000) :
    Calls Try.prog 15 #[.agg #[.int .i64 57, .string t, .int .i64 n, .int .i64 m, .int .i64 a, .slice A P.len c]] w fun e w' => e = .returned (.bool (statB 57 t n m P.inf)) ∧ Below w.heap.size w w' := by
  have hl : P.len ≤ 1000000000000000 := by omega
  obtain ⟨y, hy⟩ : ∃ y, statB 57 t n m P.inf = y := ⟨_, rfl⟩
  rw [hy]
  rw [show statB 57 t n m P.inf = (bareB t n m && exprsB P.inf 1) from rfl] at hy
  have KB := Lib.hid (bare_any 57 t n m a P.len A c)
  have KX1 := Lib.hid (fun W (hW : Below w.heap.size w W) => exprs_any P hall 1 1 (by rfl) 57 t n m a A c W ((hH.below hW).more hW.size) hl)
  unfold Flat at KB
  generalize bareB t n m = b3 at *
  generalize exprsB P.inf 1 = b8 at *
  clear hlc hall hH
  generalize P.len = x at *
  have HY := Lib.hid hy
  clear hy
  go_enter Try.func15, Try.ntmps15
  go_wp2_with (first
    | (go_at_call 32; refine (KB.out _).mono ?_; rintro e w1 ⟨rfl, hb⟩; have bx := Box.later (by first | assumption | exact Box.new _ _ _ _ _ _ _ _ _) hb; have bx2 := bx; obtain ⟨-, -, c0, c1, c2, c3, c4, c5⟩ := bx2)
    | (go_at_call 46; refine (KX1.out _ (by first | exact Box.below (by assumption) | exact (Below.refl _ _).alloc (Nat.le_refl _) _)).mono ?_; rintro e w1 ⟨rfl, hb⟩; have bx := Box.later (by first | assumption | exact Box.new _ _ _ _ _ _ _ _ _) hb; have bx2 := bx; obtain ⟨-, -, c0, c1, c2, c3, c4, c5⟩ := bx2))
  all_goals
    go_ret
    refine ⟨ret_bool ?_, (by first | exact Box.below (by assumption) | exact (Below.refl _ _).alloc (Nat.le_refl _) _)⟩
    first | exact HY.out | (rw [← HY.out]; first | rfl | exact beq0 _ | (simp [*]; done) | (simp [*, beq0]; done) | (simp [*]; omega) | (simp_all; done))
set_option maxRecDepth 100000 in
set_option maxHeartbeats 2000000 in
theorem stat_50 (P : Fo) (hall : AllC (FunP 13 (·.ex)) P) (t : ByteArray) (n m a : Int) (A : Option Addr) (c : Nat) (w : World) (hH : Holds w w.heap.size P A 0) (hlc : P.len ≤ c) (hcc : c ≤ 1000000000000000) (ht : t.size ≤ 1000000000000000) :
    Calls Try.prog 15 #[.agg #[.int .i64 50, .string t, .int .i64 n, .int .i64 m, .int .i64 a, .slice A P.len c]] w fun e w' => e = .returned (.bool (statB 50 t n m P.inf)) ∧ Below w.heap.size w w' := by
  have hl : P.len ≤ 1000000000000000 := by omega
  obtain ⟨y, hy⟩ : ∃ y, statB 50 t n m P.inf = y := ⟨_, rfl⟩
  rw [hy]
  rw [show statB 50 t n m P.inf = (idB t && ((m == 0) && heldB n P.inf)) from rfl] at hy
  by_cases hm : m = 0
  · subst hm
    have KI := Lib.hid (isname_any 50 t n 0 a P.len A c ht)
    have KH := Lib.hid (fun W (hW : Below w.heap.size w W) => held_any P hall 50 t n 0 a A c W ((hH.below hW).more hW.size) hlc hcc)
    unfold Flat at KI
    generalize idB t = b1 at *
    generalize heldB n P.inf = b6 at *
    clear hlc hall hH
    generalize P.len = x at *
    have HY := Lib.hid hy
    clear hy
    go_enter Try.func15, Try.ntmps15
    go_wp2_with (first
      | (go_at_call 31; refine (KI.out _).mono ?_; rintro e w1 ⟨rfl, hb⟩; have bx := Box.later (by first | assumption | exact Box.new _ _ _ _ _ _ _ _ _) hb; have bx2 := bx; obtain ⟨-, -, c0, c1, c2, c3, c4, c5⟩ := bx2)
      | (go_at_call 54; refine (KH.out _ (by first | exact Box.below (by assumption) | exact (Below.refl _ _).alloc (Nat.le_refl _) _)).mono ?_; rintro e w1 ⟨rfl, hb⟩; have bx := Box.later (by first | assumption | exact Box.new _ _ _ _ _ _ _ _ _) hb; have bx2 := bx; obtain ⟨-, -, c0, c1, c2, c3, c4, c5⟩ := bx2))
    all_goals
      go_ret
      refine ⟨ret_bool ?_, (by first | exact Box.below (by assumption) | exact (Below.refl _ _).alloc (Nat.le_refl _) _)⟩
      first | exact HY.out | (rw [← HY.out]; first | rfl | exact beq0 _ | (simp [*]; done) | (simp [*, beq0]; done) | (simp [*]; omega) | (simp_all; done))
  · have tm : (m == 0) = false := beq_eq_false_iff_ne.2 hm
    rw [tm] at hy
    have KI := Lib.hid (isname_any 50 t n m a P.len A c ht)
    unfold Flat at KI
    generalize idB t = b1 at *
    clear hall hH hm
    clear hlc
    generalize P.len = x at *
    have HY := Lib.hid hy
    clear hy
    go_enter Try.func15, Try.ntmps15
    go_wp2_with (first
      | (go_at_call 31; refine (KI.out _).mono ?_; rintro e w1 ⟨rfl, hb⟩; have bx := Box.later (by first | assumption | exact Box.new _ _ _ _ _ _ _ _ _) hb; have bx2 := bx; obtain ⟨-, -, c0, c1, c2, c3, c4, c5⟩ := bx2))
    all_goals
      go_ret
      refine ⟨ret_bool ?_, (by first | exact Box.below (by assumption) | exact (Below.refl _ _).alloc (Nat.le_refl _) _)⟩
      first | exact HY.out | (rw [← HY.out]; first | rfl | exact beq0 _ | (simp [*]; done) | (simp [*, beq0]; done) | (simp [*]; omega) | (simp_all; done))
set_option maxRecDepth 100000 in
set_option maxHeartbeats 2000000 in
theorem stat_51 (P : Fo) (hall : AllC (FunP 13 (·.ex)) P) (t : ByteArray) (n m a : Int) (A : Option Addr) (c : Nat) (w : World) (hH : Holds w w.heap.size P A 0) (hlc : P.len ≤ c) (hcc : c ≤ 1000000000000000) (ht : t.size ≤ 1000000000000000) :
    Calls Try.prog 15 #[.agg #[.int .i64 51, .string t, .int .i64 n, .int .i64 m, .int .i64 a, .slice A P.len c]] w fun e w' => e = .returned (.bool (statB 51 t n m P.inf)) ∧ Below w.heap.size w w' := by
  have hl : P.len ≤ 1000000000000000 := by omega
  obtain ⟨y, hy⟩ : ∃ y, statB 51 t n m P.inf = y := ⟨_, rfl⟩
  rw [hy]
  rw [show statB 51 t n m P.inf = (idB t && ((m == 0) && heldB n P.inf)) from rfl] at hy
  by_cases hm : m = 0
  · subst hm
    have KI := Lib.hid (isname_any 51 t n 0 a P.len A c ht)
    have KH := Lib.hid (fun W (hW : Below w.heap.size w W) => held_any P hall 51 t n 0 a A c W ((hH.below hW).more hW.size) hlc hcc)
    unfold Flat at KI
    generalize idB t = b1 at *
    generalize heldB n P.inf = b6 at *
    clear hlc hall hH
    generalize P.len = x at *
    have HY := Lib.hid hy
    clear hy
    go_enter Try.func15, Try.ntmps15
    go_wp2_with (first
      | (go_at_call 31; refine (KI.out _).mono ?_; rintro e w1 ⟨rfl, hb⟩; have bx := Box.later (by first | assumption | exact Box.new _ _ _ _ _ _ _ _ _) hb; have bx2 := bx; obtain ⟨-, -, c0, c1, c2, c3, c4, c5⟩ := bx2)
      | (go_at_call 54; refine (KH.out _ (by first | exact Box.below (by assumption) | exact (Below.refl _ _).alloc (Nat.le_refl _) _)).mono ?_; rintro e w1 ⟨rfl, hb⟩; have bx := Box.later (by first | assumption | exact Box.new _ _ _ _ _ _ _ _ _) hb; have bx2 := bx; obtain ⟨-, -, c0, c1, c2, c3, c4, c5⟩ := bx2))
    all_goals
      go_ret
      refine ⟨ret_bool ?_, (by first | exact Box.below (by assumption) | exact (Below.refl _ _).alloc (Nat.le_refl _) _)⟩
      first | exact HY.out | (rw [← HY.out]; first | rfl | exact beq0 _ | (simp [*]; done) | (simp [*, beq0]; done) | (simp [*]; omega) | (simp_all; done))
  · have tm : (m == 0) = false := beq_eq_false_iff_ne.2 hm
    rw [tm] at hy
    have KI := Lib.hid (isname_any 51 t n m a P.len A c ht)
    unfold Flat at KI
    generalize idB t = b1 at *
    clear hall hH hm
    clear hlc
    generalize P.len = x at *
    have HY := Lib.hid hy
    clear hy
    go_enter Try.func15, Try.ntmps15
    go_wp2_with (first
      | (go_at_call 31; refine (KI.out _).mono ?_; rintro e w1 ⟨rfl, hb⟩; have bx := Box.later (by first | assumption | exact Box.new _ _ _ _ _ _ _ _ _) hb; have bx2 := bx; obtain ⟨-, -, c0, c1, c2, c3, c4, c5⟩ := bx2))
    all_goals
      go_ret
      refine ⟨ret_bool ?_, (by first | exact Box.below (by assumption) | exact (Below.refl _ _).alloc (Nat.le_refl _) _)⟩
      first | exact HY.out | (rw [← HY.out]; first | rfl | exact beq0 _ | (simp [*]; done) | (simp [*, beq0]; done) | (simp [*]; omega) | (simp_all; done))
set_option maxRecDepth 100000 in
set_option maxHeartbeats 2000000 in
theorem stat_54 (P : Fo) (hall : AllC (FunP 13 (·.ex)) P) (hallb : AllC (FunP 57 (·.blk)) P) (t : ByteArray) (n m a : Int) (A : Option Addr) (c : Nat) (w : World) (hH : Holds w w.heap.size P A 0) (hlc : P.len ≤ c) (hcc : c ≤ 1000000000000000) :
    Calls Try.prog 15 #[.agg #[.int .i64 54, .string t, .int .i64 n, .int .i64 m, .int .i64 a, .slice A P.len c]] w fun e w' => e = .returned (.bool (statB 54 t n m P.inf)) ∧ Below w.heap.size w w' := by
  have hl : P.len ≤ 1000000000000000 := by omega
  obtain ⟨y, hy⟩ : ∃ y, statB 54 t n m P.inf = y := ⟨_, rfl⟩
  rw [hy]
  rw [show statB 54 t n m P.inf = (emptyB t && ((m == 0) && branB n P.inf)) from rfl] at hy
  by_cases hm : m = 0
  · subst hm
    have KN := Lib.hid (notext_any 54 t n 0 a P.len A c)
    have KC := Lib.hid (fun W (hW : Below w.heap.size w W) => branches_any P hall hallb 54 t n 0 a A c W ((hH.below hW).more hW.size) hlc hcc)
    unfold Flat at KN
    generalize emptyB t = b4 at *
    generalize branB n P.inf = b6 at *
    clear hlc hall hallb hH
    generalize P.len = x at *
    have HY := Lib.hid hy
    clear hy
    go_enter Try.func15, Try.ntmps15
    go_wp2_with (first
      | (go_at_call 29; refine (KN.out _).mono ?_; rintro e w1 ⟨rfl, hb⟩; have bx := Box.later (by first | assumption | exact Box.new _ _ _ _ _ _ _ _ _) hb; have bx2 := bx; obtain ⟨-, -, c0, c1, c2, c3, c4, c5⟩ := bx2)
      | (go_at_call 56; refine (KC.out _ (by first | exact Box.below (by assumption) | exact (Below.refl _ _).alloc (Nat.le_refl _) _)).mono ?_; rintro e w1 ⟨rfl, hb⟩; have bx := Box.later (by first | assumption | exact Box.new _ _ _ _ _ _ _ _ _) hb; have bx2 := bx; obtain ⟨-, -, c0, c1, c2, c3, c4, c5⟩ := bx2))
    all_goals
      go_ret
      refine ⟨ret_bool ?_, (by first | exact Box.below (by assumption) | exact (Below.refl _ _).alloc (Nat.le_refl _) _)⟩
      first | exact HY.out | (rw [← HY.out]; first | rfl | exact beq0 _ | (simp [*]; done) | (simp [*, beq0]; done) | (simp [*]; omega) | (simp_all; done))
  · have tm : (m == 0) = false := beq_eq_false_iff_ne.2 hm
    rw [tm] at hy
    have KN := Lib.hid (notext_any 54 t n m a P.len A c)
    unfold Flat at KN
    generalize emptyB t = b4 at *
    clear hall hallb hH hm
    clear hlc
    generalize P.len = x at *
    have HY := Lib.hid hy
    clear hy
    go_enter Try.func15, Try.ntmps15
    go_wp2_with (first
      | (go_at_call 29; refine (KN.out _).mono ?_; rintro e w1 ⟨rfl, hb⟩; have bx := Box.later (by first | assumption | exact Box.new _ _ _ _ _ _ _ _ _) hb; have bx2 := bx; obtain ⟨-, -, c0, c1, c2, c3, c4, c5⟩ := bx2))
    all_goals
      go_ret
      refine ⟨ret_bool ?_, (by first | exact Box.below (by assumption) | exact (Below.refl _ _).alloc (Nat.le_refl _) _)⟩
      first | exact HY.out | (rw [← HY.out]; first | rfl | exact beq0 _ | (simp [*]; done) | (simp [*, beq0]; done) | (simp [*]; omega) | (simp_all; done))
set_option maxRecDepth 100000 in
set_option maxHeartbeats 2000000 in
theorem stat_56 (P : Fo) (hall : AllC (FunP 13 (·.ex)) P) (t : ByteArray) (n m a : Int) (A : Option Addr) (c : Nat) (w : World) (hH : Holds w w.heap.size P A 0) (hlc : P.len ≤ c) (hcc : c ≤ 1000000000000000) :
    Calls Try.prog 15 #[.agg #[.int .i64 56, .string t, .int .i64 n, .int .i64 m, .int .i64 a, .slice A P.len c]] w fun e w' => e = .returned (.bool (statB 56 t n m P.inf)) ∧ Below w.heap.size w w' := by
  have hl : P.len ≤ 1000000000000000 := by omega
  obtain ⟨y, hy⟩ : ∃ y, statB 56 t n m P.inf = y := ⟨_, rfl⟩
  rw [hy]
  rw [show statB 56 t n m P.inf = (emptyB t && ((m == 0) && (decide (n = 0 ∨ n = 1) && (decide ((P.inf.length : Int) = n) && P.inf.all (·.ex))))) from rfl] at hy
  by_cases hm : m = 0
  · subst hm
    by_cases h0 : n = 0
    · subst h0
      rw [show (decide (((0 : Int)) = 0 ∨ ((0 : Int)) = 1)) = true from rfl, show (decide ((P.inf.length : Int) = 0) && P.inf.all (·.ex)) = exprsB P.inf 0 by unfold exprsB lenB; congr 1; rw [decide_eq_decide]; omega] at hy
      have KN := Lib.hid (notext_any 56 t 0 0 a P.len A c)
      have KX0 := Lib.hid (fun W (hW : Below w.heap.size w W) => exprs_any P hall 0 0 (by rfl) 56 t 0 0 a A c W ((hH.below hW).more hW.size) hl)
      unfold Flat at KN
      generalize emptyB t = b4 at *
      generalize exprsB P.inf 0 = b8 at *
      clear hlc hall hH
      generalize P.len = x at *
      have HY := Lib.hid hy
      clear hy
      go_enter Try.func15, Try.ntmps15
      go_wp2_with (first
        | (go_at_call 29; refine (KN.out _).mono ?_; rintro e w1 ⟨rfl, hb⟩; have bx := Box.later (by first | assumption | exact Box.new _ _ _ _ _ _ _ _ _) hb; have bx2 := bx; obtain ⟨-, -, c0, c1, c2, c3, c4, c5⟩ := bx2)
        | (go_at_call 46; refine (KX0.out _ (by first | exact Box.below (by assumption) | exact (Below.refl _ _).alloc (Nat.le_refl _) _)).mono ?_; rintro e w1 ⟨rfl, hb⟩; have bx := Box.later (by first | assumption | exact Box.new _ _ _ _ _ _ _ _ _) hb; have bx2 := bx; obtain ⟨-, -, c0, c1, c2, c3, c4, c5⟩ := bx2))
      all_goals
        go_ret
        refine ⟨ret_bool ?_, (by first | exact Box.below (by assumption) | exact (Below.refl _ _).alloc (Nat.le_refl _) _)⟩
        first | exact HY.out | (rw [← HY.out]; first | rfl | exact beq0 _ | (simp [*]; done) | (simp [*, beq0]; done) | (simp [*]; omega) | (simp_all; done))
    by_cases h1 : n = 1
    · subst h1
      rw [show (decide (((1 : Int)) = 0 ∨ ((1 : Int)) = 1)) = true from rfl, show (decide ((P.inf.length : Int) = 1) && P.inf.all (·.ex)) = exprsB P.inf 1 by unfold exprsB lenB; congr 1; rw [decide_eq_decide]; omega] at hy
      clear h0
      have KN := Lib.hid (notext_any 56 t 1 0 a P.len A c)
      have KX1 := Lib.hid (fun W (hW : Below w.heap.size w W) => exprs_any P hall 1 1 (by rfl) 56 t 1 0 a A c W ((hH.below hW).more hW.size) hl)
      unfold Flat at KN
      generalize emptyB t = b4 at *
      generalize exprsB P.inf 1 = b8 at *
      clear hlc hall hH
      generalize P.len = x at *
      have HY := Lib.hid hy
      clear hy
      go_enter Try.func15, Try.ntmps15
      go_wp2_with (first
        | (go_at_call 29; refine (KN.out _).mono ?_; rintro e w1 ⟨rfl, hb⟩; have bx := Box.later (by first | assumption | exact Box.new _ _ _ _ _ _ _ _ _) hb; have bx2 := bx; obtain ⟨-, -, c0, c1, c2, c3, c4, c5⟩ := bx2)
        | (go_at_call 46; refine (KX1.out _ (by first | exact Box.below (by assumption) | exact (Below.refl _ _).alloc (Nat.le_refl _) _)).mono ?_; rintro e w1 ⟨rfl, hb⟩; have bx := Box.later (by first | assumption | exact Box.new _ _ _ _ _ _ _ _ _) hb; have bx2 := bx; obtain ⟨-, -, c0, c1, c2, c3, c4, c5⟩ := bx2))
      all_goals
        go_ret
        refine ⟨ret_bool ?_, (by first | exact Box.below (by assumption) | exact (Below.refl _ _).alloc (Nat.le_refl _) _)⟩
        first | exact HY.out | (rw [← HY.out]; first | rfl | exact beq0 _ | (simp [*]; done) | (simp [*, beq0]; done) | (simp [*]; omega) | (simp_all; done))
    have t0 : (n == 0) = false := beq_eq_false_iff_ne.2 h0
    have t1 : (n == 1) = false := beq_eq_false_iff_ne.2 h1
    rw [show (decide (n = 0 ∨ n = 1)) = false by simp [h0, h1]] at hy
    have KN := Lib.hid (notext_any 56 t n 0 a P.len A c)
    unfold Flat at KN
    generalize emptyB t = b4 at *
    clear hall hH h0 h1
    clear hlc
    generalize P.len = x at *
    have HY := Lib.hid hy
    clear hy
    go_enter Try.func15, Try.ntmps15
    go_wp2_with (first
      | (go_at_call 29; refine (KN.out _).mono ?_; rintro e w1 ⟨rfl, hb⟩; have bx := Box.later (by first | assumption | exact Box.new _ _ _ _ _ _ _ _ _) hb; have bx2 := bx; obtain ⟨-, -, c0, c1, c2, c3, c4, c5⟩ := bx2))
    all_goals
      go_ret
      refine ⟨ret_bool ?_, (by first | exact Box.below (by assumption) | exact (Below.refl _ _).alloc (Nat.le_refl _) _)⟩
      first | exact HY.out | (rw [← HY.out]; first | rfl | exact beq0 _ | (simp [*]; done) | (simp [*, beq0]; done) | (simp [*]; omega) | (simp_all; done))
  · have tm : (m == 0) = false := beq_eq_false_iff_ne.2 hm
    rw [tm] at hy
    have KN := Lib.hid (notext_any 56 t n m a P.len A c)
    unfold Flat at KN
    generalize emptyB t = b4 at *
    clear hall hH hm
    clear hlc
    generalize P.len = x at *
    have HY := Lib.hid hy
    clear hy
    go_enter Try.func15, Try.ntmps15
    go_wp2_with (first
      | (go_at_call 29; refine (KN.out _).mono ?_; rintro e w1 ⟨rfl, hb⟩; have bx := Box.later (by first | assumption | exact Box.new _ _ _ _ _ _ _ _ _) hb; have bx2 := bx; obtain ⟨-, -, c0, c1, c2, c3, c4, c5⟩ := bx2))
    all_goals
      go_ret
      refine ⟨ret_bool ?_, (by first | exact Box.below (by assumption) | exact (Below.refl _ _).alloc (Nat.le_refl _) _)⟩
      first | exact HY.out | (rw [← HY.out]; first | rfl | exact beq0 _ | (simp [*]; done) | (simp [*, beq0]; done) | (simp [*]; omega) | (simp_all; done))
set_option maxRecDepth 100000 in
set_option maxHeartbeats 2000000 in
theorem stat_58 (P : Fo) (hallb : AllC (FunP 57 (·.blk)) P) (t : ByteArray) (n m a : Int) (A : Option Addr) (c : Nat) (w : World) (hH : Holds w w.heap.size P A 0) (hlc : P.len ≤ c) (hcc : c ≤ 1000000000000000) (ht : t.size ≤ 1000000000000000) :
    Calls Try.prog 15 #[.agg #[.int .i64 58, .string t, .int .i64 n, .int .i64 m, .int .i64 a, .slice A P.len c]] w fun e w' => e = .returned (.bool (statB 58 t n m P.inf)) ∧ Below w.heap.size w w' := by
  have hl : P.len ≤ 1000000000000000 := by omega
  obtain ⟨y, hy⟩ : ∃ y, statB 58 t n m P.inf = y := ⟨_, rfl⟩
  rw [hy]
  rw [show statB 58 t n m P.inf = (idB t && (plainB n m && (decide (P.inf.length = 2) && P.inf.all (·.blk)))) from rfl] at hy
  rw [inf_len] at hy
  by_cases h2 : P.len = 2
  · have KAb0 := hallb
    rw [decide_eq_true h2] at hy
    have KI := Lib.hid (isname_any 58 t n m a P.len A c ht)
    have KP := Lib.hid (plain_any 58 t n m a P.len A c)
    have KAb := Lib.hid (fun W (hW : Below w.heap.size w W) => all_isBlock (·.blk) P hallb A c W ((hH.below hW).more hW.size) hl)
    unfold Flat at KI KP
    generalize idB t = b1 at *
    generalize plainB n m = b2 at *
    generalize P.inf.all (·.blk) = b5 at *
    clear hlc hallb hH
    clear KAb0
    rw [h2] at KI KP KAb ⊢
    clear h2 hl
    have HY := Lib.hid hy
    clear hy
    go_enter Try.func15, Try.ntmps15
    go_wp2_with (first
      | (go_at_call 31; refine (KI.out _).mono ?_; rintro e w1 ⟨rfl, hb⟩; have bx := Box.later (by first | assumption | exact Box.new _ _ _ _ _ _ _ _ _) hb; have bx2 := bx; obtain ⟨-, -, c0, c1, c2, c3, c4, c5⟩ := bx2)
      | (go_at_call 30; refine (KP.out _).mono ?_; rintro e w1 ⟨rfl, hb⟩; have bx := Box.later (by first | assumption | exact Box.new _ _ _ _ _ _ _ _ _) hb; have bx2 := bx; obtain ⟨-, -, c0, c1, c2, c3, c4, c5⟩ := bx2)
      | (go_at_call 34; refine (KAb.out _ (by first | exact Box.below (by assumption) | exact (Below.refl _ _).alloc (Nat.le_refl _) _)).mono ?_; rintro e w1 ⟨rfl, hb⟩; have bx := Box.later (by first | assumption | exact Box.new _ _ _ _ _ _ _ _ _) hb; have bx2 := bx; obtain ⟨-, -, c0, c1, c2, c3, c4, c5⟩ := bx2))
    all_goals
      go_ret
      refine ⟨ret_bool ?_, (by first | exact Box.below (by assumption) | exact (Below.refl _ _).alloc (Nat.le_refl _) _)⟩
      first | exact HY.out | (rw [← HY.out]; first | rfl | exact beq0 _ | (simp [*]; done) | (simp [*, beq0]; done) | (simp [*]; omega) | (simp_all; done))
  · have t2 : (((P.len : Nat) : Int) == 2) = false := by simp; omega
    rw [decide_eq_false h2] at hy
    have KI := Lib.hid (isname_any 58 t n m a P.len A c ht)
    have KP := Lib.hid (plain_any 58 t n m a P.len A c)
    unfold Flat at KI KP
    generalize idB t = b1 at *
    generalize plainB n m = b2 at *
    clear hallb hH h2
    clear hlc
    generalize P.len = x at *
    have HY := Lib.hid hy
    clear hy
    go_enter Try.func15, Try.ntmps15
    go_wp2_with (first
      | (go_at_call 31; refine (KI.out _).mono ?_; rintro e w1 ⟨rfl, hb⟩; have bx := Box.later (by first | assumption | exact Box.new _ _ _ _ _ _ _ _ _) hb; have bx2 := bx; obtain ⟨-, -, c0, c1, c2, c3, c4, c5⟩ := bx2)
      | (go_at_call 30; refine (KP.out _).mono ?_; rintro e w1 ⟨rfl, hb⟩; have bx := Box.later (by first | assumption | exact Box.new _ _ _ _ _ _ _ _ _) hb; have bx2 := bx; obtain ⟨-, -, c0, c1, c2, c3, c4, c5⟩ := bx2))
    all_goals
      go_ret
      refine ⟨ret_bool ?_, (by first | exact Box.below (by assumption) | exact (Below.refl _ _).alloc (Nat.le_refl _) _)⟩
      first | exact HY.out | (rw [← HY.out]; first | rfl | exact beq0 _ | (simp [*]; done) | (simp [*, beq0]; done) | (simp [*]; omega) | (simp_all; done))
set_option maxRecDepth 100000 in
set_option maxHeartbeats 2000000 in
theorem stat_59 (P : Fo) (halls : AllC (FunP 15 (·.st)) P) (t : ByteArray) (n m a : Int) (A : Option Addr) (c : Nat) (w : World) (hH : Holds w w.heap.size P A 0) (hlc : P.len ≤ c) (hcc : c ≤ 1000000000000000) (ht : t.size ≤ 1000000000000000) :
    Calls Try.prog 15 #[.agg #[.int .i64 59, .string t, .int .i64 n, .int .i64 m, .int .i64 a, .slice A P.len c]] w fun e w' => e = .returned (.bool (statB 59 t n m P.inf)) ∧ Below w.heap.size w w' := by
  obtain ⟨y, hy⟩ : ∃ y, statB 59 t n m P.inf = y := ⟨_, rfl⟩
  rw [hy]
  rw [show statB 59 t n m P.inf = (mk 59 t n m P.inf).blk from rfl] at hy
  have KBl := Lib.hid (fun W (hW : Below w.heap.size w W) => block_any P halls 59 t n m a A c W ((hH.below hW).more hW.size) hlc hcc ht)
  simp only [val6, cells6] at KBl
  rw [hy] at KBl
  clear hy hlc halls hH
  generalize P.len = x at *
  go_enter Try.func15, Try.ntmps15
  go_wp2_with (first
    | (go_at_call 57; refine (KBl.out _ (by first | exact Box.below (by assumption) | exact (Below.refl _ _).alloc (Nat.le_refl _) _)).mono ?_; rintro e w1 ⟨rfl, hb⟩; have bx := Box.later (by first | assumption | exact Box.new _ _ _ _ _ _ _ _ _) hb; have bx2 := bx; obtain ⟨-, -, c0, c1, c2, c3, c4, c5⟩ := bx2))
  all_goals
    go_ret
    refine ⟨ret_bool ?_, (by first | exact Box.below (by assumption) | exact (Below.refl _ _).alloc (Nat.le_refl _) _)⟩
    rfl
set_option maxRecDepth 100000 in
set_option maxHeartbeats 2000000 in
theorem stat_55 (P : Fo) (hall : AllC (FunP 13 (·.ex)) P) (hallb : AllC (FunP 57 (·.blk)) P) (t : ByteArray) (n m a : Int) (A : Option Addr) (c : Nat) (w : World) (hH : Holds w w.heap.size P A 0) (hlc : P.len ≤ c) :
    Calls Try.prog 15 #[.agg #[.int .i64 55, .string t, .int .i64 n, .int .i64 m, .int .i64 a, .slice A P.len c]] w fun e w' => e = .returned (.bool (statB 55 t n m P.inf)) ∧ Below w.heap.size w w' := by
  obtain ⟨y, hy⟩ : ∃ y, statB 55 t n m P.inf = y := ⟨_, rfl⟩
  rw [hy]
  rw [show statB 55 t n m P.inf = (bareB t n m && (lenB P.inf 2 && ((P.inf.take 1).all (·.ex) && (P.inf.drop 1).all (·.blk)))) from rfl] at hy
  unfold lenB at hy
  rw [inf_len] at hy
  have KB := Lib.hid (bare_any 55 t n m a P.len A c)
  unfold Flat at KB
  generalize bareB t n m = b3 at *
  by_cases h2 : P.len = 2
  case neg =>
    have t2 : (((P.len : Nat) : Int) == 2) = false := by simp; omega
    have HY : Hid (false = y) := Lib.hid (by rw [← hy, decide_eq_false h2]; simp)
    clear hy hH hall hallb hlc h2
    generalize P.len = x at *
    go_enter Try.func15, Try.ntmps15
    go_wp2_with (first
      | (go_at_call 32; refine (KB.out _).mono ?_; rintro e w1 ⟨rfl, hb⟩; have bx := Box.later (by first | assumption | exact Box.new _ _ _ _ _ _ _ _ _) hb; have bx2 := bx; obtain ⟨-, -, c0, c1, c2, c3, c4, c5⟩ := bx2))
    all_goals
      go_ret
      refine ⟨ret_bool ?_, (by first | exact Box.below (by assumption) | exact (Below.refl _ _).alloc (Nat.le_refl _) _)⟩
      exact HY.out
  obtain ⟨k1, t1, n1, m1, a1, Q1, ad, A1, d1, R1, rfl, hd1, hR1, hP1⟩ := part_at hH (j := 0) (by omega)
  obtain ⟨k2, t2, n2, m2, a2, Q2, ad2, A2, d2, R2, had, hd2, hR2, hP2⟩ := part_at hH (j := 1) (by omega)
  cases had
  have e2 := drop_last hd2 hR2 (by omega)
  have e1 : P.inf.take 1 = [mk k1 t1 n1 m1 Q1.inf] := by
    rw [show P.inf = P.inf.drop 0 by simp, hd1]; rfl
  rw [e1, e2, decide_eq_true h2] at hy
  simp only [List.all_cons, List.all_nil, Bool.and_true, Bool.true_and] at hy
  have K1 := Lib.hid (hP1.good _ _ hall)
  have K2 := Lib.hid (hP2.good _ _ hallb)
  have FX1 : Hid (∀ W, Below w.heap.size w W → At6 W ad k1 t1 n1 m1 a1 Q1.len A1 d1) := Lib.hid (fun W hW => hP1.cells W hW)
  have FX2 : Hid (∀ W, Below w.heap.size w W → At6 W ⟨ad.block, ad.off + 6, none⟩ k2 t2 n2 m2 a2 Q2.len A2 d2) := Lib.hid (fun W hW => hP2.cells W hW)
  have h2c : 2 ≤ c := by omega
  rw [h2] at KB ⊢
  unfold At6 at FX1 FX2
  clear e1 e2 hd1 hR1 hP1 hd2 hR2 hP2 hlc h2 hH hall hallb
  generalize (mk k1 t1 n1 m1 Q1.inf).ex = b5 at *
  generalize (mk k2 t2 n2 m2 Q2.inf).blk = b6 at *
  generalize Q1.len = x1 at *
  generalize Q2.len = x2 at *
  have HY := Lib.hid hy
  clear hy
  go_enter Try.func15, Try.ntmps15
  go_wp2_with (first
    | (go_at_call 32; refine (KB.out _).mono ?_; rintro e w1 ⟨rfl, hb⟩; have bx := Box.later (by first | assumption | exact Box.new _ _ _ _ _ _ _ _ _) hb; have bx2 := bx; obtain ⟨-, -, c0, c1, c2, c3, c4, c5⟩ := bx2; obtain ⟨f0, f1, f2, f3, f4, f5⟩ := FX1.out _ (Box.below (by assumption)))
    | (go_at_call 13; refine (K1.out _ (by first | exact Box.below (by assumption) | exact (Below.refl _ _).alloc (Nat.le_refl _) _)).mono ?_; rintro e w1 ⟨rfl, hb⟩; have bx := Box.later (by first | assumption | exact Box.new _ _ _ _ _ _ _ _ _) hb; have bx2 := bx; obtain ⟨-, -, c0, c1, c2, c3, c4, c5⟩ := bx2; obtain ⟨g0, g1, g2, g3, g4, g5⟩ := FX2.out _ (Box.below (by assumption)))
    | (go_at_call 57; refine (K2.out _ (by first | exact Box.below (by assumption) | exact (Below.refl _ _).alloc (Nat.le_refl _) _)).mono ?_; rintro e w1 ⟨rfl, hb⟩; have bx := Box.later (by first | assumption | exact Box.new _ _ _ _ _ _ _ _ _) hb; have bx2 := bx; obtain ⟨-, -, c0, c1, c2, c3, c4, c5⟩ := bx2))
  all_goals
    go_ret
    refine ⟨ret_bool ?_, (by first | exact Box.below (by assumption) | exact (Below.refl _ _).alloc (Nat.le_refl _) _)⟩
    first | exact HY.out | (rw [← HY.out]; first | rfl | exact beq0 _ | (simp [*]; done) | (simp [*, beq0]; done) | (simp [*]; omega) | (simp_all; done))
set_option maxRecDepth 100000 in
set_option maxHeartbeats 2000000 in
theorem target_any (k : Int) (t : ByteArray) (n m a : Int) (l : Nat) (A : Option Addr) (c : Nat) : Flat 55 ((k == 25) || (k == 30)) k t n m a l A c := by
  intro w
  obtain ⟨y, hy⟩ : ∃ y, ((k == 25) || (k == 30)) = y := ⟨_, rfl⟩
  rw [hy]
  have HY := Lib.hid hy
  clear hy
  go_enter Try.func55, Try.ntmps55
  go_wp2_with fail
  all_goals
    go_ret
    refine ⟨ret_bool ?_, (by first | exact Box.below (by assumption) | exact (Below.refl _ _).alloc (Nat.le_refl _) _)⟩
    first | exact HY.out | (rw [← HY.out]; simp [*])
set_option maxRecDepth 100000 in
set_option maxHeartbeats 2000000 in
theorem stat_52 (P : Fo) (hall : AllC (FunP 13 (·.ex)) P) (t : ByteArray) (n m a : Int) (A : Option Addr) (c : Nat) (w : World) (hH : Holds w w.heap.size P A 0) (hlc : P.len ≤ c) (hcc : c ≤ 1000000000000000) :
    Calls Try.prog 15 #[.agg #[.int .i64 52, .string t, .int .i64 n, .int .i64 m, .int .i64 a, .slice A P.len c]] w fun e w' => e = .returned (.bool (statB 52 t n m P.inf)) ∧ Below w.heap.size w w' := by
  have hl : P.len ≤ 1000000000000000 := by omega
  obtain ⟨y, hy⟩ : ∃ y, statB 52 t n m P.inf = y := ⟨_, rfl⟩
  rw [hy]
  rw [show statB 52 t n m P.inf = (bareB t n m && (exprsB P.inf 2 && (P.inf.take 1).all tgtB)) from rfl] at hy
  have KB := Lib.hid (bare_any 52 t n m a P.len A c)
  have KX := Lib.hid (fun W (hW : Below w.heap.size w W) => exprs_any P hall 2 2 (by rfl) 52 t n m a A c W ((hH.below hW).more hW.size) hl)
  unfold Flat at KB
  generalize bareB t n m = b3 at *
  by_cases h2 : P.len = 2
  case neg =>
    have hx : exprsB P.inf 2 = false := by unfold exprsB lenB; rw [inf_len, decide_eq_false h2]; rfl
    rw [hx] at KX hy
    have HY : Hid (false = y) := Lib.hid (by rw [← hy]; simp)
    clear hy hH hall hlc h2 hx
    generalize P.len = x at *
    go_enter Try.func15, Try.ntmps15
    go_wp2_with (first
      | (go_at_call 32; refine (KB.out _).mono ?_; rintro e w1 ⟨rfl, hb⟩; have bx := Box.later (by first | assumption | exact Box.new _ _ _ _ _ _ _ _ _) hb; have bx2 := bx; obtain ⟨-, -, c0, c1, c2, c3, c4, c5⟩ := bx2)
      | (go_at_call 46; refine (KX.out _ (by first | exact Box.below (by assumption) | exact (Below.refl _ _).alloc (Nat.le_refl _) _)).mono ?_; rintro e w1 ⟨rfl, hb⟩; have bx := Box.later (by first | assumption | exact Box.new _ _ _ _ _ _ _ _ _) hb; have bx2 := bx; obtain ⟨-, -, c0, c1, c2, c3, c4, c5⟩ := bx2))
    all_goals
      go_ret
      refine ⟨ret_bool ?_, (by first | exact Box.below (by assumption) | exact (Below.refl _ _).alloc (Nat.le_refl _) _)⟩
      exact HY.out
  obtain ⟨k1, t1, n1, m1, a1, Q1, ad, A1, d1, R1, rfl, hd1, hR1, hP1⟩ := part_at hH (j := 0) (by omega)
  have e1 : (P.inf.take 1).all tgtB = ((k1 == 25) || (k1 == 30)) := by
    rw [show P.inf = P.inf.drop 0 by simp, hd1]; simp [tgtB, mk]
  rw [e1] at hy
  have KT := Lib.hid (target_any k1 t1 n1 m1 a1 Q1.len A1 d1)
  have FX1 : Hid (∀ W, Below w.heap.size w W → At6 W ad k1 t1 n1 m1 a1 Q1.len A1 d1) := Lib.hid (fun W hW => hP1.cells W hW)
  have h2c : 2 ≤ c := by omega
  rw [h2] at KB KX ⊢
  unfold At6 at FX1
  unfold Flat at KT
  clear e1 hd1 hR1 hP1 hlc h2 hl hH hall
  generalize exprsB P.inf 2 = b5 at *
  generalize ((k1 == 25) || (k1 == 30)) = b6 at *
  generalize Q1.len = x1 at *
  have HY := Lib.hid hy
  clear hy
  go_enter Try.func15, Try.ntmps15
  go_wp2_with (first
    | (go_at_call 32; refine (KB.out _).mono ?_; rintro e w1 ⟨rfl, hb⟩; have bx := Box.later (by first | assumption | exact Box.new _ _ _ _ _ _ _ _ _) hb; have bx2 := bx; obtain ⟨-, -, c0, c1, c2, c3, c4, c5⟩ := bx2)
    | (go_at_call 46; refine (KX.out _ (by first | exact Box.below (by assumption) | exact (Below.refl _ _).alloc (Nat.le_refl _) _)).mono ?_; rintro e w1 ⟨rfl, hb⟩; have bx := Box.later (by first | assumption | exact Box.new _ _ _ _ _ _ _ _ _) hb; have bx2 := bx; obtain ⟨-, -, c0, c1, c2, c3, c4, c5⟩ := bx2; obtain ⟨f0, f1, f2, f3, f4, f5⟩ := FX1.out _ (Box.below (by assumption)))
    | (go_at_call 55; refine (KT.out _).mono ?_; rintro e w1 ⟨rfl, hb⟩; have bx := Box.later (by first | assumption | exact Box.new _ _ _ _ _ _ _ _ _) hb; have bx2 := bx; obtain ⟨-, -, c0, c1, c2, c3, c4, c5⟩ := bx2))
  all_goals
    go_ret
    refine ⟨ret_bool ?_, (by first | exact Box.below (by assumption) | exact (Below.refl _ _).alloc (Nat.le_refl _) _)⟩
    first | exact HY.out | (rw [← HY.out]; first | rfl | exact beq0 _ | (simp [*]; done) | (simp [*, beq0]; done) | (simp [*]; omega) | (simp_all; done))
set_option maxRecDepth 100000 in
set_option maxHeartbeats 1000000 in
theorem stat_else (k : Int) (t : ByteArray) (n m a : Int) (l : Nat) (A : Option Addr) (c : Nat) (w : World) (h : k ≠ 50 ∧ k ≠ 51 ∧ k ≠ 52 ∧ k ≠ 53 ∧ k ≠ 54 ∧ k ≠ 55 ∧ k ≠ 56 ∧ k ≠ 57 ∧ k ≠ 58 ∧ k ≠ 59) :
    Calls Try.prog 15 #[.agg #[.int .i64 k, .string t, .int .i64 n, .int .i64 m, .int .i64 a, .slice A l c]] w fun e w' => e = .returned (.bool false) ∧ Below w.heap.size w w' := by
  obtain ⟨h50, h51, h52, h53, h54, h55, h56, h57, h58, h59⟩ := h
  have t50 : (k == 50) = false := beq_eq_false_iff_ne.2 h50
  have t51 : (k == 51) = false := beq_eq_false_iff_ne.2 h51
  have t52 : (k == 52) = false := beq_eq_false_iff_ne.2 h52
  have t53 : (k == 53) = false := beq_eq_false_iff_ne.2 h53
  have t54 : (k == 54) = false := beq_eq_false_iff_ne.2 h54
  have t55 : (k == 55) = false := beq_eq_false_iff_ne.2 h55
  have t56 : (k == 56) = false := beq_eq_false_iff_ne.2 h56
  have t57 : (k == 57) = false := beq_eq_false_iff_ne.2 h57
  have t58 : (k == 58) = false := beq_eq_false_iff_ne.2 h58
  have t59 : (k == 59) = false := beq_eq_false_iff_ne.2 h59
  clear h50 h51 h52 h53 h54 h55 h56 h57 h58 h59
  go_enter Try.func15, Try.ntmps15
  go_wp2_with fail
  go_ret
  exact ⟨rfl, (Below.refl _ _).alloc (Nat.le_refl _) _⟩
theorem statB_else (k : Int) (t : ByteArray) (n m : Int) (l : List Inf) (h : k ≠ 50 ∧ k ≠ 51 ∧ k ≠ 52 ∧ k ≠ 53 ∧ k ≠ 54 ∧ k ≠ 55 ∧ k ≠ 56 ∧ k ≠ 57 ∧ k ≠ 58 ∧ k ≠ 59) : statB k t n m l = false := by
  obtain ⟨h50, h51, h52, h53, h54, h55, h56, h57, h58, h59⟩ := h
  simp [statB, *]
theorem stat_step (P : Fo) (hall : AllC (FunP 13 (·.ex)) P) (halls : AllC (FunP 15 (·.st)) P) (hallb : AllC (FunP 57 (·.blk)) P) : FunP 15 (·.st) P := by
  intro k t n m a A c w hH hlc hcc ht
  show Calls _ _ _ _ fun e w' => e = .returned (.bool (statB k t n m P.inf)) ∧ _
  simp only [val6, cells6]
  by_cases h : k ≠ 50 ∧ k ≠ 51 ∧ k ≠ 52 ∧ k ≠ 53 ∧ k ≠ 54 ∧ k ≠ 55 ∧ k ≠ 56 ∧ k ≠ 57 ∧ k ≠ 58 ∧ k ≠ 59
  · rw [statB_else k t n m _ h]; exact stat_else k t n m a _ A c w h
  · have h' : k = 50 ∨ k = 51 ∨ k = 52 ∨ k = 53 ∨ k = 54 ∨ k = 55 ∨ k = 56 ∨ k = 57 ∨ k = 58 ∨ k = 59 := by omega
    clear h
    rcases h' with rfl | rfl | rfl | rfl | rfl | rfl | rfl | rfl | rfl | rfl
    · exact stat_50 P hall t n m a A c w hH hlc hcc ht
    · exact stat_51 P hall t n m a A c w hH hlc hcc ht
    · exact stat_52 P hall t n m a A c w hH hlc hcc
    · exact stat_53 P hall t n m a A c w hH hlc hcc
    · exact stat_54 P hall hallb t n m a A c w hH hlc hcc
    · exact stat_55 P hall hallb t n m a A c w hH hlc
    · exact stat_56 P hall t n m a A c w hH hlc hcc
    · exact stat_57 P hall t n m a A c w hH hlc hcc
    · exact stat_58 P hallb t n m a A c w hH hlc hcc ht
    · exact stat_59 P halls t n m a A c w hH hlc hcc ht
/-- What is told of expressions and statements. -/
def ExprAll (P : Fo) : Prop := FunP 13 (·.ex) P ∧ FunP 45 (·.efl) P ∧ FunP 57 (·.blk) P ∧ FunP 15 (·.st) P
theorem expr_prog (P : Fo) : ExprAll P := fo_ind (fun P h => by
  have hall : AllC (FunP 13 (·.ex)) P := h.imp fun _ x => x.1
  have hallf : AllC (FunP 45 (·.efl)) P := h.imp fun _ x => x.2.1
  have hallb : AllC (FunP 57 (·.blk)) P := h.imp fun _ x => x.2.2.1
  have halls : AllC (FunP 15 (·.st)) P := h.imp fun _ x => x.2.2.2
  exact ⟨expr_step P hall hallf hallb, valueField_any P hall, block_any P halls, stat_step P hall halls hallb⟩) P
end Go.Proofs.Ytogoolpgajopcaa
