import Derived.Test.YtogoolpgajopcaaTrFc
namespace Go.Proofs.Ytogoolpgajopcaa
open Go.RowKit
set_option maxRecDepth 100000 in
set_option maxHeartbeats 2000000 in
theorem rtype_2 (P : Fo) (t : ByteArray) (n m a : Int) (A : Option Addr) (c : Nat) (w : World) (hlc : P.len ≤ c) (hcc : c ≤ 1000000000000000) :
    Calls Try.prog 12 #[.agg #[.int .i64 2, .string t, .int .i64 n, .int .i64 m, .int .i64 a, .slice A P.len c]] w fun e w' => e = .returned (.bool (typeB 2 t n m P.inf)) ∧ Below w.heap.size w w' := by
  have hl : P.len ≤ 1000000000000000 := by omega
  obtain ⟨y, hy⟩ : ∃ y, typeB 2 t n m P.inf = y := ⟨_, rfl⟩
  rw [hy]
  rw [typeB_2] at hy
  simp only [emptyB, lenB] at hy
  rw [inf_len] at hy
  clear hlc
  generalize P.len = x at *
  by_cases hx : x = 0
  · subst hx
    have HY := Lib.hid hy
    clear hy
    go_enter Try.func12, Try.ntmps12
    go_wp2_with fail
    all_goals
      go_ret
      refine ⟨ret_bool ?_, (by first | exact Box.below (by assumption) | exact (Below.refl _ _).alloc (Nat.le_refl _) _)⟩
      rw [← HY.out]; first | rfl | (simp [*]; done) | (simp [*]; omega) | (simp_all; done) | (simp_all; omega)
  · have tx : (((x : Nat) : Int) == 0) = false := by simp; omega
    have HY : Hid (false = y) := Lib.hid (by rw [← hy]; simp [hx])
    clear hy
    go_enter Try.func12, Try.ntmps12
    go_wp2_with fail
    all_goals
      go_ret
      refine ⟨ret_bool ?_, (by first | exact Box.below (by assumption) | exact (Below.refl _ _).alloc (Nat.le_refl _) _)⟩
      first | exact HY.out | (rw [← HY.out]; first | rfl | (simp [*]; done) | (simp [*]; omega) | (simp_all; done) | (simp_all; omega))
set_option maxRecDepth 100000 in
set_option maxHeartbeats 2000000 in
theorem rtype_3 (P : Fo) (t : ByteArray) (n m a : Int) (A : Option Addr) (c : Nat) (w : World) (hlc : P.len ≤ c) (hcc : c ≤ 1000000000000000) :
    Calls Try.prog 12 #[.agg #[.int .i64 3, .string t, .int .i64 n, .int .i64 m, .int .i64 a, .slice A P.len c]] w fun e w' => e = .returned (.bool (typeB 3 t n m P.inf)) ∧ Below w.heap.size w w' := by
  have hl : P.len ≤ 1000000000000000 := by omega
  obtain ⟨y, hy⟩ : ∃ y, typeB 3 t n m P.inf = y := ⟨_, rfl⟩
  rw [hy]
  rw [typeB_3] at hy
  simp only [plainB, lenB] at hy
  rw [inf_len] at hy
  clear hlc
  generalize P.len = x at *
  by_cases hx : x = 0
  · subst hx
    have HY := Lib.hid hy
    clear hy
    go_enter Try.func12, Try.ntmps12
    go_wp2_with fail
    all_goals
      go_ret
      refine ⟨ret_bool ?_, (by first | exact Box.below (by assumption) | exact (Below.refl _ _).alloc (Nat.le_refl _) _)⟩
      rw [← HY.out]; first | rfl | (simp [*]; done) | (simp [*]; omega) | (simp_all; done) | (simp_all; omega)
  · have tx : (((x : Nat) : Int) == 0) = false := by simp; omega
    have HY : Hid (false = y) := Lib.hid (by rw [← hy]; simp [hx])
    clear hy
    go_enter Try.func12, Try.ntmps12
    go_wp2_with fail
    all_goals
      go_ret
      refine ⟨ret_bool ?_, (by first | exact Box.below (by assumption) | exact (Below.refl _ _).alloc (Nat.le_refl _) _)⟩
      first | exact HY.out | (rw [← HY.out]; first | rfl | (simp [*]; done) | (simp [*]; omega) | (simp_all; done) | (simp_all; omega))
set_option maxRecDepth 100000 in
set_option maxHeartbeats 2000000 in
theorem rtype_15 (P : Fo) (t : ByteArray) (n m a : Int) (A : Option Addr) (c : Nat) (w : World) (hlc : P.len ≤ c) (hcc : c ≤ 1000000000000000) (ht : t.size ≤ 1000000000000000) :
    Calls Try.prog 12 #[.agg #[.int .i64 15, .string t, .int .i64 n, .int .i64 m, .int .i64 a, .slice A P.len c]] w fun e w' => e = .returned (.bool (typeB 15 t n m P.inf)) ∧ Below w.heap.size w w' := by
  have hl : P.len ≤ 1000000000000000 := by omega
  obtain ⟨y, hy⟩ : ∃ y, typeB 15 t n m P.inf = y := ⟨_, rfl⟩
  rw [hy]
  rw [typeB_15] at hy
  simp only [plainB, lenB] at hy
  rw [inf_len] at hy
  have KN := Lib.hid (rnamed_any 15 t n m a P.len A c ht)
  unfold Flat at KN
  generalize idB t = b1 at *
  clear hlc
  generalize P.len = x at *
  by_cases hx : x = 0
  · subst hx
    have HY := Lib.hid hy
    clear hy
    go_enter Try.func12, Try.ntmps12
    go_wp2_with (first
      | (go_at_call 41; refine (KN.out _).mono ?_; rintro e w1 ⟨rfl, hb⟩; have bx := Box.later (by first | assumption | exact Box.new _ _ _ _ _ _ _ _ _) hb; have bx2 := bx; obtain ⟨-, -, c0, c1, c2, c3, c4, c5⟩ := bx2))
    all_goals
      go_ret
      refine ⟨ret_bool ?_, (by first | exact Box.below (by assumption) | exact (Below.refl _ _).alloc (Nat.le_refl _) _)⟩
      rw [← HY.out]; first | rfl | (simp [*]; done) | (simp [*]; omega) | (simp_all; done) | (simp_all; omega)
  · have tx : (((x : Nat) : Int) == 0) = false := by simp; omega
    have HY : Hid (false = y) := Lib.hid (by rw [← hy]; simp [hx])
    clear hy
    go_enter Try.func12, Try.ntmps12
    go_wp2_with (first
      | (go_at_call 41; refine (KN.out _).mono ?_; rintro e w1 ⟨rfl, hb⟩; have bx := Box.later (by first | assumption | exact Box.new _ _ _ _ _ _ _ _ _) hb; have bx2 := bx; obtain ⟨-, -, c0, c1, c2, c3, c4, c5⟩ := bx2))
    all_goals
      go_ret
      refine ⟨ret_bool ?_, (by first | exact Box.below (by assumption) | exact (Below.refl _ _).alloc (Nat.le_refl _) _)⟩
      first | exact HY.out | (rw [← HY.out]; first | rfl | (simp [*]; done) | (simp [*]; omega) | (simp_all; done) | (simp_all; omega))
set_option maxRecDepth 100000 in
set_option maxHeartbeats 2000000 in
theorem rtype_4 (P : Fo) (hall : AllC (FunP 12 (·.ty)) P) (t : ByteArray) (n m a : Int) (A : Option Addr) (c : Nat) (w : World) (hH : Holds w w.heap.size P A 0) (hlc : P.len ≤ c) (hcc : c ≤ 1000000000000000) :
    Calls Try.prog 12 #[.agg #[.int .i64 4, .string t, .int .i64 n, .int .i64 m, .int .i64 a, .slice A P.len c]] w fun e w' => e = .returned (.bool (typeB 4 t n m P.inf)) ∧ Below w.heap.size w w' := by
  have hl : P.len ≤ 1000000000000000 := by omega
  obtain ⟨y, hy⟩ : ∃ y, typeB 4 t n m P.inf = y := ⟨_, rfl⟩
  rw [hy]
  rw [typeB_4] at hy
  simp only [typesB, lenB] at hy
  rw [inf_len] at hy
  have KP := Lib.hid (rplain_any 4 t n m a P.len A c)
  have KA := Lib.hid (fun W (hW : Below w.heap.size w W) => rAll_any P hall A c W ((hH.below hW).more hW.size) hl)
  unfold Flat at KP
  generalize bareB t n m = b2 at *
  generalize P.inf.all (·.ty) = b3 at *
  clear hlc hall hH
  generalize P.len = x at *
  by_cases hx : x = 1
  · subst hx
    have HY := Lib.hid hy
    clear hy
    go_enter Try.func12, Try.ntmps12
    go_wp2_with (first
      | (go_at_call 42; refine (KP.out _).mono ?_; rintro e w1 ⟨rfl, hb⟩; have bx := Box.later (by first | assumption | exact Box.new _ _ _ _ _ _ _ _ _) hb; have bx2 := bx; obtain ⟨-, -, c0, c1, c2, c3, c4, c5⟩ := bx2)
      | (go_at_call 40; refine (KA.out _ (by first | exact Box.below (by assumption) | exact (Below.refl _ _).alloc (Nat.le_refl _) _)).mono ?_; rintro e w1 ⟨rfl, hb⟩; have bx := Box.later (by first | assumption | exact Box.new _ _ _ _ _ _ _ _ _) hb; have bx2 := bx; obtain ⟨-, -, c0, c1, c2, c3, c4, c5⟩ := bx2))
    all_goals
      go_ret
      refine ⟨ret_bool ?_, (by first | exact Box.below (by assumption) | exact (Below.refl _ _).alloc (Nat.le_refl _) _)⟩
      rw [← HY.out]; first | rfl | (simp [*]; done) | (simp [*]; omega) | (simp_all; done) | (simp_all; omega)
  · have tx : (((x : Nat) : Int) == 1) = false := by simp; omega
    have HY : Hid (false = y) := Lib.hid (by rw [← hy]; simp [hx])
    clear hy
    go_enter Try.func12, Try.ntmps12
    go_wp2_with (first
      | (go_at_call 42; refine (KP.out _).mono ?_; rintro e w1 ⟨rfl, hb⟩; have bx := Box.later (by first | assumption | exact Box.new _ _ _ _ _ _ _ _ _) hb; have bx2 := bx; obtain ⟨-, -, c0, c1, c2, c3, c4, c5⟩ := bx2)
      | (go_at_call 40; refine (KA.out _ (by first | exact Box.below (by assumption) | exact (Below.refl _ _).alloc (Nat.le_refl _) _)).mono ?_; rintro e w1 ⟨rfl, hb⟩; have bx := Box.later (by first | assumption | exact Box.new _ _ _ _ _ _ _ _ _) hb; have bx2 := bx; obtain ⟨-, -, c0, c1, c2, c3, c4, c5⟩ := bx2))
    all_goals
      go_ret
      refine ⟨ret_bool ?_, (by first | exact Box.below (by assumption) | exact (Below.refl _ _).alloc (Nat.le_refl _) _)⟩
      first | exact HY.out | (rw [← HY.out]; first | rfl | (simp [*]; done) | (simp [*]; omega) | (simp_all; done) | (simp_all; omega))
set_option maxRecDepth 100000 in
set_option maxHeartbeats 2000000 in
theorem rtype_11 (P : Fo) (hall : AllC (FunP 12 (·.ty)) P) (t : ByteArray) (n m a : Int) (A : Option Addr) (c : Nat) (w : World) (hH : Holds w w.heap.size P A 0) (hlc : P.len ≤ c) (hcc : c ≤ 1000000000000000) :
    Calls Try.prog 12 #[.agg #[.int .i64 11, .string t, .int .i64 n, .int .i64 m, .int .i64 a, .slice A P.len c]] w fun e w' => e = .returned (.bool (typeB 11 t n m P.inf)) ∧ Below w.heap.size w w' := by
  have hl : P.len ≤ 1000000000000000 := by omega
  obtain ⟨y, hy⟩ : ∃ y, typeB 11 t n m P.inf = y := ⟨_, rfl⟩
  rw [hy]
  rw [typeB_11] at hy
  simp only [typesB, lenB] at hy
  rw [inf_len] at hy
  have KP := Lib.hid (rplain_any 11 t n m a P.len A c)
  have KA := Lib.hid (fun W (hW : Below w.heap.size w W) => rAll_any P hall A c W ((hH.below hW).more hW.size) hl)
  unfold Flat at KP
  generalize bareB t n m = b2 at *
  generalize P.inf.all (·.ty) = b3 at *
  clear hlc hall hH
  generalize P.len = x at *
  by_cases hx : x = 1
  · subst hx
    have HY := Lib.hid hy
    clear hy
    go_enter Try.func12, Try.ntmps12
    go_wp2_with (first
      | (go_at_call 42; refine (KP.out _).mono ?_; rintro e w1 ⟨rfl, hb⟩; have bx := Box.later (by first | assumption | exact Box.new _ _ _ _ _ _ _ _ _) hb; have bx2 := bx; obtain ⟨-, -, c0, c1, c2, c3, c4, c5⟩ := bx2)
      | (go_at_call 40; refine (KA.out _ (by first | exact Box.below (by assumption) | exact (Below.refl _ _).alloc (Nat.le_refl _) _)).mono ?_; rintro e w1 ⟨rfl, hb⟩; have bx := Box.later (by first | assumption | exact Box.new _ _ _ _ _ _ _ _ _) hb; have bx2 := bx; obtain ⟨-, -, c0, c1, c2, c3, c4, c5⟩ := bx2))
    all_goals
      go_ret
      refine ⟨ret_bool ?_, (by first | exact Box.below (by assumption) | exact (Below.refl _ _).alloc (Nat.le_refl _) _)⟩
      rw [← HY.out]; first | rfl | (simp [*]; done) | (simp [*]; omega) | (simp_all; done) | (simp_all; omega)
  · have tx : (((x : Nat) : Int) == 1) = false := by simp; omega
    have HY : Hid (false = y) := Lib.hid (by rw [← hy]; simp [hx])
    clear hy
    go_enter Try.func12, Try.ntmps12
    go_wp2_with (first
      | (go_at_call 42; refine (KP.out _).mono ?_; rintro e w1 ⟨rfl, hb⟩; have bx := Box.later (by first | assumption | exact Box.new _ _ _ _ _ _ _ _ _) hb; have bx2 := bx; obtain ⟨-, -, c0, c1, c2, c3, c4, c5⟩ := bx2)
      | (go_at_call 40; refine (KA.out _ (by first | exact Box.below (by assumption) | exact (Below.refl _ _).alloc (Nat.le_refl _) _)).mono ?_; rintro e w1 ⟨rfl, hb⟩; have bx := Box.later (by first | assumption | exact Box.new _ _ _ _ _ _ _ _ _) hb; have bx2 := bx; obtain ⟨-, -, c0, c1, c2, c3, c4, c5⟩ := bx2))
    all_goals
      go_ret
      refine ⟨ret_bool ?_, (by first | exact Box.below (by assumption) | exact (Below.refl _ _).alloc (Nat.le_refl _) _)⟩
      first | exact HY.out | (rw [← HY.out]; first | rfl | (simp [*]; done) | (simp [*]; omega) | (simp_all; done) | (simp_all; omega))
set_option maxRecDepth 100000 in
set_option maxHeartbeats 2000000 in
theorem rtype_5 (P : Fo) (hall : AllC (FunP 12 (·.ty)) P) (t : ByteArray) (n m a : Int) (A : Option Addr) (c : Nat) (w : World) (hH : Holds w w.heap.size P A 0) (hlc : P.len ≤ c) (hcc : c ≤ 1000000000000000) :
    Calls Try.prog 12 #[.agg #[.int .i64 5, .string t, .int .i64 n, .int .i64 m, .int .i64 a, .slice A P.len c]] w fun e w' => e = .returned (.bool (typeB 5 t n m P.inf)) ∧ Below w.heap.size w w' := by
  have hl : P.len ≤ 1000000000000000 := by omega
  obtain ⟨y, hy⟩ : ∃ y, typeB 5 t n m P.inf = y := ⟨_, rfl⟩
  rw [hy]
  rw [typeB_5] at hy
  have KP := Lib.hid (rplain_any 5 t n m a P.len A c)
  have KA := Lib.hid (fun W (hW : Below w.heap.size w W) => rAll_any P hall A c W ((hH.below hW).more hW.size) hl)
  unfold Flat at KP
  generalize bareB t n m = b2 at *
  generalize P.inf.all (·.ty) = b3 at *
  clear hlc hall hH
  generalize P.len = x at *
  have HY := Lib.hid hy
  clear hy
  go_enter Try.func12, Try.ntmps12
  go_wp2_with (first
    | (go_at_call 42; refine (KP.out _).mono ?_; rintro e w1 ⟨rfl, hb⟩; have bx := Box.later (by first | assumption | exact Box.new _ _ _ _ _ _ _ _ _) hb; have bx2 := bx; obtain ⟨-, -, c0, c1, c2, c3, c4, c5⟩ := bx2)
    | (go_at_call 40; refine (KA.out _ (by first | exact Box.below (by assumption) | exact (Below.refl _ _).alloc (Nat.le_refl _) _)).mono ?_; rintro e w1 ⟨rfl, hb⟩; have bx := Box.later (by first | assumption | exact Box.new _ _ _ _ _ _ _ _ _) hb; have bx2 := bx; obtain ⟨-, -, c0, c1, c2, c3, c4, c5⟩ := bx2))
  all_goals
    go_ret
    refine ⟨ret_bool ?_, (by first | exact Box.below (by assumption) | exact (Below.refl _ _).alloc (Nat.le_refl _) _)⟩
    rw [← HY.out]; first | rfl | (simp [*]; done) | (simp [*]; omega) | (simp_all; done) | (simp_all; omega)
set_option maxRecDepth 100000 in
set_option maxHeartbeats 2000000 in
theorem rtype_7 (P : Fo) (hallf : AllC (FunP 73 (·.fld)) P) (t : ByteArray) (n m a : Int) (A : Option Addr) (c : Nat) (w : World) (hH : Holds w w.heap.size P A 0) (hlc : P.len ≤ c) (hcc : c ≤ 1000000000000000) :
    Calls Try.prog 12 #[.agg #[.int .i64 7, .string t, .int .i64 n, .int .i64 m, .int .i64 a, .slice A P.len c]] w fun e w' => e = .returned (.bool (typeB 7 t n m P.inf)) ∧ Below w.heap.size w w' := by
  have hl : P.len ≤ 1000000000000000 := by omega
  obtain ⟨y, hy⟩ : ∃ y, typeB 7 t n m P.inf = y := ⟨_, rfl⟩
  rw [hy]
  rw [typeB_7] at hy
  have KP := Lib.hid (rplain_any 7 t n m a P.len A c)
  have KF := Lib.hid (fun W (hW : Below w.heap.size w W) => rfields_any P hallf A c W ((hH.below hW).more hW.size) hl)
  unfold Flat at KP
  generalize bareB t n m = b2 at *
  generalize P.inf.all (·.fld) = b4 at *
  clear hlc hallf hH
  generalize P.len = x at *
  have HY := Lib.hid hy
  clear hy
  go_enter Try.func12, Try.ntmps12
  go_wp2_with (first
    | (go_at_call 42; refine (KP.out _).mono ?_; rintro e w1 ⟨rfl, hb⟩; have bx := Box.later (by first | assumption | exact Box.new _ _ _ _ _ _ _ _ _) hb; have bx2 := bx; obtain ⟨-, -, c0, c1, c2, c3, c4, c5⟩ := bx2)
    | (go_at_call 44; refine (KF.out _ (by first | exact Box.below (by assumption) | exact (Below.refl _ _).alloc (Nat.le_refl _) _)).mono ?_; rintro e w1 ⟨rfl, hb⟩; have bx := Box.later (by first | assumption | exact Box.new _ _ _ _ _ _ _ _ _) hb; have bx2 := bx; obtain ⟨-, -, c0, c1, c2, c3, c4, c5⟩ := bx2))
  all_goals
    go_ret
    refine ⟨ret_bool ?_, (by first | exact Box.below (by assumption) | exact (Below.refl _ _).alloc (Nat.le_refl _) _)⟩
    rw [← HY.out]; first | rfl | (simp [*]; done) | (simp [*]; omega) | (simp_all; done) | (simp_all; omega)
set_option maxRecDepth 100000 in
set_option maxHeartbeats 2000000 in
theorem rtype_9 (P : Fo) (hall : AllC (FunP 12 (·.ty)) P) (t : ByteArray) (n m a : Int) (A : Option Addr) (c : Nat) (w : World) (hH : Holds w w.heap.size P A 0) (hlc : P.len ≤ c) (hcc : c ≤ 1000000000000000) :
    Calls Try.prog 12 #[.agg #[.int .i64 9, .string t, .int .i64 n, .int .i64 m, .int .i64 a, .slice A P.len c]] w fun e w' => e = .returned (.bool (typeB 9 t n m P.inf)) ∧ Below w.heap.size w w' := by
  have hl : P.len ≤ 1000000000000000 := by omega
  obtain ⟨y, hy⟩ : ∃ y, typeB 9 t n m P.inf = y := ⟨_, rfl⟩
  rw [hy]
  rw [typeB_9] at hy
  rw [inf_len] at hy
  have KP := Lib.hid (rplain_any 9 t n m a P.len A c)
  have KA := Lib.hid (fun W (hW : Below w.heap.size w W) => rAll_any P hall A c W ((hH.below hW).more hW.size) hl)
  unfold Flat at KP
  generalize bareB t n m = b2 at *
  generalize P.inf.all (·.ty) = b3 at *
  clear hlc hall hH
  generalize P.len = x at *
  have HY := Lib.hid hy
  clear hy
  go_enter Try.func12, Try.ntmps12
  go_wp2_with (first
    | (go_at_call 42; refine (KP.out _).mono ?_; rintro e w1 ⟨rfl, hb⟩; have bx := Box.later (by first | assumption | exact Box.new _ _ _ _ _ _ _ _ _) hb; have bx2 := bx; obtain ⟨-, -, c0, c1, c2, c3, c4, c5⟩ := bx2)
    | (go_at_call 40; refine (KA.out _ (by first | exact Box.below (by assumption) | exact (Below.refl _ _).alloc (Nat.le_refl _) _)).mono ?_; rintro e w1 ⟨rfl, hb⟩; have bx := Box.later (by first | assumption | exact Box.new _ _ _ _ _ _ _ _ _) hb; have bx2 := bx; obtain ⟨-, -, c0, c1, c2, c3, c4, c5⟩ := bx2))
  all_goals
    go_ret
    refine ⟨ret_bool ?_, (by first | exact Box.below (by assumption) | exact (Below.refl _ _).alloc (Nat.le_refl _) _)⟩
    rw [← HY.out]; first | rfl | (simp [*]; done) | (simp [*]; omega) | (simp_all; done) | (simp_all; omega)
set_option maxRecDepth 100000 in
set_option maxHeartbeats 2000000 in
theorem rtype_10 (P : Fo) (hall : AllC (FunP 12 (·.ty)) P) (t : ByteArray) (n m a : Int) (A : Option Addr) (c : Nat) (w : World) (hH : Holds w w.heap.size P A 0) (hlc : P.len ≤ c) (hcc : c ≤ 1000000000000000) :
    Calls Try.prog 12 #[.agg #[.int .i64 10, .string t, .int .i64 n, .int .i64 m, .int .i64 a, .slice A P.len c]] w fun e w' => e = .returned (.bool (typeB 10 t n m P.inf)) ∧ Below w.heap.size w w' := by
  have hl : P.len ≤ 1000000000000000 := by omega
  obtain ⟨y, hy⟩ : ∃ y, typeB 10 t n m P.inf = y := ⟨_, rfl⟩
  rw [hy]
  rw [typeB_10] at hy
  rw [inf_len] at hy
  have KP := Lib.hid (rplain_any 10 t n m a P.len A c)
  have KA := Lib.hid (fun W (hW : Below w.heap.size w W) => rAll_any P hall A c W ((hH.below hW).more hW.size) hl)
  unfold Flat at KP
  generalize bareB t n m = b2 at *
  generalize P.inf.all (·.ty) = b3 at *
  clear hlc hall hH
  generalize P.len = x at *
  have HY := Lib.hid hy
  clear hy
  go_enter Try.func12, Try.ntmps12
  go_wp2_with (first
    | (go_at_call 42; refine (KP.out _).mono ?_; rintro e w1 ⟨rfl, hb⟩; have bx := Box.later (by first | assumption | exact Box.new _ _ _ _ _ _ _ _ _) hb; have bx2 := bx; obtain ⟨-, -, c0, c1, c2, c3, c4, c5⟩ := bx2)
    | (go_at_call 40; refine (KA.out _ (by first | exact Box.below (by assumption) | exact (Below.refl _ _).alloc (Nat.le_refl _) _)).mono ?_; rintro e w1 ⟨rfl, hb⟩; have bx := Box.later (by first | assumption | exact Box.new _ _ _ _ _ _ _ _ _) hb; have bx2 := bx; obtain ⟨-, -, c0, c1, c2, c3, c4, c5⟩ := bx2))
  all_goals
    go_ret
    refine ⟨ret_bool ?_, (by first | exact Box.below (by assumption) | exact (Below.refl _ _).alloc (Nat.le_refl _) _)⟩
    rw [← HY.out]; first | rfl | (simp [*]; done) | (simp [*]; omega) | (simp_all; done) | (simp_all; omega)
set_option maxRecDepth 100000 in
set_option maxHeartbeats 2000000 in
theorem rtype_12 (P : Fo) (hall : AllC (FunP 12 (·.ty)) P) (t : ByteArray) (n m a : Int) (A : Option Addr) (c : Nat) (w : World) (hH : Holds w w.heap.size P A 0) (hlc : P.len ≤ c) (hcc : c ≤ 1000000000000000) :
    Calls Try.prog 12 #[.agg #[.int .i64 12, .string t, .int .i64 n, .int .i64 m, .int .i64 a, .slice A P.len c]] w fun e w' => e = .returned (.bool (typeB 12 t n m P.inf)) ∧ Below w.heap.size w w' := by
  have hl : P.len ≤ 1000000000000000 := by omega
  obtain ⟨y, hy⟩ : ∃ y, typeB 12 t n m P.inf = y := ⟨_, rfl⟩
  rw [hy]
  rw [typeB_12] at hy
  simp only [typesB, lenB] at hy
  rw [inf_len] at hy
  have KP := Lib.hid (rplain_any 12 t n m a P.len A c)
  have KA := Lib.hid (fun W (hW : Below w.heap.size w W) => rAll_any P hall A c W ((hH.below hW).more hW.size) hl)
  unfold Flat at KP
  generalize bareB t n m = b2 at *
  generalize P.inf.all (·.ty) = b3 at *
  clear hlc hall hH
  generalize P.len = x at *
  by_cases hx : x = 2
  · subst hx
    have HY := Lib.hid hy
    clear hy
    go_enter Try.func12, Try.ntmps12
    go_wp2_with (first
      | (go_at_call 42; refine (KP.out _).mono ?_; rintro e w1 ⟨rfl, hb⟩; have bx := Box.later (by first | assumption | exact Box.new _ _ _ _ _ _ _ _ _) hb; have bx2 := bx; obtain ⟨-, -, c0, c1, c2, c3, c4, c5⟩ := bx2)
      | (go_at_call 40; refine (KA.out _ (by first | exact Box.below (by assumption) | exact (Below.refl _ _).alloc (Nat.le_refl _) _)).mono ?_; rintro e w1 ⟨rfl, hb⟩; have bx := Box.later (by first | assumption | exact Box.new _ _ _ _ _ _ _ _ _) hb; have bx2 := bx; obtain ⟨-, -, c0, c1, c2, c3, c4, c5⟩ := bx2))
    all_goals
      go_ret
      refine ⟨ret_bool ?_, (by first | exact Box.below (by assumption) | exact (Below.refl _ _).alloc (Nat.le_refl _) _)⟩
      rw [← HY.out]; first | rfl | (simp [*]; done) | (simp [*]; omega) | (simp_all; done) | (simp_all; omega)
  · have tx : (((x : Nat) : Int) == 2) = false := by simp; omega
    have HY : Hid (false = y) := Lib.hid (by rw [← hy]; simp [hx])
    clear hy
    go_enter Try.func12, Try.ntmps12
    go_wp2_with (first
      | (go_at_call 42; refine (KP.out _).mono ?_; rintro e w1 ⟨rfl, hb⟩; have bx := Box.later (by first | assumption | exact Box.new _ _ _ _ _ _ _ _ _) hb; have bx2 := bx; obtain ⟨-, -, c0, c1, c2, c3, c4, c5⟩ := bx2)
      | (go_at_call 40; refine (KA.out _ (by first | exact Box.below (by assumption) | exact (Below.refl _ _).alloc (Nat.le_refl _) _)).mono ?_; rintro e w1 ⟨rfl, hb⟩; have bx := Box.later (by first | assumption | exact Box.new _ _ _ _ _ _ _ _ _) hb; have bx2 := bx; obtain ⟨-, -, c0, c1, c2, c3, c4, c5⟩ := bx2))
    all_goals
      go_ret
      refine ⟨ret_bool ?_, (by first | exact Box.below (by assumption) | exact (Below.refl _ _).alloc (Nat.le_refl _) _)⟩
      first | exact HY.out | (rw [← HY.out]; first | rfl | (simp [*]; done) | (simp [*]; omega) | (simp_all; done) | (simp_all; omega))
set_option maxRecDepth 100000 in
set_option maxHeartbeats 2000000 in
theorem rtype_13 (P : Fo) (hall : AllC (FunP 12 (·.ty)) P) (t : ByteArray) (n m a : Int) (A : Option Addr) (c : Nat) (w : World) (hH : Holds w w.heap.size P A 0) (hlc : P.len ≤ c) (hcc : c ≤ 1000000000000000) (ht : t.size ≤ 1000000000000000) :
    Calls Try.prog 12 #[.agg #[.int .i64 13, .string t, .int .i64 n, .int .i64 m, .int .i64 a, .slice A P.len c]] w fun e w' => e = .returned (.bool (typeB 13 t n m P.inf)) ∧ Below w.heap.size w w' := by
  have hl : P.len ≤ 1000000000000000 := by omega
  obtain ⟨y, hy⟩ : ∃ y, typeB 13 t n m P.inf = y := ⟨_, rfl⟩
  rw [hy]
  rw [typeB_13] at hy
  simp only [typesB, lenB, flagsB] at hy
  rw [inf_len] at hy
  have KN := Lib.hid (rnamed_any 13 t n m a P.len A c ht)
  have KA := Lib.hid (fun W (hW : Below w.heap.size w W) => rAll_any P hall A c W ((hH.below hW).more hW.size) hl)
  unfold Flat at KN
  generalize P.inf.all (·.ty) = b3 at *
  generalize idB t = b1 at *
  generalize (m == 0) = b7 at *
  clear hlc hall hH
  generalize P.len = x at *
  by_cases hx : x = 2
  · subst hx
    have HY := Lib.hid hy
    clear hy
    go_enter Try.func12, Try.ntmps12
    go_wp2_with (first
      | (go_at_call 41; refine (KN.out _).mono ?_; rintro e w1 ⟨rfl, hb⟩; have bx := Box.later (by first | assumption | exact Box.new _ _ _ _ _ _ _ _ _) hb; have bx2 := bx; obtain ⟨-, -, c0, c1, c2, c3, c4, c5⟩ := bx2)
      | (go_at_call 40; refine (KA.out _ (by first | exact Box.below (by assumption) | exact (Below.refl _ _).alloc (Nat.le_refl _) _)).mono ?_; rintro e w1 ⟨rfl, hb⟩; have bx := Box.later (by first | assumption | exact Box.new _ _ _ _ _ _ _ _ _) hb; have bx2 := bx; obtain ⟨-, -, c0, c1, c2, c3, c4, c5⟩ := bx2))
    all_goals
      go_ret
      refine ⟨ret_bool ?_, (by first | exact Box.below (by assumption) | exact (Below.refl _ _).alloc (Nat.le_refl _) _)⟩
      rw [← HY.out]; first | rfl | (simp [*]; done) | (simp [*]; omega) | (simp_all; done) | (simp_all; omega)
  · have tx : (((x : Nat) : Int) == 2) = false := by simp; omega
    have HY : Hid (false = y) := Lib.hid (by rw [← hy]; simp [hx])
    clear hy
    go_enter Try.func12, Try.ntmps12
    go_wp2_with (first
      | (go_at_call 41; refine (KN.out _).mono ?_; rintro e w1 ⟨rfl, hb⟩; have bx := Box.later (by first | assumption | exact Box.new _ _ _ _ _ _ _ _ _) hb; have bx2 := bx; obtain ⟨-, -, c0, c1, c2, c3, c4, c5⟩ := bx2)
      | (go_at_call 40; refine (KA.out _ (by first | exact Box.below (by assumption) | exact (Below.refl _ _).alloc (Nat.le_refl _) _)).mono ?_; rintro e w1 ⟨rfl, hb⟩; have bx := Box.later (by first | assumption | exact Box.new _ _ _ _ _ _ _ _ _) hb; have bx2 := bx; obtain ⟨-, -, c0, c1, c2, c3, c4, c5⟩ := bx2))
    all_goals
      go_ret
      refine ⟨ret_bool ?_, (by first | exact Box.below (by assumption) | exact (Below.refl _ _).alloc (Nat.le_refl _) _)⟩
      first | exact HY.out | (rw [← HY.out]; first | rfl | (simp [*]; done) | (simp [*]; omega) | (simp_all; done) | (simp_all; omega))
set_option maxRecDepth 100000 in
set_option maxHeartbeats 2000000 in
theorem rtype_14 (P : Fo) (hall : AllC (FunP 12 (·.ty)) P) (t : ByteArray) (n m a : Int) (A : Option Addr) (c : Nat) (w : World) (hH : Holds w w.heap.size P A 0) (hlc : P.len ≤ c) (hcc : c ≤ 1000000000000000) :
    Calls Try.prog 12 #[.agg #[.int .i64 14, .string t, .int .i64 n, .int .i64 m, .int .i64 a, .slice A P.len c]] w fun e w' => e = .returned (.bool (typeB 14 t n m P.inf)) ∧ Below w.heap.size w w' := by
  have hl : P.len ≤ 1000000000000000 := by omega
  obtain ⟨y, hy⟩ : ∃ y, typeB 14 t n m P.inf = y := ⟨_, rfl⟩
  rw [hy]
  rw [typeB_14] at hy
  simp only [typesB, lenB] at hy
  rw [inf_len] at hy
  have KP := Lib.hid (rplain_any 14 t n m a P.len A c)
  have KA := Lib.hid (fun W (hW : Below w.heap.size w W) => rAll_any P hall A c W ((hH.below hW).more hW.size) hl)
  unfold Flat at KP
  generalize bareB t n m = b2 at *
  generalize P.inf.all (·.ty) = b3 at *
  clear hlc hall hH
  generalize P.len = x at *
  by_cases hx : x = 4
  · subst hx
    have HY := Lib.hid hy
    clear hy
    go_enter Try.func12, Try.ntmps12
    go_wp2_with (first
      | (go_at_call 42; refine (KP.out _).mono ?_; rintro e w1 ⟨rfl, hb⟩; have bx := Box.later (by first | assumption | exact Box.new _ _ _ _ _ _ _ _ _) hb; have bx2 := bx; obtain ⟨-, -, c0, c1, c2, c3, c4, c5⟩ := bx2)
      | (go_at_call 40; refine (KA.out _ (by first | exact Box.below (by assumption) | exact (Below.refl _ _).alloc (Nat.le_refl _) _)).mono ?_; rintro e w1 ⟨rfl, hb⟩; have bx := Box.later (by first | assumption | exact Box.new _ _ _ _ _ _ _ _ _) hb; have bx2 := bx; obtain ⟨-, -, c0, c1, c2, c3, c4, c5⟩ := bx2))
    all_goals
      go_ret
      refine ⟨ret_bool ?_, (by first | exact Box.below (by assumption) | exact (Below.refl _ _).alloc (Nat.le_refl _) _)⟩
      rw [← HY.out]; first | rfl | (simp [*]; done) | (simp [*]; omega) | (simp_all; done) | (simp_all; omega)
  · have tx : (((x : Nat) : Int) == 4) = false := by simp; omega
    have HY : Hid (false = y) := Lib.hid (by rw [← hy]; simp [hx])
    clear hy
    go_enter Try.func12, Try.ntmps12
    go_wp2_with (first
      | (go_at_call 42; refine (KP.out _).mono ?_; rintro e w1 ⟨rfl, hb⟩; have bx := Box.later (by first | assumption | exact Box.new _ _ _ _ _ _ _ _ _) hb; have bx2 := bx; obtain ⟨-, -, c0, c1, c2, c3, c4, c5⟩ := bx2)
      | (go_at_call 40; refine (KA.out _ (by first | exact Box.below (by assumption) | exact (Below.refl _ _).alloc (Nat.le_refl _) _)).mono ?_; rintro e w1 ⟨rfl, hb⟩; have bx := Box.later (by first | assumption | exact Box.new _ _ _ _ _ _ _ _ _) hb; have bx2 := bx; obtain ⟨-, -, c0, c1, c2, c3, c4, c5⟩ := bx2))
    all_goals
      go_ret
      refine ⟨ret_bool ?_, (by first | exact Box.below (by assumption) | exact (Below.refl _ _).alloc (Nat.le_refl _) _)⟩
      first | exact HY.out | (rw [← HY.out]; first | rfl | (simp [*]; done) | (simp [*]; omega) | (simp_all; done) | (simp_all; omega))
set_option maxRecDepth 100000 in
set_option maxHeartbeats 2000000 in
theorem rtype_1 (P : Fo) (hall : AllC (FunP 12 (·.ty)) P) (t : ByteArray) (n m a : Int) (A : Option Addr) (c : Nat) (w : World) (hH : Holds w w.heap.size P A 0) (hlc : P.len ≤ c) (hcc : c ≤ 1000000000000000) (ht : t.size ≤ 1000000000000000) :
    Calls Try.prog 12 #[.agg #[.int .i64 1, .string t, .int .i64 n, .int .i64 m, .int .i64 a, .slice A P.len c]] w fun e w' => e = .returned (.bool (typeB 1 t n m P.inf)) ∧ Below w.heap.size w w' := by
  have hl : P.len ≤ 1000000000000000 := by omega
  obtain ⟨y, hy⟩ : ∃ y, typeB 1 t n m P.inf = y := ⟨_, rfl⟩
  rw [hy]
  rw [typeB_1] at hy
  simp only [refB, lenB, plainB] at hy
  rw [inf_len] at hy
  have KW := Lib.hid (fun W => word_ref t W)
  have KI := Lib.hid (fun W => isname_ref t W ht)
  have KA := Lib.hid (fun W (hW : Below w.heap.size w W) => rAll_any P hall A c W ((hH.below hW).more hW.size) hl)
  have hwi := word_id t
  generalize P.inf.all (·.ty) = b3 at *
  generalize idB t = b1 at *
  generalize wordB t = b2 at *
  generalize P.len = x at *
  clear hlc hall hH
  have HY := Lib.hid hy
  have HI := Lib.hid hwi
  clear hy hwi
  by_cases hx : x = 0
  · subst hx
    cases b2 with
    | true =>
      have h1 := HI.out rfl
      subst h1
      go_enter Try.func12, Try.ntmps12
      go_wp2_with (first
        | (go_at_call 38; refine (KW.out _).mono ?_; rintro e w1 ⟨rfl, rfl⟩)
        | (go_at_call 39; refine (KI.out _).mono ?_; rintro e w1 ⟨rfl, hb⟩; have bx := Box.later (by first | assumption | exact Box.new _ _ _ _ _ _ _ _ _) hb; have bx2 := bx; obtain ⟨-, -, c0, c1, c2, c3, c4, c5⟩ := bx2)
        | (go_at_call 40; refine (KA.out _ (by first | exact Box.below (by assumption) | exact (Below.refl _ _).alloc (Nat.le_refl _) _)).mono ?_; rintro e w1 ⟨rfl, hb⟩; have bx := Box.later (by first | assumption | exact Box.new _ _ _ _ _ _ _ _ _) hb; have bx2 := bx; obtain ⟨-, -, c0, c1, c2, c3, c4, c5⟩ := bx2))
      all_goals
        go_ret
        refine ⟨ret_bool ?_, (by first | exact Box.below (by assumption) | exact (Below.refl _ _).alloc (Nat.le_refl _) _)⟩
        rw [← HY.out]; first | rfl | (simp [*]; done) | (simp [*]; omega) | (simp_all; done) | (simp_all; omega)
    | false =>
      go_enter Try.func12, Try.ntmps12
      go_wp2_with (first
        | (go_at_call 38; refine (KW.out _).mono ?_; rintro e w1 ⟨rfl, rfl⟩)
        | (go_at_call 39; refine (KI.out _).mono ?_; rintro e w1 ⟨rfl, hb⟩; have bx := Box.later (by first | assumption | exact Box.new _ _ _ _ _ _ _ _ _) hb; have bx2 := bx; obtain ⟨-, -, c0, c1, c2, c3, c4, c5⟩ := bx2)
        | (go_at_call 40; refine (KA.out _ (by first | exact Box.below (by assumption) | exact (Below.refl _ _).alloc (Nat.le_refl _) _)).mono ?_; rintro e w1 ⟨rfl, hb⟩; have bx := Box.later (by first | assumption | exact Box.new _ _ _ _ _ _ _ _ _) hb; have bx2 := bx; obtain ⟨-, -, c0, c1, c2, c3, c4, c5⟩ := bx2))
      all_goals
        go_ret
        refine ⟨ret_bool ?_, (by first | exact Box.below (by assumption) | exact (Below.refl _ _).alloc (Nat.le_refl _) _)⟩
        rw [← HY.out]; first | rfl | (simp [*]; done) | (simp [*]; omega) | (simp_all; done) | (simp_all; omega)
  · have tx : (((x : Nat) : Int) == 0) = false := by simp; omega
    cases b2 with
    | true =>
      have h1 := HI.out rfl
      subst h1
      have HY2 : Hid (false = y) := Lib.hid (by rw [← HY.out]; simp [hx])
      go_enter Try.func12, Try.ntmps12
      go_wp2_with (first
        | (go_at_call 38; refine (KW.out _).mono ?_; rintro e w1 ⟨rfl, rfl⟩)
        | (go_at_call 39; refine (KI.out _).mono ?_; rintro e w1 ⟨rfl, hb⟩; have bx := Box.later (by first | assumption | exact Box.new _ _ _ _ _ _ _ _ _) hb; have bx2 := bx; obtain ⟨-, -, c0, c1, c2, c3, c4, c5⟩ := bx2)
        | (go_at_call 40; refine (KA.out _ (by first | exact Box.below (by assumption) | exact (Below.refl _ _).alloc (Nat.le_refl _) _)).mono ?_; rintro e w1 ⟨rfl, hb⟩; have bx := Box.later (by first | assumption | exact Box.new _ _ _ _ _ _ _ _ _) hb; have bx2 := bx; obtain ⟨-, -, c0, c1, c2, c3, c4, c5⟩ := bx2))
      all_goals
        go_ret
        refine ⟨ret_bool ?_, (by first | exact Box.below (by assumption) | exact (Below.refl _ _).alloc (Nat.le_refl _) _)⟩
        exact HY2.out
    | false =>
      go_enter Try.func12, Try.ntmps12
      go_wp2_with (first
        | (go_at_call 38; refine (KW.out _).mono ?_; rintro e w1 ⟨rfl, rfl⟩)
        | (go_at_call 39; refine (KI.out _).mono ?_; rintro e w1 ⟨rfl, hb⟩; have bx := Box.later (by first | assumption | exact Box.new _ _ _ _ _ _ _ _ _) hb; have bx2 := bx; obtain ⟨-, -, c0, c1, c2, c3, c4, c5⟩ := bx2)
        | (go_at_call 40; refine (KA.out _ (by first | exact Box.below (by assumption) | exact (Below.refl _ _).alloc (Nat.le_refl _) _)).mono ?_; rintro e w1 ⟨rfl, hb⟩; have bx := Box.later (by first | assumption | exact Box.new _ _ _ _ _ _ _ _ _) hb; have bx2 := bx; obtain ⟨-, -, c0, c1, c2, c3, c4, c5⟩ := bx2))
      all_goals
        go_ret
        refine ⟨ret_bool ?_, (by first | exact Box.below (by assumption) | exact (Below.refl _ _).alloc (Nat.le_refl _) _)⟩
        rw [← HY.out]; first | rfl | (simp [*]; done) | (simp [*]; omega) | (simp_all; done) | (simp_all; omega)
set_option maxRecDepth 100000 in
set_option maxHeartbeats 1000000 in
theorem rtype_6n (t : ByteArray) (n m a : Int) (A : Option Addr) (c : Nat) (w : World) :
    Calls Try.prog 12 #[.agg #[.int .i64 6, .string t, .int .i64 n, .int .i64 m, .int .i64 a, .slice A 0 c]] w fun e w' => e = .returned (.bool false) ∧ Below w.heap.size w w' := by
  have KP := Lib.hid (rplain_any 6 t n m a 0 A c)
  unfold Flat at KP
  generalize bareB t n m = b4 at *
  go_enter Try.func12, Try.ntmps12
  go_wp2_with (first
    | (go_at_call 42; refine (KP.out _).mono ?_; rintro e w1 ⟨rfl, hb⟩; have bx := Box.later (by first | assumption | exact Box.new _ _ _ _ _ _ _ _ _) hb; have bx2 := bx; obtain ⟨-, -, c0, c1, c2, c3, c4, c5⟩ := bx2))
  all_goals
    go_ret
    refine ⟨ret_bool ?_, (by first | exact Box.below (by assumption) | exact (Below.refl _ _).alloc (Nat.le_refl _) _)⟩
    first | rfl | (simp [*]; done)
set_option maxRecDepth 100000 in
set_option maxHeartbeats 2000000 in
theorem rtype_6 (P : Fo) (hall : AllC (FunP 12 (·.ty)) P) (hallp : AllC (FunP 72 (·.par)) P) (t : ByteArray) (n m a : Int) (A : Option Addr) (c : Nat) (w : World) (hH : Holds w w.heap.size P A 0) (hlc : P.len ≤ c) (hcc : c ≤ 1000000000000000) :
    Calls Try.prog 12 #[.agg #[.int .i64 6, .string t, .int .i64 n, .int .i64 m, .int .i64 a, .slice A P.len c]] w fun e w' => e = .returned (.bool (typeB 6 t n m P.inf)) ∧ Below w.heap.size w w' := by
  rw [typeB_6]
  rcases Nat.eq_zero_or_pos P.len with h0 | h0
  · rw [show (bareB t n m && (decide (1 ≤ P.inf.length) && ((P.inf.take (P.inf.length - 1)).all (·.par) && lastTy P.inf))) = false by rw [inf_len, h0]; simp, h0]
    exact rtype_6n t n m a A c w
  obtain ⟨x, hx⟩ : ∃ x, P.len = x + 1 := ⟨P.len - 1, by omega⟩
  obtain ⟨k1, t1, n1, m1, a1, Q, ad, A1, c1, R1, rfl, hd, hR, hP⟩ := part_at hH (j := x) (by omega)
  have hR0 : R1 = [] := by rw [hR]; exact List.eq_nil_of_length_eq_zero (by simp [inf_len]; omega)
  have KP := Lib.hid (rplain_any 6 t n m a P.len (some ad) c)
  have KR := Lib.hid (fun W (hW : Below w.heap.size w W) => rpars_any P hallp (x : Int) (some ad) c W ((hH.below hW).more hW.size) (by omega))
  have KL := Lib.hid (hP.good _ _ hall)
  have FX := Lib.hid (fun W hW => hP.cells W hW)
  have hpb : parsB P.inf (x : Int) = (P.inf.take x).all (·.par) := by
    unfold parsB
    rw [inf_len, hx, decide_eq_true (by omega)]; simp
  have hD : Hid ((bareB t n m && (decide (1 ≤ P.inf.length) && ((P.inf.take (P.inf.length - 1)).all (·.par) && lastTy P.inf))) = (bareB t n m && ((P.inf.take x).all (·.par) && (mk k1 t1 n1 m1 Q.inf).ty))) := Lib.hid (by
    unfold lastTy
    rw [inf_len, hx, show x + 1 - 1 = x by omega, hd, hR0]; simp)
  rw [hD.out]
  rw [hpb] at KR
  rw [hx] at KP KR ⊢
  unfold Flat at KP
  unfold At6 at FX
  have hxc : x + 1 ≤ c := by omega
  clear hD hR0 hR hd hP hpb hall hallp hH hlc h0 hx
  generalize bareB t n m = b4 at *
  generalize (P.inf.take x).all (·.par) = b5 at *
  generalize (mk k1 t1 n1 m1 Q.inf).ty = b6 at *
  generalize Q.len = x' at *
  go_enter Try.func12, Try.ntmps12
  go_wp2_with (first
    | (go_at_call 42; refine (KP.out _).mono ?_; rintro e w1 ⟨rfl, hb⟩; have bx := Box.later (by first | assumption | exact Box.new _ _ _ _ _ _ _ _ _) hb; have bx2 := bx; obtain ⟨-, -, c0, c1, c2, c3, c4, c5⟩ := bx2)
    | (go_at_call 43; refine (KR.out _ (by first | exact Box.below (by assumption) | exact (Below.refl _ _).alloc (Nat.le_refl _) _)).mono ?_; rintro e w1 ⟨rfl, hb⟩; have bx := Box.later (by first | assumption | exact Box.new _ _ _ _ _ _ _ _ _) hb; have bx2 := bx; obtain ⟨-, -, c0, c1, c2, c3, c4, c5⟩ := bx2; obtain ⟨f0, f1, f2, f3, f4, f5⟩ := FX.out _ (Box.below (by assumption)))
    | (go_at_call 12; refine (KL.out _ (by first | exact Box.below (by assumption) | exact (Below.refl _ _).alloc (Nat.le_refl _) _)).mono ?_; rintro e w1 ⟨rfl, hb⟩; have bx := Box.later (by first | assumption | exact Box.new _ _ _ _ _ _ _ _ _) hb; have bx2 := bx; obtain ⟨-, -, c0, c1, c2, c3, c4, c5⟩ := bx2))
  all_goals
    go_ret
    refine ⟨ret_bool ?_, (by first | exact Box.below (by assumption) | exact (Below.refl _ _).alloc (Nat.le_refl _) _)⟩
    first | rfl | (simp [*]; done) | (cases b4 <;> cases b5 <;> cases b6 <;> simp_all; done)
set_option maxRecDepth 100000 in
set_option maxHeartbeats 1000000 in
theorem rtype_else (k : Int) (t : ByteArray) (n m a : Int) (l : Nat) (A : Option Addr) (c : Nat) (w : World) (h : k ≠ 1 ∧ k ≠ 2 ∧ k ≠ 3 ∧ k ≠ 4 ∧ k ≠ 5 ∧ k ≠ 6 ∧ k ≠ 7 ∧ k ≠ 9 ∧ k ≠ 10 ∧ k ≠ 11 ∧ k ≠ 12 ∧ k ≠ 13 ∧ k ≠ 14 ∧ k ≠ 15) :
    Calls Try.prog 12 #[.agg #[.int .i64 k, .string t, .int .i64 n, .int .i64 m, .int .i64 a, .slice A l c]] w fun e w' => e = .returned (.bool false) ∧ Below w.heap.size w w' := by
  obtain ⟨h1, h2, h3, h4, h5, h6, h7, h9, h10, h11, h12, h13, h14, h15⟩ := h
  have t1 : (k == 1) = false := beq_eq_false_iff_ne.2 h1
  have t2 : (k == 2) = false := beq_eq_false_iff_ne.2 h2
  have t3 : (k == 3) = false := beq_eq_false_iff_ne.2 h3
  have t4 : (k == 4) = false := beq_eq_false_iff_ne.2 h4
  have t5 : (k == 5) = false := beq_eq_false_iff_ne.2 h5
  have t6 : (k == 6) = false := beq_eq_false_iff_ne.2 h6
  have t7 : (k == 7) = false := beq_eq_false_iff_ne.2 h7
  have t9 : (k == 9) = false := beq_eq_false_iff_ne.2 h9
  have t10 : (k == 10) = false := beq_eq_false_iff_ne.2 h10
  have t11 : (k == 11) = false := beq_eq_false_iff_ne.2 h11
  have t12 : (k == 12) = false := beq_eq_false_iff_ne.2 h12
  have t13 : (k == 13) = false := beq_eq_false_iff_ne.2 h13
  have t14 : (k == 14) = false := beq_eq_false_iff_ne.2 h14
  have t15 : (k == 15) = false := beq_eq_false_iff_ne.2 h15
  have KP := Lib.hid (rplain_any k t n m a l A c)
  unfold Flat at KP
  generalize bareB t n m = b4 at *
  clear h1 h2 h3 h4 h5 h6 h7 h9 h10 h11 h12 h13 h14 h15
  go_enter Try.func12, Try.ntmps12
  go_wp2_with (first
    | (go_at_call 42; refine (KP.out _).mono ?_; rintro e w1 ⟨rfl, hb⟩; have bx := Box.later (by first | assumption | exact Box.new _ _ _ _ _ _ _ _ _) hb; have bx2 := bx; obtain ⟨-, -, c0, c1, c2, c3, c4, c5⟩ := bx2))
  all_goals
    go_ret
    refine ⟨ret_bool ?_, (by first | exact Box.below (by assumption) | exact (Below.refl _ _).alloc (Nat.le_refl _) _)⟩
    rfl
theorem rtype_step (P : Fo) (hall : AllC (FunP 12 (·.ty)) P) (hallp : AllC (FunP 72 (·.par)) P) (hallf : AllC (FunP 73 (·.fld)) P) : FunP 12 (·.ty) P := by
  intro k t n m a A c w hH hlc hcc ht
  show Calls _ _ _ _ fun e w' => e = .returned (.bool (typeB k t n m P.inf)) ∧ _
  simp only [val6, cells6]
  by_cases h : k ≠ 1 ∧ k ≠ 2 ∧ k ≠ 3 ∧ k ≠ 4 ∧ k ≠ 5 ∧ k ≠ 6 ∧ k ≠ 7 ∧ k ≠ 9 ∧ k ≠ 10 ∧ k ≠ 11 ∧ k ≠ 12 ∧ k ≠ 13 ∧ k ≠ 14 ∧ k ≠ 15
  · rw [typeB_else k t n m _ h]; exact rtype_else k t n m a _ A c w h
  · have h' : k = 1 ∨ k = 2 ∨ k = 3 ∨ k = 4 ∨ k = 5 ∨ k = 6 ∨ k = 7 ∨ k = 9 ∨ k = 10 ∨ k = 11 ∨ k = 12 ∨ k = 13 ∨ k = 14 ∨ k = 15 := by omega
    clear h
    rcases h' with rfl | rfl | rfl | rfl | rfl | rfl | rfl | rfl | rfl | rfl | rfl | rfl | rfl | rfl
    · exact rtype_1 P hall t n m a A c w hH hlc hcc ht
    · exact rtype_2 P t n m a A c w hlc hcc
    · exact rtype_3 P t n m a A c w hlc hcc
    · exact rtype_4 P hall t n m a A c w hH hlc hcc
    · exact rtype_5 P hall t n m a A c w hH hlc hcc
    · exact rtype_6 P hall hallp t n m a A c w hH hlc hcc
    · exact rtype_7 P hallf t n m a A c w hH hlc hcc
    · exact rtype_9 P hall t n m a A c w hH hlc hcc
    · exact rtype_10 P hall t n m a A c w hH hlc hcc
    · exact rtype_11 P hall t n m a A c w hH hlc hcc
    · exact rtype_12 P hall t n m a A c w hH hlc hcc
    · exact rtype_13 P hall t n m a A c w hH hlc hcc ht
    · exact rtype_14 P hall t n m a A c w hH hlc hcc
    · exact rtype_15 P t n m a A c w hlc hcc ht
/-- All three of a node's parts, by the reference. -/
def RTypeAll (P : Fo) : Prop := FunP 12 (·.ty) P ∧ FunP 72 (·.par) P ∧ FunP 73 (·.fld) P
theorem rtype_prog (P : Fo) : RTypeAll P := fo_ind (fun P h => by
  have hall : AllC (FunP 12 (·.ty)) P := h.imp fun _ x => x.1
  exact ⟨rtype_step P hall (h.imp fun _ x => x.2.1) (h.imp fun _ x => x.2.2), rParam_any P hall, rField_any P hall⟩) P
end Go.Proofs.Ytogoolpgajopcaa
