import Derived.Test.YtogoolpgajopcaaTrU
namespace Go.Proofs.Ytogoolpgajopcaa
open Go.RowKit
theorem tname_any (P : Fo) (hall : AllC (FunP 11 (·.ty)) P) (k : Int) (t : ByteArray) (n m a : Int) (A : Option Addr) (c : Nat) (w : World) (hH : Holds w w.heap.size P A 0) (hlc : P.len ≤ c) (hcc : c ≤ 1000000000000000) (ht : t.size ≤ 1000000000000000) :
    Calls Try.prog 28 #[.agg #[.int .i64 k, .string t, .int .i64 n, .int .i64 m, .int .i64 a, .slice A P.len c]] w fun e w' => e = .returned (.bool (if wordB t then plainB n m && lenB P.inf 0 else refB k t n m P.inf)) ∧ Below w.heap.size w w' := by
  have KW := Lib.hid (fun W => word_all t W)
  have KP := Lib.hid (plain_any k t n m a P.len A c)
  have KR : Hid (∀ W (_ : Below w.heap.size w W), Calls Try.prog 67 #[.agg #[.int .i64 k, .string t, .int .i64 n, .int .i64 m, .int .i64 a, .slice A P.len c]] W fun e w' => e = .returned (.bool (refB k t n m P.inf)) ∧ Below W.heap.size W w') := Lib.hid (fun W hW => reference_any P hall k t n m a A c W ((hH.below hW).more hW.size) hlc hcc ht)
  unfold Flat at KP
  unfold lenB
  rw [inf_len]
  generalize plainB n m = b2 at *
  generalize refB k t n m P.inf = b3 at *
  have hl : P.len ≤ 1000000000000000 := by omega
  clear hlc hcc
  generalize P.len = x at *
  clear hH hall
  cases hw : wordB t with
  | true =>
    rw [hw] at KW
    clear hw
    go_enter Try.func28, Try.ntmps28
    go_wp2_with (first
      | (go_at_call 66; refine (KW.out _).mono ?_; rintro e w1 ⟨rfl, rfl⟩)
      | (go_at_call 30; refine (KP.out _).mono ?_; rintro e w1 ⟨rfl, hb⟩; have bx := Box.later (by first | assumption | exact Box.new _ _ _ _ _ _ _ _ _) hb; have bx2 := bx; obtain ⟨-, -, c0, c1, c2, c3, c4, c5⟩ := bx2))
    all_goals
      go_ret
      refine ⟨ret_bool ?_, (by first | exact Box.below (by assumption) | exact (Below.refl _ _).alloc (Nat.le_refl _) _)⟩
      first | rfl | exact beq0 _ | (simp [*]; done) | (simp [*, beq0]; done) | (simp [*]; omega)
  | false =>
    rw [hw] at KW
    clear hw
    go_enter Try.func28, Try.ntmps28
    go_wp2_with (first
      | (go_at_call 66; refine (KW.out _).mono ?_; rintro e w1 ⟨rfl, rfl⟩)
      | (go_at_call 67; refine (KR.out _ (by first | exact Box.below (by assumption) | exact (Below.refl _ _).alloc (Nat.le_refl _) _)).mono ?_; rintro e w1 ⟨rfl, hb⟩; have bx := Box.later (by first | assumption | exact Box.new _ _ _ _ _ _ _ _ _) hb; have bx2 := bx; obtain ⟨-, -, c0, c1, c2, c3, c4, c5⟩ := bx2))
    all_goals
      go_ret
      refine ⟨ret_bool ?_, (by first | exact Box.below (by assumption) | exact (Below.refl _ _).alloc (Nat.le_refl _) _)⟩
      first | rfl | (simp [*]; done)
theorem typeB_1 (t : ByteArray) (n m : Int) (l : List Inf) : typeB 1 t n m l = (if wordB t then plainB n m && lenB l 0 else refB 1 t n m l) := rfl
theorem typeB_2 (t : ByteArray) (n m : Int) (l : List Inf) : typeB 2 t n m l = (emptyB t && (decide (0 ≤ n) && ((m == 0) && lenB l 0))) := rfl
theorem typeB_3 (t : ByteArray) (n m : Int) (l : List Inf) : typeB 3 t n m l = (plainB n m && lenB l 0) := rfl
theorem typeB_15 (t : ByteArray) (n m : Int) (l : List Inf) : typeB 15 t n m l = (idB t && (plainB n m && lenB l 0)) := rfl
theorem typeB_4 (t : ByteArray) (n m : Int) (l : List Inf) : typeB 4 t n m l = (bareB t n m && typesB l 1) := rfl
theorem typeB_11 (t : ByteArray) (n m : Int) (l : List Inf) : typeB 11 t n m l = (bareB t n m && typesB l 1) := rfl
theorem typeB_5 (t : ByteArray) (n m : Int) (l : List Inf) : typeB 5 t n m l = (bareB t n m && l.all (·.ty)) := rfl
theorem typeB_7 (t : ByteArray) (n m : Int) (l : List Inf) : typeB 7 t n m l = (bareB t n m && l.all (·.fld)) := rfl
theorem typeB_9 (t : ByteArray) (n m : Int) (l : List Inf) : typeB 9 t n m l = (bareB t n m && (decide (2 ≤ l.length) && l.all (·.ty))) := rfl
theorem typeB_10 (t : ByteArray) (n m : Int) (l : List Inf) : typeB 10 t n m l = (bareB t n m && (decide (2 ≤ l.length) && l.all (·.ty))) := rfl
theorem typeB_12 (t : ByteArray) (n m : Int) (l : List Inf) : typeB 12 t n m l = (bareB t n m && typesB l 2) := rfl
theorem typeB_13 (t : ByteArray) (n m : Int) (l : List Inf) : typeB 13 t n m l = (idB t && (flagsB n m && typesB l 2)) := rfl
theorem typeB_14 (t : ByteArray) (n m : Int) (l : List Inf) : typeB 14 t n m l = (bareB t n m && typesB l 4) := rfl
theorem typeB_6 (t : ByteArray) (n m : Int) (l : List Inf) : typeB 6 t n m l = (bareB t n m && (decide (1 ≤ l.length) && ((l.take (l.length - 1)).all (·.par) && lastTy l))) := rfl
set_option maxRecDepth 100000 in
set_option maxHeartbeats 1000000 in
theorem type_1 (P : Fo) (hall : AllC (FunP 11 (·.ty)) P) (t : ByteArray) (n m a : Int) (A : Option Addr) (c : Nat) (w : World) (hH : Holds w w.heap.size P A 0) (hlc : P.len ≤ c) (hcc : c ≤ 1000000000000000) (ht : t.size ≤ 1000000000000000) :
    Calls Try.prog 11 #[.agg #[.int .i64 1, .string t, .int .i64 n, .int .i64 m, .int .i64 a, .slice A P.len c]] w fun e w' => e = .returned (.bool (typeB 1 t n m P.inf)) ∧ Below w.heap.size w w' := by
  rw [typeB_1]
  have hl : P.len ≤ 1000000000000000 := by omega
  have KW := Lib.hid (fun W (hW : Below w.heap.size w W) => tname_any P hall 1 t n m a A c W ((hH.below hW).more hW.size) hlc hcc ht)
  generalize (if wordB t then plainB n m && lenB P.inf 0 else refB 1 t n m P.inf) = b7 at *
  try unfold lenB
  try rw [inf_len]
  clear hlc hcc
  generalize P.len = x at *
  clear hall hH
  go_enter Try.func11, Try.ntmps11
  go_wp2_with (first
    | (go_at_call 28; refine (KW.out _ (by first | exact Box.below (by assumption) | exact (Below.refl _ _).alloc (Nat.le_refl _) _)).mono ?_; rintro e w1 ⟨rfl, hb⟩; have bx := Box.later (by first | assumption | exact Box.new _ _ _ _ _ _ _ _ _) hb; have bx2 := bx; obtain ⟨-, -, c0, c1, c2, c3, c4, c5⟩ := bx2))
  all_goals
    go_ret
    refine ⟨ret_bool ?_, (by first | exact Box.below (by assumption) | exact (Below.refl _ _).alloc (Nat.le_refl _) _)⟩
    first | rfl | exact beq0 _ | (simp [*]; done) | (simp [*, beq0]; done) | (simp [*]; omega)
set_option maxRecDepth 100000 in
set_option maxHeartbeats 1000000 in
theorem type_2 (P : Fo) (t : ByteArray) (n m a : Int) (A : Option Addr) (c : Nat) (w : World) (hlc : P.len ≤ c) (hcc : c ≤ 1000000000000000) :
    Calls Try.prog 11 #[.agg #[.int .i64 2, .string t, .int .i64 n, .int .i64 m, .int .i64 a, .slice A P.len c]] w fun e w' => e = .returned (.bool (typeB 2 t n m P.inf)) ∧ Below w.heap.size w w' := by
  rw [typeB_2]
  have hl : P.len ≤ 1000000000000000 := by omega
  have KN := Lib.hid (notext_any 2 t n m a P.len A c)
  unfold Flat at KN
  generalize emptyB t = b5 at *
  try unfold lenB
  try rw [inf_len]
  clear hlc hcc
  generalize P.len = x at *
  go_enter Try.func11, Try.ntmps11
  go_wp2_with (first
    | (go_at_call 29; refine (KN.out _).mono ?_; rintro e w1 ⟨rfl, hb⟩; have bx := Box.later (by first | assumption | exact Box.new _ _ _ _ _ _ _ _ _) hb; have bx2 := bx; obtain ⟨-, -, c0, c1, c2, c3, c4, c5⟩ := bx2))
  all_goals
    go_ret
    refine ⟨ret_bool ?_, (by first | exact Box.below (by assumption) | exact (Below.refl _ _).alloc (Nat.le_refl _) _)⟩
    first | rfl | exact beq0 _ | (simp [*]; done) | (simp [*, beq0]; done) | (simp [*]; omega)
set_option maxRecDepth 100000 in
set_option maxHeartbeats 1000000 in
theorem type_3 (P : Fo) (t : ByteArray) (n m a : Int) (A : Option Addr) (c : Nat) (w : World) (hlc : P.len ≤ c) (hcc : c ≤ 1000000000000000) :
    Calls Try.prog 11 #[.agg #[.int .i64 3, .string t, .int .i64 n, .int .i64 m, .int .i64 a, .slice A P.len c]] w fun e w' => e = .returned (.bool (typeB 3 t n m P.inf)) ∧ Below w.heap.size w w' := by
  rw [typeB_3]
  have hl : P.len ≤ 1000000000000000 := by omega
  have KP := Lib.hid (plain_any 3 t n m a P.len A c)
  unfold Flat at KP
  generalize plainB n m = b2 at *
  try unfold lenB
  try rw [inf_len]
  clear hlc hcc
  generalize P.len = x at *
  go_enter Try.func11, Try.ntmps11
  go_wp2_with (first
    | (go_at_call 30; refine (KP.out _).mono ?_; rintro e w1 ⟨rfl, hb⟩; have bx := Box.later (by first | assumption | exact Box.new _ _ _ _ _ _ _ _ _) hb; have bx2 := bx; obtain ⟨-, -, c0, c1, c2, c3, c4, c5⟩ := bx2))
  all_goals
    go_ret
    refine ⟨ret_bool ?_, (by first | exact Box.below (by assumption) | exact (Below.refl _ _).alloc (Nat.le_refl _) _)⟩
    first | rfl | exact beq0 _ | (simp [*]; done) | (simp [*, beq0]; done) | (simp [*]; omega)
set_option maxRecDepth 100000 in
set_option maxHeartbeats 1000000 in
theorem type_15 (P : Fo) (t : ByteArray) (n m a : Int) (A : Option Addr) (c : Nat) (w : World) (hlc : P.len ≤ c) (hcc : c ≤ 1000000000000000) (ht : t.size ≤ 1000000000000000) :
    Calls Try.prog 11 #[.agg #[.int .i64 15, .string t, .int .i64 n, .int .i64 m, .int .i64 a, .slice A P.len c]] w fun e w' => e = .returned (.bool (typeB 15 t n m P.inf)) ∧ Below w.heap.size w w' := by
  rw [typeB_15]
  have hl : P.len ≤ 1000000000000000 := by omega
  have KI := Lib.hid (isname_any 15 t n m a P.len A c ht)
  have KP := Lib.hid (plain_any 15 t n m a P.len A c)
  unfold Flat at KI KP
  generalize idB t = b1 at *
  generalize plainB n m = b2 at *
  try unfold lenB
  try rw [inf_len]
  clear hlc hcc
  generalize P.len = x at *
  go_enter Try.func11, Try.ntmps11
  go_wp2_with (first
    | (go_at_call 31; refine (KI.out _).mono ?_; rintro e w1 ⟨rfl, hb⟩; have bx := Box.later (by first | assumption | exact Box.new _ _ _ _ _ _ _ _ _) hb; have bx2 := bx; obtain ⟨-, -, c0, c1, c2, c3, c4, c5⟩ := bx2)
    | (go_at_call 30; refine (KP.out _).mono ?_; rintro e w1 ⟨rfl, hb⟩; have bx := Box.later (by first | assumption | exact Box.new _ _ _ _ _ _ _ _ _) hb; have bx2 := bx; obtain ⟨-, -, c0, c1, c2, c3, c4, c5⟩ := bx2))
  all_goals
    go_ret
    refine ⟨ret_bool ?_, (by first | exact Box.below (by assumption) | exact (Below.refl _ _).alloc (Nat.le_refl _) _)⟩
    first | rfl | exact beq0 _ | (simp [*]; done) | (simp [*, beq0]; done) | (simp [*]; omega)
set_option maxRecDepth 100000 in
set_option maxHeartbeats 1000000 in
theorem type_4 (P : Fo) (hall : AllC (FunP 11 (·.ty)) P) (t : ByteArray) (n m a : Int) (A : Option Addr) (c : Nat) (w : World) (hH : Holds w w.heap.size P A 0) (hlc : P.len ≤ c) (hcc : c ≤ 1000000000000000) :
    Calls Try.prog 11 #[.agg #[.int .i64 4, .string t, .int .i64 n, .int .i64 m, .int .i64 a, .slice A P.len c]] w fun e w' => e = .returned (.bool (typeB 4 t n m P.inf)) ∧ Below w.heap.size w w' := by
  rw [typeB_4]
  have hl : P.len ≤ 1000000000000000 := by omega
  have KB := Lib.hid (bare_any 4 t n m a P.len A c)
  have KT1 := Lib.hid (fun W (hW : Below w.heap.size w W) => types_any P hall 1 1 (by rfl) 4 t n m a A c W ((hH.below hW).more hW.size) hl)
  unfold Flat at KB
  generalize bareB t n m = b4 at *
  generalize typesB P.inf 1 = b8 at *
  try unfold lenB
  try rw [inf_len]
  clear hlc hcc
  generalize P.len = x at *
  clear hall hH
  go_enter Try.func11, Try.ntmps11
  go_wp2_with (first
    | (go_at_call 32; refine (KB.out _).mono ?_; rintro e w1 ⟨rfl, hb⟩; have bx := Box.later (by first | assumption | exact Box.new _ _ _ _ _ _ _ _ _) hb; have bx2 := bx; obtain ⟨-, -, c0, c1, c2, c3, c4, c5⟩ := bx2)
    | (go_at_call 33; refine (KT1.out _ (by first | exact Box.below (by assumption) | exact (Below.refl _ _).alloc (Nat.le_refl _) _)).mono ?_; rintro e w1 ⟨rfl, hb⟩; have bx := Box.later (by first | assumption | exact Box.new _ _ _ _ _ _ _ _ _) hb; have bx2 := bx; obtain ⟨-, -, c0, c1, c2, c3, c4, c5⟩ := bx2))
  all_goals
    go_ret
    refine ⟨ret_bool ?_, (by first | exact Box.below (by assumption) | exact (Below.refl _ _).alloc (Nat.le_refl _) _)⟩
    first | rfl | exact beq0 _ | (simp [*]; done) | (simp [*, beq0]; done) | (simp [*]; omega)
set_option maxRecDepth 100000 in
set_option maxHeartbeats 1000000 in
theorem type_11 (P : Fo) (hall : AllC (FunP 11 (·.ty)) P) (t : ByteArray) (n m a : Int) (A : Option Addr) (c : Nat) (w : World) (hH : Holds w w.heap.size P A 0) (hlc : P.len ≤ c) (hcc : c ≤ 1000000000000000) :
    Calls Try.prog 11 #[.agg #[.int .i64 11, .string t, .int .i64 n, .int .i64 m, .int .i64 a, .slice A P.len c]] w fun e w' => e = .returned (.bool (typeB 11 t n m P.inf)) ∧ Below w.heap.size w w' := by
  rw [typeB_11]
  have hl : P.len ≤ 1000000000000000 := by omega
  have KB := Lib.hid (bare_any 11 t n m a P.len A c)
  have KT1 := Lib.hid (fun W (hW : Below w.heap.size w W) => types_any P hall 1 1 (by rfl) 11 t n m a A c W ((hH.below hW).more hW.size) hl)
  unfold Flat at KB
  generalize bareB t n m = b4 at *
  generalize typesB P.inf 1 = b8 at *
  try unfold lenB
  try rw [inf_len]
  clear hlc hcc
  generalize P.len = x at *
  clear hall hH
  go_enter Try.func11, Try.ntmps11
  go_wp2_with (first
    | (go_at_call 32; refine (KB.out _).mono ?_; rintro e w1 ⟨rfl, hb⟩; have bx := Box.later (by first | assumption | exact Box.new _ _ _ _ _ _ _ _ _) hb; have bx2 := bx; obtain ⟨-, -, c0, c1, c2, c3, c4, c5⟩ := bx2)
    | (go_at_call 33; refine (KT1.out _ (by first | exact Box.below (by assumption) | exact (Below.refl _ _).alloc (Nat.le_refl _) _)).mono ?_; rintro e w1 ⟨rfl, hb⟩; have bx := Box.later (by first | assumption | exact Box.new _ _ _ _ _ _ _ _ _) hb; have bx2 := bx; obtain ⟨-, -, c0, c1, c2, c3, c4, c5⟩ := bx2))
  all_goals
    go_ret
    refine ⟨ret_bool ?_, (by first | exact Box.below (by assumption) | exact (Below.refl _ _).alloc (Nat.le_refl _) _)⟩
    first | rfl | exact beq0 _ | (simp [*]; done) | (simp [*, beq0]; done) | (simp [*]; omega)
set_option maxRecDepth 100000 in
set_option maxHeartbeats 1000000 in
theorem type_5 (P : Fo) (hall : AllC (FunP 11 (·.ty)) P) (t : ByteArray) (n m a : Int) (A : Option Addr) (c : Nat) (w : World) (hH : Holds w w.heap.size P A 0) (hlc : P.len ≤ c) (hcc : c ≤ 1000000000000000) :
    Calls Try.prog 11 #[.agg #[.int .i64 5, .string t, .int .i64 n, .int .i64 m, .int .i64 a, .slice A P.len c]] w fun e w' => e = .returned (.bool (typeB 5 t n m P.inf)) ∧ Below w.heap.size w w' := by
  rw [typeB_5]
  have hl : P.len ≤ 1000000000000000 := by omega
  have KB := Lib.hid (bare_any 5 t n m a P.len A c)
  have KA := Lib.hid (fun W (hW : Below w.heap.size w W) => all_Type (·.ty) P hall A c W ((hH.below hW).more hW.size) hl)
  unfold Flat at KB
  generalize bareB t n m = b4 at *
  generalize P.inf.all (·.ty) = b6 at *
  try unfold lenB
  try rw [inf_len]
  clear hlc hcc
  generalize P.len = x at *
  clear hall hH
  go_enter Try.func11, Try.ntmps11
  go_wp2_with (first
    | (go_at_call 32; refine (KB.out _).mono ?_; rintro e w1 ⟨rfl, hb⟩; have bx := Box.later (by first | assumption | exact Box.new _ _ _ _ _ _ _ _ _) hb; have bx2 := bx; obtain ⟨-, -, c0, c1, c2, c3, c4, c5⟩ := bx2)
    | (go_at_call 34; refine (KA.out _ (by first | exact Box.below (by assumption) | exact (Below.refl _ _).alloc (Nat.le_refl _) _)).mono ?_; rintro e w1 ⟨rfl, hb⟩; have bx := Box.later (by first | assumption | exact Box.new _ _ _ _ _ _ _ _ _) hb; have bx2 := bx; obtain ⟨-, -, c0, c1, c2, c3, c4, c5⟩ := bx2))
  all_goals
    go_ret
    refine ⟨ret_bool ?_, (by first | exact Box.below (by assumption) | exact (Below.refl _ _).alloc (Nat.le_refl _) _)⟩
    first | rfl | exact beq0 _ | (simp [*]; done) | (simp [*, beq0]; done) | (simp [*]; omega)
set_option maxRecDepth 100000 in
set_option maxHeartbeats 1000000 in
theorem type_7 (P : Fo) (hallf : AllC (FunP 36 (·.fld)) P) (t : ByteArray) (n m a : Int) (A : Option Addr) (c : Nat) (w : World) (hH : Holds w w.heap.size P A 0) (hlc : P.len ≤ c) (hcc : c ≤ 1000000000000000) :
    Calls Try.prog 11 #[.agg #[.int .i64 7, .string t, .int .i64 n, .int .i64 m, .int .i64 a, .slice A P.len c]] w fun e w' => e = .returned (.bool (typeB 7 t n m P.inf)) ∧ Below w.heap.size w w' := by
  rw [typeB_7]
  have hl : P.len ≤ 1000000000000000 := by omega
  have KB := Lib.hid (bare_any 7 t n m a P.len A c)
  have KAf := Lib.hid (fun W (hW : Below w.heap.size w W) => all_field (·.fld) P hallf A c W ((hH.below hW).more hW.size) hl)
  unfold Flat at KB
  generalize bareB t n m = b4 at *
  generalize P.inf.all (·.fld) = b6 at *
  try unfold lenB
  try rw [inf_len]
  clear hlc hcc
  generalize P.len = x at *
  clear hallf hH
  go_enter Try.func11, Try.ntmps11
  go_wp2_with (first
    | (go_at_call 32; refine (KB.out _).mono ?_; rintro e w1 ⟨rfl, hb⟩; have bx := Box.later (by first | assumption | exact Box.new _ _ _ _ _ _ _ _ _) hb; have bx2 := bx; obtain ⟨-, -, c0, c1, c2, c3, c4, c5⟩ := bx2)
    | (go_at_call 34; refine (KAf.out _ (by first | exact Box.below (by assumption) | exact (Below.refl _ _).alloc (Nat.le_refl _) _)).mono ?_; rintro e w1 ⟨rfl, hb⟩; have bx := Box.later (by first | assumption | exact Box.new _ _ _ _ _ _ _ _ _) hb; have bx2 := bx; obtain ⟨-, -, c0, c1, c2, c3, c4, c5⟩ := bx2))
  all_goals
    go_ret
    refine ⟨ret_bool ?_, (by first | exact Box.below (by assumption) | exact (Below.refl _ _).alloc (Nat.le_refl _) _)⟩
    first | rfl | exact beq0 _ | (simp [*]; done) | (simp [*, beq0]; done) | (simp [*]; omega)
set_option maxRecDepth 100000 in
set_option maxHeartbeats 1000000 in
theorem type_9 (P : Fo) (hall : AllC (FunP 11 (·.ty)) P) (t : ByteArray) (n m a : Int) (A : Option Addr) (c : Nat) (w : World) (hH : Holds w w.heap.size P A 0) (hlc : P.len ≤ c) (hcc : c ≤ 1000000000000000) :
    Calls Try.prog 11 #[.agg #[.int .i64 9, .string t, .int .i64 n, .int .i64 m, .int .i64 a, .slice A P.len c]] w fun e w' => e = .returned (.bool (typeB 9 t n m P.inf)) ∧ Below w.heap.size w w' := by
  rw [typeB_9]
  have hl : P.len ≤ 1000000000000000 := by omega
  have KB := Lib.hid (bare_any 9 t n m a P.len A c)
  have KA := Lib.hid (fun W (hW : Below w.heap.size w W) => all_Type (·.ty) P hall A c W ((hH.below hW).more hW.size) hl)
  unfold Flat at KB
  generalize bareB t n m = b4 at *
  generalize P.inf.all (·.ty) = b6 at *
  try unfold lenB
  try rw [inf_len]
  clear hlc hcc
  generalize P.len = x at *
  clear hall hH
  go_enter Try.func11, Try.ntmps11
  go_wp2_with (first
    | (go_at_call 32; refine (KB.out _).mono ?_; rintro e w1 ⟨rfl, hb⟩; have bx := Box.later (by first | assumption | exact Box.new _ _ _ _ _ _ _ _ _) hb; have bx2 := bx; obtain ⟨-, -, c0, c1, c2, c3, c4, c5⟩ := bx2)
    | (go_at_call 34; refine (KA.out _ (by first | exact Box.below (by assumption) | exact (Below.refl _ _).alloc (Nat.le_refl _) _)).mono ?_; rintro e w1 ⟨rfl, hb⟩; have bx := Box.later (by first | assumption | exact Box.new _ _ _ _ _ _ _ _ _) hb; have bx2 := bx; obtain ⟨-, -, c0, c1, c2, c3, c4, c5⟩ := bx2))
  all_goals
    go_ret
    refine ⟨ret_bool ?_, (by first | exact Box.below (by assumption) | exact (Below.refl _ _).alloc (Nat.le_refl _) _)⟩
    first | rfl | exact beq0 _ | (simp [*]; done) | (simp [*]; done) | (simp [*]; omega)
set_option maxRecDepth 100000 in
set_option maxHeartbeats 1000000 in
theorem type_10 (P : Fo) (hall : AllC (FunP 11 (·.ty)) P) (t : ByteArray) (n m a : Int) (A : Option Addr) (c : Nat) (w : World) (hH : Holds w w.heap.size P A 0) (hlc : P.len ≤ c) (hcc : c ≤ 1000000000000000) :
    Calls Try.prog 11 #[.agg #[.int .i64 10, .string t, .int .i64 n, .int .i64 m, .int .i64 a, .slice A P.len c]] w fun e w' => e = .returned (.bool (typeB 10 t n m P.inf)) ∧ Below w.heap.size w w' := by
  rw [typeB_10]
  have hl : P.len ≤ 1000000000000000 := by omega
  have KB := Lib.hid (bare_any 10 t n m a P.len A c)
  have KA := Lib.hid (fun W (hW : Below w.heap.size w W) => all_Type (·.ty) P hall A c W ((hH.below hW).more hW.size) hl)
  unfold Flat at KB
  generalize bareB t n m = b4 at *
  generalize P.inf.all (·.ty) = b6 at *
  try unfold lenB
  try rw [inf_len]
  clear hlc hcc
  generalize P.len = x at *
  clear hall hH
  go_enter Try.func11, Try.ntmps11
  go_wp2_with (first
    | (go_at_call 32; refine (KB.out _).mono ?_; rintro e w1 ⟨rfl, hb⟩; have bx := Box.later (by first | assumption | exact Box.new _ _ _ _ _ _ _ _ _) hb; have bx2 := bx; obtain ⟨-, -, c0, c1, c2, c3, c4, c5⟩ := bx2)
    | (go_at_call 34; refine (KA.out _ (by first | exact Box.below (by assumption) | exact (Below.refl _ _).alloc (Nat.le_refl _) _)).mono ?_; rintro e w1 ⟨rfl, hb⟩; have bx := Box.later (by first | assumption | exact Box.new _ _ _ _ _ _ _ _ _) hb; have bx2 := bx; obtain ⟨-, -, c0, c1, c2, c3, c4, c5⟩ := bx2))
  all_goals
    go_ret
    refine ⟨ret_bool ?_, (by first | exact Box.below (by assumption) | exact (Below.refl _ _).alloc (Nat.le_refl _) _)⟩
    first | rfl | exact beq0 _ | (simp [*]; done) | (simp [*]; done) | (simp [*]; omega)
set_option maxRecDepth 100000 in
set_option maxHeartbeats 1000000 in
theorem type_12 (P : Fo) (hall : AllC (FunP 11 (·.ty)) P) (t : ByteArray) (n m a : Int) (A : Option Addr) (c : Nat) (w : World) (hH : Holds w w.heap.size P A 0) (hlc : P.len ≤ c) (hcc : c ≤ 1000000000000000) :
    Calls Try.prog 11 #[.agg #[.int .i64 12, .string t, .int .i64 n, .int .i64 m, .int .i64 a, .slice A P.len c]] w fun e w' => e = .returned (.bool (typeB 12 t n m P.inf)) ∧ Below w.heap.size w w' := by
  rw [typeB_12]
  have hl : P.len ≤ 1000000000000000 := by omega
  have KB := Lib.hid (bare_any 12 t n m a P.len A c)
  have KT2 := Lib.hid (fun W (hW : Below w.heap.size w W) => types_any P hall 2 2 (by rfl) 12 t n m a A c W ((hH.below hW).more hW.size) hl)
  unfold Flat at KB
  generalize bareB t n m = b4 at *
  generalize typesB P.inf 2 = b8 at *
  try unfold lenB
  try rw [inf_len]
  clear hlc hcc
  generalize P.len = x at *
  clear hall hH
  go_enter Try.func11, Try.ntmps11
  go_wp2_with (first
    | (go_at_call 32; refine (KB.out _).mono ?_; rintro e w1 ⟨rfl, hb⟩; have bx := Box.later (by first | assumption | exact Box.new _ _ _ _ _ _ _ _ _) hb; have bx2 := bx; obtain ⟨-, -, c0, c1, c2, c3, c4, c5⟩ := bx2)
    | (go_at_call 33; refine (KT2.out _ (by first | exact Box.below (by assumption) | exact (Below.refl _ _).alloc (Nat.le_refl _) _)).mono ?_; rintro e w1 ⟨rfl, hb⟩; have bx := Box.later (by first | assumption | exact Box.new _ _ _ _ _ _ _ _ _) hb; have bx2 := bx; obtain ⟨-, -, c0, c1, c2, c3, c4, c5⟩ := bx2))
  all_goals
    go_ret
    refine ⟨ret_bool ?_, (by first | exact Box.below (by assumption) | exact (Below.refl _ _).alloc (Nat.le_refl _) _)⟩
    first | rfl | exact beq0 _ | (simp [*]; done) | (simp [*, beq0]; done) | (simp [*]; omega)
set_option maxRecDepth 100000 in
set_option maxHeartbeats 1000000 in
theorem type_13 (P : Fo) (hall : AllC (FunP 11 (·.ty)) P) (t : ByteArray) (n m a : Int) (A : Option Addr) (c : Nat) (w : World) (hH : Holds w w.heap.size P A 0) (hlc : P.len ≤ c) (hcc : c ≤ 1000000000000000) (ht : t.size ≤ 1000000000000000) :
    Calls Try.prog 11 #[.agg #[.int .i64 13, .string t, .int .i64 n, .int .i64 m, .int .i64 a, .slice A P.len c]] w fun e w' => e = .returned (.bool (typeB 13 t n m P.inf)) ∧ Below w.heap.size w w' := by
  rw [typeB_13]
  have hl : P.len ≤ 1000000000000000 := by omega
  have KI := Lib.hid (isname_any 13 t n m a P.len A c ht)
  have KF := Lib.hid (flags_any 13 t n m a P.len A c)
  have KT2 := Lib.hid (fun W (hW : Below w.heap.size w W) => types_any P hall 2 2 (by rfl) 13 t n m a A c W ((hH.below hW).more hW.size) hl)
  unfold Flat at KI KF
  generalize idB t = b1 at *
  generalize flagsB n m = b3 at *
  generalize typesB P.inf 2 = b8 at *
  try unfold lenB
  try rw [inf_len]
  clear hlc hcc
  generalize P.len = x at *
  clear hall hH
  go_enter Try.func11, Try.ntmps11
  go_wp2_with (first
    | (go_at_call 31; refine (KI.out _).mono ?_; rintro e w1 ⟨rfl, hb⟩; have bx := Box.later (by first | assumption | exact Box.new _ _ _ _ _ _ _ _ _) hb; have bx2 := bx; obtain ⟨-, -, c0, c1, c2, c3, c4, c5⟩ := bx2)
    | (go_at_call 37; refine (KF.out _).mono ?_; rintro e w1 ⟨rfl, hb⟩; have bx := Box.later (by first | assumption | exact Box.new _ _ _ _ _ _ _ _ _) hb; have bx2 := bx; obtain ⟨-, -, c0, c1, c2, c3, c4, c5⟩ := bx2)
    | (go_at_call 33; refine (KT2.out _ (by first | exact Box.below (by assumption) | exact (Below.refl _ _).alloc (Nat.le_refl _) _)).mono ?_; rintro e w1 ⟨rfl, hb⟩; have bx := Box.later (by first | assumption | exact Box.new _ _ _ _ _ _ _ _ _) hb; have bx2 := bx; obtain ⟨-, -, c0, c1, c2, c3, c4, c5⟩ := bx2))
  all_goals
    go_ret
    refine ⟨ret_bool ?_, (by first | exact Box.below (by assumption) | exact (Below.refl _ _).alloc (Nat.le_refl _) _)⟩
    first | rfl | exact beq0 _ | (simp [*]; done) | (simp [*, beq0]; done) | (simp [*]; omega)
set_option maxRecDepth 100000 in
set_option maxHeartbeats 1000000 in
theorem type_14 (P : Fo) (hall : AllC (FunP 11 (·.ty)) P) (t : ByteArray) (n m a : Int) (A : Option Addr) (c : Nat) (w : World) (hH : Holds w w.heap.size P A 0) (hlc : P.len ≤ c) (hcc : c ≤ 1000000000000000) :
    Calls Try.prog 11 #[.agg #[.int .i64 14, .string t, .int .i64 n, .int .i64 m, .int .i64 a, .slice A P.len c]] w fun e w' => e = .returned (.bool (typeB 14 t n m P.inf)) ∧ Below w.heap.size w w' := by
  rw [typeB_14]
  have hl : P.len ≤ 1000000000000000 := by omega
  have KB := Lib.hid (bare_any 14 t n m a P.len A c)
  have KT4 := Lib.hid (fun W (hW : Below w.heap.size w W) => types_any P hall 4 4 (by rfl) 14 t n m a A c W ((hH.below hW).more hW.size) hl)
  unfold Flat at KB
  generalize bareB t n m = b4 at *
  generalize typesB P.inf 4 = b8 at *
  try unfold lenB
  try rw [inf_len]
  clear hlc hcc
  generalize P.len = x at *
  clear hall hH
  go_enter Try.func11, Try.ntmps11
  go_wp2_with (first
    | (go_at_call 32; refine (KB.out _).mono ?_; rintro e w1 ⟨rfl, hb⟩; have bx := Box.later (by first | assumption | exact Box.new _ _ _ _ _ _ _ _ _) hb; have bx2 := bx; obtain ⟨-, -, c0, c1, c2, c3, c4, c5⟩ := bx2)
    | (go_at_call 33; refine (KT4.out _ (by first | exact Box.below (by assumption) | exact (Below.refl _ _).alloc (Nat.le_refl _) _)).mono ?_; rintro e w1 ⟨rfl, hb⟩; have bx := Box.later (by first | assumption | exact Box.new _ _ _ _ _ _ _ _ _) hb; have bx2 := bx; obtain ⟨-, -, c0, c1, c2, c3, c4, c5⟩ := bx2))
  all_goals
    go_ret
    refine ⟨ret_bool ?_, (by first | exact Box.below (by assumption) | exact (Below.refl _ _).alloc (Nat.le_refl _) _)⟩
    first | rfl | exact beq0 _ | (simp [*]; done) | (simp [*, beq0]; done) | (simp [*]; omega)
set_option maxRecDepth 100000 in
set_option maxHeartbeats 1000000 in
theorem type_6n (t : ByteArray) (n m a : Int) (A : Option Addr) (c : Nat) (w : World) :
    Calls Try.prog 11 #[.agg #[.int .i64 6, .string t, .int .i64 n, .int .i64 m, .int .i64 a, .slice A 0 c]] w fun e w' => e = .returned (.bool false) ∧ Below w.heap.size w w' := by
  have KB := Lib.hid (bare_any 6 t n m a 0 A c)
  unfold Flat at KB
  generalize bareB t n m = b4 at *
  go_enter Try.func11, Try.ntmps11
  go_wp2_with (first
    | (go_at_call 32; refine (KB.out _).mono ?_; rintro e w1 ⟨rfl, hb⟩; have bx := Box.later (by first | assumption | exact Box.new _ _ _ _ _ _ _ _ _) hb; have bx2 := bx; obtain ⟨-, -, c0, c1, c2, c3, c4, c5⟩ := bx2))
  all_goals
    go_ret
    refine ⟨ret_bool ?_, (by first | exact Box.below (by assumption) | exact (Below.refl _ _).alloc (Nat.le_refl _) _)⟩
    first | rfl | (simp [*]; done)

set_option maxRecDepth 100000 in
set_option maxHeartbeats 2000000 in
theorem type_6 (P : Fo) (hall : AllC (FunP 11 (·.ty)) P) (hallp : AllC (FunP 35 (·.par)) P) (t : ByteArray) (n m a : Int) (A : Option Addr) (c : Nat) (w : World) (hH : Holds w w.heap.size P A 0) (hlc : P.len ≤ c) (hcc : c ≤ 1000000000000000) :
    Calls Try.prog 11 #[.agg #[.int .i64 6, .string t, .int .i64 n, .int .i64 m, .int .i64 a, .slice A P.len c]] w fun e w' => e = .returned (.bool (typeB 6 t n m P.inf)) ∧ Below w.heap.size w w' := by
  rw [typeB_6]
  rcases Nat.eq_zero_or_pos P.len with h0 | h0
  · rw [show (bareB t n m && (decide (1 ≤ P.inf.length) && ((P.inf.take (P.inf.length - 1)).all (·.par) && lastTy P.inf))) = false by rw [inf_len, h0]; simp, h0]
    exact type_6n t n m a A c w
  obtain ⟨x, hx⟩ : ∃ x, P.len = x + 1 := ⟨P.len - 1, by omega⟩
  obtain ⟨k', t', n', m', a', P', R, ad, A', c', e, rfl, hblk, hcell, h1, h2, h3, h4⟩ := hH.node (j := x) (by omega)
  have hR : R.inf = [] := by
    have := drop_len P x
    rw [e, hx] at this
    have h5 := inf_len R
    simp [Fo.len] at this
    exact List.eq_nil_of_length_eq_zero (by omega)
  have hF : FunP 11 (·.ty) P' := by have := hall.drop x; rw [e] at this; exact this.1
  have hlast : lastTy P.inf = (mk k' t' n' m' P'.inf).ty := by
    unfold lastTy
    rw [inf_len, hx, show x + 1 - 1 = x by omega, ← drop_inf, e]
    simp [Fo.inf, hR]
  have KB := Lib.hid (bare_any 6 t n m a P.len (some ad) c)
  have KA := Lib.hid (fun W (hW : Below w.heap.size w W) => all_param (·.par) (P.take x) (hallp.take x) (some ad) c W (((hH.take x).below hW).more hW.size) (by rw [take_len P x (by omega)]; omega))
  have KL := Lib.hid (fun W (hW : Below w.heap.size w W) => hF k' t' n' m' a' A' c' W ((h4.below hW).more hW.size) h1 h2 h3)
  have FX := Lib.hid (fun W (hW : Below w.heap.size w W) => six (w := W) (fun j u hu => (hW.cell (by rw [block_add, block_add]; exact hblk)).trans (hcell j u hu)))
  have hD : Hid ((bareB t n m && (decide (1 ≤ P.inf.length) && ((P.inf.take (P.inf.length - 1)).all (·.par) && lastTy P.inf))) = (bareB t n m && ((P.take x).inf.all (·.par) && (mk k' t' n' m' P'.inf).ty))) := Lib.hid (by
    rw [inf_len, hx, hlast, take_inf, show x + 1 - 1 = x by omega]; simp)
  rw [hD.out]
  rw [take_len P x (by omega)] at KA
  rw [hx] at KB ⊢
  simp only [val6, cells6, Nat.zero_add] at KL FX
  unfold Flat at KB
  have hxc : x + 1 ≤ c := by omega
  clear hD hlast hF hR e hcell h1 h2 h3 h4 hall hallp hH hlc h0 hx
  generalize bareB t n m = b4 at *
  generalize (P.take x).inf.all (·.par) = b5 at *
  generalize (mk k' t' n' m' P'.inf).ty = b6 at *
  generalize P'.len = x' at *
  go_enter Try.func11, Try.ntmps11
  go_wp2_with (first
    | (go_at_call 32; refine (KB.out _).mono ?_; rintro e w1 ⟨rfl, hb⟩; have bx := Box.later (by first | assumption | exact Box.new _ _ _ _ _ _ _ _ _) hb; have bx2 := bx; obtain ⟨-, -, c0, c1, c2, c3, c4, c5⟩ := bx2)
    | (go_at_call 34; refine (KA.out _ (by first | exact Box.below (by assumption) | exact (Below.refl _ _).alloc (Nat.le_refl _) _)).mono ?_; rintro e w1 ⟨rfl, hb⟩; have bx := Box.later (by first | assumption | exact Box.new _ _ _ _ _ _ _ _ _) hb; have bx2 := bx; obtain ⟨-, -, c0, c1, c2, c3, c4, c5⟩ := bx2; obtain ⟨f0, f1, f2, f3, f4, f5⟩ := FX.out _ (Box.below (by assumption)))
    | (go_at_call 11; refine (KL.out _ (by first | exact Box.below (by assumption) | exact (Below.refl _ _).alloc (Nat.le_refl _) _)).mono ?_; rintro e w1 ⟨rfl, hb⟩; have bx := Box.later (by first | assumption | exact Box.new _ _ _ _ _ _ _ _ _) hb; have bx2 := bx; obtain ⟨-, -, c0, c1, c2, c3, c4, c5⟩ := bx2))
  all_goals
    go_ret
    refine ⟨ret_bool ?_, (by first | exact Box.below (by assumption) | exact (Below.refl _ _).alloc (Nat.le_refl _) _)⟩
    first | rfl | (simp [*]; done)
set_option maxRecDepth 100000 in
set_option maxHeartbeats 1000000 in
theorem type_else (k : Int) (t : ByteArray) (n m a : Int) (l : Nat) (A : Option Addr) (c : Nat) (w : World) (h : k ≠ 1 ∧ k ≠ 2 ∧ k ≠ 3 ∧ k ≠ 4 ∧ k ≠ 5 ∧ k ≠ 6 ∧ k ≠ 7 ∧ k ≠ 9 ∧ k ≠ 10 ∧ k ≠ 11 ∧ k ≠ 12 ∧ k ≠ 13 ∧ k ≠ 14 ∧ k ≠ 15) :
    Calls Try.prog 11 #[.agg #[.int .i64 k, .string t, .int .i64 n, .int .i64 m, .int .i64 a, .slice A l c]] w fun e w' => e = .returned (.bool false) ∧ Below w.heap.size w w' := by
  obtain ⟨h1, h2, h3, h4, h5, h6, h7, h9, h10, h11, h12, h13, h14, h15⟩ := h
  have t1 : (k == 1) = false := beq_eq_false_iff_ne.2 h1
  have t2 : (k == 2) = false := beq_eq_false_iff_ne.2 h2
  have t3 : (k == 3) = false := beq_eq_false_iff_ne.2 h3
  have t4 : (k == 4) = false := beq_eq_false_iff_ne.2 h4
  have t5 : (k == 5) = false := beq_eq_false_iff_ne.2 h5
  have t6 : (k == 6) = false := beq_eq_false_iff_ne.2 h6
  have t7 : (k == 7) = false := beq_eq_false_iff_ne.2 h7
  have t9 : (k == 9) = false := beq_eq_false_iff_ne.2 h9
  have t10 : (k == 10) = false := beq_eq_false_iff_ne.2 h10
  have t11 : (k == 11) = false := beq_eq_false_iff_ne.2 h11
  have t12 : (k == 12) = false := beq_eq_false_iff_ne.2 h12
  have t13 : (k == 13) = false := beq_eq_false_iff_ne.2 h13
  have t14 : (k == 14) = false := beq_eq_false_iff_ne.2 h14
  have t15 : (k == 15) = false := beq_eq_false_iff_ne.2 h15
  clear h1 h2 h3 h4 h5 h6 h7 h9 h10 h11 h12 h13 h14 h15
  go_enter Try.func11, Try.ntmps11
  go_wp2_with fail
  go_ret
  exact ⟨rfl, (Below.refl _ _).alloc (Nat.le_refl _) _⟩
theorem typeB_else (k : Int) (t : ByteArray) (n m : Int) (l : List Inf) (h : k ≠ 1 ∧ k ≠ 2 ∧ k ≠ 3 ∧ k ≠ 4 ∧ k ≠ 5 ∧ k ≠ 6 ∧ k ≠ 7 ∧ k ≠ 9 ∧ k ≠ 10 ∧ k ≠ 11 ∧ k ≠ 12 ∧ k ≠ 13 ∧ k ≠ 14 ∧ k ≠ 15) : typeB k t n m l = false := by
  obtain ⟨h1, h2, h3, h4, h5, h6, h7, h9, h10, h11, h12, h13, h14, h15⟩ := h
  simp [typeB, *]
theorem type_step (P : Fo) (hall : AllC (FunP 11 (·.ty)) P) (hallp : AllC (FunP 35 (·.par)) P) (hallf : AllC (FunP 36 (·.fld)) P) : FunP 11 (·.ty) P := by
  intro k t n m a A c w hH hlc hcc ht
  show Calls _ _ _ _ fun e w' => e = .returned (.bool (typeB k t n m P.inf)) ∧ _
  simp only [val6, cells6]
  by_cases h : k ≠ 1 ∧ k ≠ 2 ∧ k ≠ 3 ∧ k ≠ 4 ∧ k ≠ 5 ∧ k ≠ 6 ∧ k ≠ 7 ∧ k ≠ 9 ∧ k ≠ 10 ∧ k ≠ 11 ∧ k ≠ 12 ∧ k ≠ 13 ∧ k ≠ 14 ∧ k ≠ 15
  · rw [typeB_else k t n m _ h]; exact type_else k t n m a _ A c w h
  · have h' : k = 1 ∨ k = 2 ∨ k = 3 ∨ k = 4 ∨ k = 5 ∨ k = 6 ∨ k = 7 ∨ k = 9 ∨ k = 10 ∨ k = 11 ∨ k = 12 ∨ k = 13 ∨ k = 14 ∨ k = 15 := by omega
    clear h
    rcases h' with rfl | rfl | rfl | rfl | rfl | rfl | rfl | rfl | rfl | rfl | rfl | rfl | rfl | rfl
    · exact type_1 P hall t n m a A c w hH hlc hcc ht
    · exact type_2 P  t n m a A c w hlc hcc
    · exact type_3 P  t n m a A c w hlc hcc
    · exact type_4 P hall t n m a A c w hH hlc hcc
    · exact type_5 P hall t n m a A c w hH hlc hcc
    · exact type_6 P hall hallp t n m a A c w hH hlc hcc
    · exact type_7 P hallf t n m a A c w hH hlc hcc
    · exact type_9 P hall t n m a A c w hH hlc hcc
    · exact type_10 P hall t n m a A c w hH hlc hcc
    · exact type_11 P hall t n m a A c w hH hlc hcc
    · exact type_12 P hall t n m a A c w hH hlc hcc
    · exact type_13 P hall t n m a A c w hH hlc hcc ht
    · exact type_14 P hall t n m a A c w hH hlc hcc
    · exact type_15 P  t n m a A c w hlc hcc ht
/-- All four of a node's parts. -/
def TypeAll (P : Fo) : Prop := FunP 11 (·.ty) P ∧ FunP 35 (·.par) P ∧ FunP 36 (·.fld) P ∧ FunP 67 (·.ref) P
theorem type_prog (P : Fo) : TypeAll P := fo_ind (fun P h => by
  have hall : AllC (FunP 11 (·.ty)) P := h.imp fun _ x => x.1
  exact ⟨type_step P hall (h.imp fun _ x => x.2.1) (h.imp fun _ x => x.2.2.1), param_any P hall, field_any P hall, reference_any P hall⟩) P
end Go.Proofs.Ytogoolpgajopcaa
