import Derived.Test.YtogoolpgajopcaaTrGg
import Derived.Test.YtogoolpgajopcaaTrGe
import Derived.Test.YtogoolpgajopcaaTrGi
namespace Go.Proofs.Ytogoolpgajopcaa
open Go.RowKit
set_option maxRecDepth 100000 in
set_option maxHeartbeats 4000000 in
theorem rdecl_70 (P : Fo) (t : ByteArray) (n m a : Int) (A : Option Addr) (c : Nat) (w : World) (hH : Holds w w.heap.size P A 0) (hlc : P.len ≤ c) (hcc : c ≤ 1000000000000000) (_ht : t.size ≤ 1000000000000000) :
    Calls Try.prog 60 #[.agg #[.int .i64 70, .string t, .int .i64 n, .int .i64 m, .int .i64 a, .slice A P.len c]] w fun e w' => e = .returned (.bool (impD n m P.inf)) ∧ Below w.heap.size w w' := by
  have hl : P.len ≤ 1000000000000000 := by omega
  have KM := Lib.hid (fun W (hW : Below w.heap.size w W) => imports_any P t n m a A c W ((hH.below hW).more hW.size) hlc hcc)
  generalize impD n m P.inf = y at *
  clear hH hlc
  generalize P.len = x at *
  go_enter Try.func60, Try.ntmps60
  go_wp2_with (first
    | (go_at_call 81; refine (KM.out _ (by first | exact Box.below (by assumption) | exact (Below.refl _ _).alloc (Nat.le_refl _) _)).mono ?_; rintro e w1 ⟨rfl, hb⟩; have bx := Box.later (by first | assumption | exact Box.new _ _ _ _ _ _ _ _ _) hb; have bx2 := bx; obtain ⟨-, -, c0, c1, c2, c3, c4, c5⟩ := bx2))
  go_ret
  exact ⟨rfl, Box.below (by assumption)⟩
set_option maxRecDepth 100000 in
set_option maxHeartbeats 4000000 in
theorem rdecl_no (P : Fo) (k : Int) (t : ByteArray) (n m a : Int) (A : Option Addr) (c : Nat) (w : World) (_hH : Holds w w.heap.size P A 0) (hlc : P.len ≤ c) (hcc : c ≤ 1000000000000000) (ht : t.size ≤ 1000000000000000) (hk : k ≠ 70) (h : ¬ ((m = 0 ∨ m = 1) ∧ idB t = true)) :
    Calls Try.prog 60 #[.agg #[.int .i64 k, .string t, .int .i64 n, .int .i64 m, .int .i64 a, .slice A P.len c]] w fun e w' => e = .returned (.bool (false)) ∧ Below w.heap.size w w' := by
  have hl : P.len ≤ 1000000000000000 := by omega
  have tk : (k == 70) = false := beq_eq_false_iff_ne.2 hk
  have KI := Lib.hid (fun W => isname_ref t W ht)
  clear hlc
  generalize P.len = x at *
  cases hid : idB t with
  | false =>
    rw [hid] at KI
    clear h hid hk
    go_enter Try.func60, Try.ntmps60
    go_wp2_with (first
      | (go_at_call 39; refine (KI.out _).mono ?_; rintro e w1 ⟨rfl, hb⟩; have bx := Box.later (by first | assumption | exact Box.new _ _ _ _ _ _ _ _ _) hb; have bx2 := bx; obtain ⟨-, -, c0, c1, c2, c3, c4, c5⟩ := bx2))
    go_ret
    exact ⟨rfl, Box.below (by assumption)⟩
  | true =>
    rw [hid] at KI
    have t0 : (m != 0) = true := by simp; intro e; exact h ⟨.inl e, hid⟩
    have t1 : (m != 1) = true := by simp; intro e; exact h ⟨.inr e, hid⟩
    clear h hid hk
    go_enter Try.func60, Try.ntmps60
    go_wp2_with (first
      | (go_at_call 39; refine (KI.out _).mono ?_; rintro e w1 ⟨rfl, hb⟩; have bx := Box.later (by first | assumption | exact Box.new _ _ _ _ _ _ _ _ _) hb; have bx2 := bx; obtain ⟨-, -, c0, c1, c2, c3, c4, c5⟩ := bx2))
    go_ret
    exact ⟨rfl, Box.below (by assumption)⟩
set_option maxRecDepth 100000 in
set_option maxHeartbeats 4000000 in
theorem rdecl_else (P : Fo) (k : Int) (t : ByteArray) (n m a : Int) (A : Option Addr) (c : Nat) (w : World) (hH : Holds w w.heap.size P A 0) (hlc : P.len ≤ c) (hcc : c ≤ 1000000000000000) (ht : t.size ≤ 1000000000000000) (hm : m = 0 ∨ m = 1) (hid : idB t = true) (h : k ≠ 70 ∧ k ≠ 72 ∧ k ≠ 74 ∧ k ≠ 76 ∧ k ≠ 80 ∧ k ≠ 81 ∧ k ≠ 82) :
    Calls Try.prog 60 #[.agg #[.int .i64 k, .string t, .int .i64 n, .int .i64 m, .int .i64 a, .slice A P.len c]] w fun e w' => e = .returned (.bool (false)) ∧ Below w.heap.size w w' := by
  have hl : P.len ≤ 1000000000000000 := by omega
  obtain ⟨h70, h72, h74, h76, h80, h81, h82⟩ := h
  have t70 : (k == 70) = false := beq_eq_false_iff_ne.2 h70
  have t72 : (k == 72) = false := beq_eq_false_iff_ne.2 h72
  have t74 : (k == 74) = false := beq_eq_false_iff_ne.2 h74
  have t76 : (k == 76) = false := beq_eq_false_iff_ne.2 h76
  have t80 : (k == 80) = false := beq_eq_false_iff_ne.2 h80
  have t81 : (k == 81) = false := beq_eq_false_iff_ne.2 h81
  have t82 : (k == 82) = false := beq_eq_false_iff_ne.2 h82
  have KI := Lib.hid (fun W => isname_ref t W ht)
  rw [hid] at KI
  have KRun := Lib.hid (fun W (hW : Below w.heap.size w W) => run_any P 73 0 A c W ((hH.below hW).more hW.size) (Nat.zero_le _) hl)
  rw [List.drop_zero] at KRun
  clear hid h70 h72 h74 h76 h80 h81 h82 hH hlc
  generalize runN 73 P.inf = r at *
  generalize P.len = x at *
  rcases hm with rfl | rfl
  all_goals
    go_enter Try.func60, Try.ntmps60
    go_wp2_with (first
      | (go_at_call 39; refine (KI.out _).mono ?_; rintro e w1 ⟨rfl, hb⟩; have bx := Box.later (by first | assumption | exact Box.new _ _ _ _ _ _ _ _ _) hb; have bx2 := bx; obtain ⟨-, -, c0, c1, c2, c3, c4, c5⟩ := bx2)
      | (go_at_call 82; refine (KRun.out _ (Box.below (by assumption))).mono ?_; rintro e w1 ⟨rfl, rfl⟩))
    go_ret
    exact ⟨rfl, Box.below (by assumption)⟩
set_option maxRecDepth 100000 in
set_option maxHeartbeats 4000000 in
theorem rdecl_74 (P : Fo) (t : ByteArray) (n m a : Int) (A : Option Addr) (c : Nat) (w : World) (hH : Holds w w.heap.size P A 0) (hlc : P.len ≤ c) (hcc : c ≤ 1000000000000000) (ht : t.size ≤ 1000000000000000) (hm : m = 0 ∨ m = 1) (hid : idB t = true) :
    Calls Try.prog 60 #[.agg #[.int .i64 74, .string t, .int .i64 n, .int .i64 m, .int .i64 a, .slice A P.len c]] w fun e w' => e = .returned (.bool (interD n P.inf)) ∧ Below w.heap.size w w' := by
  have hl : P.len ≤ 1000000000000000 := by omega
  have KI := Lib.hid (fun W => isname_ref t W ht)
  rw [hid] at KI
  have KRun := Lib.hid (fun W (hW : Below w.heap.size w W) => run_any P 73 0 A c W ((hH.below hW).more hW.size) (Nat.zero_le _) hl)
  rw [List.drop_zero] at KRun
  have KM := Lib.hid (fun W (hW : Below w.heap.size w W) => inter_any P t n m a A c W ((hH.below hW).more hW.size) hlc hcc)
  rw [inter_same P.inf (ok_inf P) n] at KM
  generalize interD n P.inf = y at *
  clear hid hH hlc
  generalize runN 73 P.inf = r at *
  generalize P.len = x at *
  rcases hm with rfl | rfl
  all_goals
    go_enter Try.func60, Try.ntmps60
    go_wp2_with (first
      | (go_at_call 39; refine (KI.out _).mono ?_; rintro e w1 ⟨rfl, hb⟩; have bx := Box.later (by first | assumption | exact Box.new _ _ _ _ _ _ _ _ _) hb; have bx2 := bx; obtain ⟨-, -, c0, c1, c2, c3, c4, c5⟩ := bx2)
      | (go_at_call 82; refine (KRun.out _ (Box.below (by assumption))).mono ?_; rintro e w1 ⟨rfl, rfl⟩)
      | (go_at_call 84; refine (KM.out _ (by first | exact Box.below (by assumption) | exact (Below.refl _ _).alloc (Nat.le_refl _) _)).mono ?_; rintro e w1 ⟨rfl, hb⟩; have bx := Box.later (by first | assumption | exact Box.new _ _ _ _ _ _ _ _ _) hb; have bx2 := bx; obtain ⟨-, -, c0, c1, c2, c3, c4, c5⟩ := bx2))
    go_ret
    exact ⟨rfl, Box.below (by assumption)⟩
set_option maxRecDepth 100000 in
set_option maxHeartbeats 2000000 in
theorem rclass_any (P : Fo) (t : ByteArray) (n m a : Int) (A : Option Addr) (c : Nat) (w : World) (hH : Holds w w.heap.size P A 0) (hlc : P.len ≤ c) (hcc : c ≤ 1000000000000000) :
    Calls Try.prog 85 #[.agg #[.int .i64 76, .string t, .int .i64 n, .int .i64 m, .int .i64 a, .slice A P.len c]] w fun e w' => e = .returned (.bool (classR n P.inf)) ∧ Below w.heap.size w w' := by
  cases hp : timesB (·.par) P.inf n with
  | false =>
    rw [show classR n P.inf = false by unfold classR; rw [hp]; rfl]
    exact rclass_no1 P t n m a A c w hH hlc hcc hp
  | true =>
    by_cases hx : (runN 16 P.inf : Int) = n
    case neg =>
      rw [show classR n P.inf = false by unfold classR; rw [hp, decide_eq_false hx]; rfl]
      exact rclass_no2 P t n m a A c w hH hlc hcc hp _ rfl hx
    subst hx
    have hr : runN 16 P.inf ≤ P.len := by have := runN_le 16 P.inf; rwa [inf_len] at this
    generalize hxi : runN 16 P.inf = i at *
    have e : classR (i : Int) P.inf = (if hd75 (P.inf.drop i) = true then ((P.inf.drop i).take 1).all (·.base) && classT P.inf (i + 1) else classT P.inf i) := by
      unfold classR; rw [hp, hxi, decide_eq_true rfl]; rfl
    rw [e]
    by_cases hi : i = P.len
    · have hnil : P.inf.drop i = [] := List.drop_eq_nil_of_le (by rw [inf_len]; omega)
      rw [if_neg (by rw [hnil]; simp [hd75])]
      exact rclass_a P t m a i A c w hH hlc hcc hp hxi hi
    · cases hk : hd75 (P.inf.drop i) with
      | false => exact rclass_b P t m a i A c w hH hlc hcc hp hxi (by omega) hk
      | true => exact rclass_c P t m a i A c w hH hlc hcc hp hxi (by omega) hk
set_option maxRecDepth 100000 in
set_option maxHeartbeats 4000000 in
theorem rdecl_76 (P : Fo) (t : ByteArray) (n m a : Int) (A : Option Addr) (c : Nat) (w : World) (hH : Holds w w.heap.size P A 0) (hlc : P.len ≤ c) (hcc : c ≤ 1000000000000000) (ht : t.size ≤ 1000000000000000) (hm : m = 0 ∨ m = 1) (hid : idB t = true) :
    Calls Try.prog 60 #[.agg #[.int .i64 76, .string t, .int .i64 n, .int .i64 m, .int .i64 a, .slice A P.len c]] w fun e w' => e = .returned (.bool (classD n P.inf)) ∧ Below w.heap.size w w' := by
  have hl : P.len ≤ 1000000000000000 := by omega
  have KI := Lib.hid (fun W => isname_ref t W ht)
  rw [hid] at KI
  have KRun := Lib.hid (fun W (hW : Below w.heap.size w W) => run_any P 73 0 A c W ((hH.below hW).more hW.size) (Nat.zero_le _) hl)
  rw [List.drop_zero] at KRun
  have KM := Lib.hid (fun W (hW : Below w.heap.size w W) => rclass_any P t n m a A c W ((hH.below hW).more hW.size) hlc hcc)
  rw [class_same P.inf (ok_inf P) n] at KM
  generalize classD n P.inf = y at *
  clear hid hH hlc
  generalize runN 73 P.inf = r at *
  generalize P.len = x at *
  rcases hm with rfl | rfl
  all_goals
    go_enter Try.func60, Try.ntmps60
    go_wp2_with (first
      | (go_at_call 39; refine (KI.out _).mono ?_; rintro e w1 ⟨rfl, hb⟩; have bx := Box.later (by first | assumption | exact Box.new _ _ _ _ _ _ _ _ _) hb; have bx2 := bx; obtain ⟨-, -, c0, c1, c2, c3, c4, c5⟩ := bx2)
      | (go_at_call 82; refine (KRun.out _ (Box.below (by assumption))).mono ?_; rintro e w1 ⟨rfl, rfl⟩)
      | (go_at_call 85; refine (KM.out _ (by first | exact Box.below (by assumption) | exact (Below.refl _ _).alloc (Nat.le_refl _) _)).mono ?_; rintro e w1 ⟨rfl, hb⟩; have bx := Box.later (by first | assumption | exact Box.new _ _ _ _ _ _ _ _ _) hb; have bx2 := bx; obtain ⟨-, -, c0, c1, c2, c3, c4, c5⟩ := bx2))
    go_ret
    exact ⟨rfl, Box.below (by assumption)⟩
end Go.Proofs.Ytogoolpgajopcaa
