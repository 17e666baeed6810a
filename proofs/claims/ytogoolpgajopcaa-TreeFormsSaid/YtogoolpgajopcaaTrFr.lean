import Derived.Test.YtogoolpgajopcaaTrFp
import Derived.Test.YtogoolpgajopcaaTrFq
namespace Go.Proofs.Ytogoolpgajopcaa
open Go.RowKit
theorem timesB_le {p : Inf → Bool} {l : List Inf} {q : Int} (h : timesB p l q = true) : q.toNat ≤ l.length := by
  unfold timesB at h
  simp only [Bool.and_eq_true, decide_eq_true_eq] at h
  omega
theorem runN_le (K : Int) : ∀ l : List Inf, runN K l ≤ l.length
  | [] => by simp [runN]
  | x :: l => by
    have := runN_le K l
    unfold runN at *
    rw [List.takeWhile_cons]
    split <;> simp <;> omega
theorem allV (P : Fo) : AllC (FunP 76 (·.var)) P := AllC.of variable_any P
theorem allRf (P : Fo) : AllC (FunP 79 (·.refs)) P := AllC.of refers_any P
theorem allFl (P : Fo) : AllC (FunP 36 (·.fld)) P := AllC.of (fun Q => (type_prog Q).2.2.1) P
theorem allPa (P : Fo) : AllC (FunP 35 (·.par)) P := AllC.of (fun Q => (type_prog Q).2.1) P
theorem allHo (P : Fo) : AllC (FunP 93 (·.hold)) P := AllC.of holds_any P
theorem allMe (P : Fo) : AllC (FunP 94 (·.meth)) P := AllC.of method_any P
theorem allIm (P : Fo) : AllC (FunP 74 (·.imp)) P := AllC.of importName_any P
theorem allBa (P : Fo) : AllC (FunP 92 (·.base)) P := AllC.of base_any P
/-- The walker of a declaration, as it is made. -/
theorem Wk.start (w : World) (o : Obj) (P : Fo) (A : Option Addr) (c : Nat) (hH : Holds w w.heap.size P A 0) : Wk (w.heap.size + 1) 0 P A c (w.heap.size + 1) ((w.alloc o).alloc (.cells #[.int .i64 0, .slice A P.len c] 56)) := by
  have h1 : (w.alloc o).heap.size = w.heap.size + 1 := alloc_size w o
  have key := fun j => box_cells (w := w.alloc o) (cs := #[.int .i64 0, .slice A P.len c]) (t := 56) (Below.refl _ _) j
  simp only [h1] at key
  have hb : Below w.heap.size w ((w.alloc o).alloc (.cells #[.int .i64 0, .slice A P.len c] 56)) := ((Below.refl _ _).alloc (Nat.le_refl _) _).alloc (by simp) _
  exact ⟨key 0, key 1, by rw [← h1]; simp, by simp, Nat.le_refl _, (hH.below hb).more (by omega)⟩
set_option maxRecDepth 100000 in
set_option maxHeartbeats 4000000 in
theorem decl_72 (P : Fo) (t : ByteArray) (n m a : Int) (A : Option Addr) (c : Nat) (w : World) (hH : Holds w w.heap.size P A 0) (hlc : P.len ≤ c) (hcc : c ≤ 1000000000000000) (ht : t.size ≤ 1000000000000000) (hm : m = 0 ∨ m = 1) (hid : idB t = true) :
    Calls Try.prog 59 #[.agg #[.int .i64 72, .string t, .int .i64 n, .int .i64 m, .int .i64 a, .slice A P.len c]] w fun e w' => e = .returned (.bool (typeD n P.inf)) ∧ Below w.heap.size w w' := by
  obtain ⟨y, hy⟩ : ∃ y, typeD n P.inf = y := ⟨_, rfl⟩
  rw [hy]
  unfold typeD at hy
  have HS := Lib.hid (fun o => Wk.start w o P A c hH)
  have KI := Lib.hid (fun W => isname_any 72 t n m a P.len A c ht W)
  rw [hid] at KI
  clear hH
  rcases hm with rfl | rfl
  · go_enter Try.func59, Try.ntmps59
    go_wp2_with fail
    refine (KI.out _).mono ?_
    rintro e w1 ⟨rfl, hb1⟩
    have HK := Lib.hid ((HS.out _).later hb1)
    have bx := ((Box.new w 72 t n _ a P.len A c).later ((Below.refl _ _).alloc (Nat.le_refl _) (.cells #[.int .i64 0, .slice A P.len c] 56))).later hb1
    have HBd : Hid (Below (w.heap.size + 1) (w.alloc (.cells #[.int .i64 72, .string t, .int .i64 n, .int .i64 0, .int .i64 a, .slice A P.len c] 24)) w1) := Lib.hid (by
      have h2 : Below (w.heap.size + 1) (w.alloc (.cells #[.int .i64 72, .string t, .int .i64 n, .int .i64 0, .int .i64 a, .slice A P.len c] 24)) ((w.alloc (.cells #[.int .i64 72, .string t, .int .i64 n, .int .i64 0, .int .i64 a, .slice A P.len c] 24)).alloc (.cells #[.int .i64 0, .slice A P.len c] 56)) := (Below.refl _ _).alloc (by simp) _
      exact h2.trans (hb1.mono (by simp)))
    have HB0 := Lib.hid (fun w' (h : Below (w.heap.size + 1) (w.alloc (.cells #[.int .i64 72, .string t, .int .i64 n, .int .i64 0, .int .i64 a, .slice A P.len c] 24)) w') => ((Below.refl w.heap.size w).alloc (Nat.le_refl _) (.cells #[.int .i64 72, .string t, .int .i64 n, .int .i64 0, .int .i64 a, .slice A P.len c] 24)).trans (h.mono (by omega)))
    obtain ⟨-, -, c0, c1, c2, c3, c4, c5⟩ := bx
    clear hb1 HS KI
    have HY := Lib.hid hy
    clear hy
    go_wp2_with fail
    refine (times_variable P (allV P) n HK.out (Nat.zero_le _) hlc hcc).mono ?_
    rintro e w2 ⟨b, rfl, hb, hk, hbel⟩
    have HB2 := Lib.hid (HBd.out.trans hbel)
    try simp only [List.drop_zero] at hb
    have HBq := Lib.hid hb
    have HKq := Lib.hid hk
    clear hk hbel hb
    cases b with
    | false =>
      have HZ : Hid (false = y) := Lib.hid (by rw [← HY.out, ← HBq.out]; simp)
      clear HBq HKq HY
      go_wp2_with fail
      go_ret
      exact ⟨ret_bool HZ.out, HB0.out _ HB2.out⟩
    | true =>
    have HKn : Hid (Wk (w.heap.size + 1) (n.toNat) P A c (w.heap.size + 1) w2) := Lib.hid (by first | exact HKq.out rfl | simpa using HKq.out rfl)
    have hin : n.toNat ≤ P.len := by
      have hb := HBq.out
      have := timesB_le hb.symm; simpa [inf_len] using this
    have HYn := Lib.hid (by have h := HY.out; rw [← HBq.out, Bool.true_and] at h; exact h)
    clear HBd HK HY HBq HKq
    have HBd := HB2
    have HK := HKn
    have HY := HYn
    clear HB2 HKn HYn
    go_wp2_with fail
    refine (times_Type P (allT P) 1 HK.out hin hlc hcc).mono ?_
    rintro e w2 ⟨b, rfl, hb, hk, hbel⟩
    have HB2 := Lib.hid (HBd.out.trans hbel)
    try simp only [List.drop_zero] at hb
    have HBq := Lib.hid hb
    have HKq := Lib.hid hk
    clear hk hbel hb
    cases b with
    | false =>
      have HZ : Hid (false = y) := Lib.hid (by rw [← HY.out, ← HBq.out]; simp)
      clear HBq HKq HY
      go_wp2_with fail
      go_ret
      exact ⟨ret_bool HZ.out, HB0.out _ HB2.out⟩
    | true =>
    have HKn : Hid (Wk (w.heap.size + 1) (n.toNat + 1) P A c (w.heap.size + 1) w2) := Lib.hid (by first | exact HKq.out rfl | simpa using HKq.out rfl)
    have hin : n.toNat + 1 ≤ P.len := by
      have hb := HBq.out
      have := timesB_le hb.symm; simp only [List.length_drop, inf_len] at this; simp at this; omega
    have HYn := Lib.hid (by have h := HY.out; rw [← HBq.out, Bool.true_and] at h; exact h)
    clear HBd HK HY HBq HKq
    have HBd := HB2
    have HK := HKn
    have HY := HYn
    clear HB2 HKn HYn
    go_wp2_with fail
    refine (done_any HK.out).mono ?_
    rintro e w2 ⟨rfl, hbel⟩
    have HB2 := Lib.hid (HBd.out.trans hbel)
    have HYn : Hid (decide (n.toNat + 1 = P.len) = y) := Lib.hid (by have h := HY.out; rw [inf_len] at h; exact h)
    clear hbel HY
    generalize decide (n.toNat + 1 = P.len) = z at *
    go_wp2_with fail
    go_ret
    exact ⟨ret_bool HYn.out, HB0.out _ HB2.out⟩
  · go_enter Try.func59, Try.ntmps59
    go_wp2_with fail
    refine (KI.out _).mono ?_
    rintro e w1 ⟨rfl, hb1⟩
    have HK := Lib.hid ((HS.out _).later hb1)
    have bx := ((Box.new w 72 t n _ a P.len A c).later ((Below.refl _ _).alloc (Nat.le_refl _) (.cells #[.int .i64 0, .slice A P.len c] 56))).later hb1
    have HBd : Hid (Below (w.heap.size + 1) (w.alloc (.cells #[.int .i64 72, .string t, .int .i64 n, .int .i64 1, .int .i64 a, .slice A P.len c] 24)) w1) := Lib.hid (by
      have h2 : Below (w.heap.size + 1) (w.alloc (.cells #[.int .i64 72, .string t, .int .i64 n, .int .i64 1, .int .i64 a, .slice A P.len c] 24)) ((w.alloc (.cells #[.int .i64 72, .string t, .int .i64 n, .int .i64 1, .int .i64 a, .slice A P.len c] 24)).alloc (.cells #[.int .i64 0, .slice A P.len c] 56)) := (Below.refl _ _).alloc (by simp) _
      exact h2.trans (hb1.mono (by simp)))
    have HB0 := Lib.hid (fun w' (h : Below (w.heap.size + 1) (w.alloc (.cells #[.int .i64 72, .string t, .int .i64 n, .int .i64 1, .int .i64 a, .slice A P.len c] 24)) w') => ((Below.refl w.heap.size w).alloc (Nat.le_refl _) (.cells #[.int .i64 72, .string t, .int .i64 n, .int .i64 1, .int .i64 a, .slice A P.len c] 24)).trans (h.mono (by omega)))
    obtain ⟨-, -, c0, c1, c2, c3, c4, c5⟩ := bx
    clear hb1 HS KI
    have HY := Lib.hid hy
    clear hy
    go_wp2_with fail
    refine (times_variable P (allV P) n HK.out (Nat.zero_le _) hlc hcc).mono ?_
    rintro e w2 ⟨b, rfl, hb, hk, hbel⟩
    have HB2 := Lib.hid (HBd.out.trans hbel)
    try simp only [List.drop_zero] at hb
    have HBq := Lib.hid hb
    have HKq := Lib.hid hk
    clear hk hbel hb
    cases b with
    | false =>
      have HZ : Hid (false = y) := Lib.hid (by rw [← HY.out, ← HBq.out]; simp)
      clear HBq HKq HY
      go_wp2_with fail
      go_ret
      exact ⟨ret_bool HZ.out, HB0.out _ HB2.out⟩
    | true =>
    have HKn : Hid (Wk (w.heap.size + 1) (n.toNat) P A c (w.heap.size + 1) w2) := Lib.hid (by first | exact HKq.out rfl | simpa using HKq.out rfl)
    have hin : n.toNat ≤ P.len := by
      have hb := HBq.out
      have := timesB_le hb.symm; simpa [inf_len] using this
    have HYn := Lib.hid (by have h := HY.out; rw [← HBq.out, Bool.true_and] at h; exact h)
    clear HBd HK HY HBq HKq
    have HBd := HB2
    have HK := HKn
    have HY := HYn
    clear HB2 HKn HYn
    go_wp2_with fail
    refine (times_Type P (allT P) 1 HK.out hin hlc hcc).mono ?_
    rintro e w2 ⟨b, rfl, hb, hk, hbel⟩
    have HB2 := Lib.hid (HBd.out.trans hbel)
    try simp only [List.drop_zero] at hb
    have HBq := Lib.hid hb
    have HKq := Lib.hid hk
    clear hk hbel hb
    cases b with
    | false =>
      have HZ : Hid (false = y) := Lib.hid (by rw [← HY.out, ← HBq.out]; simp)
      clear HBq HKq HY
      go_wp2_with fail
      go_ret
      exact ⟨ret_bool HZ.out, HB0.out _ HB2.out⟩
    | true =>
    have HKn : Hid (Wk (w.heap.size + 1) (n.toNat + 1) P A c (w.heap.size + 1) w2) := Lib.hid (by first | exact HKq.out rfl | simpa using HKq.out rfl)
    have hin : n.toNat + 1 ≤ P.len := by
      have hb := HBq.out
      have := timesB_le hb.symm; simp only [List.length_drop, inf_len] at this; simp at this; omega
    have HYn := Lib.hid (by have h := HY.out; rw [← HBq.out, Bool.true_and] at h; exact h)
    clear HBd HK HY HBq HKq
    have HBd := HB2
    have HK := HKn
    have HY := HYn
    clear HB2 HKn HYn
    go_wp2_with fail
    refine (done_any HK.out).mono ?_
    rintro e w2 ⟨rfl, hbel⟩
    have HB2 := Lib.hid (HBd.out.trans hbel)
    have HYn : Hid (decide (n.toNat + 1 = P.len) = y) := Lib.hid (by have h := HY.out; rw [inf_len] at h; exact h)
    clear hbel HY
    generalize decide (n.toNat + 1 = P.len) = z at *
    go_wp2_with fail
    go_ret
    exact ⟨ret_bool HYn.out, HB0.out _ HB2.out⟩
set_option maxRecDepth 100000 in
set_option maxHeartbeats 4000000 in
theorem decl_74 (P : Fo) (t : ByteArray) (n m a : Int) (A : Option Addr) (c : Nat) (w : World) (hH : Holds w w.heap.size P A 0) (hlc : P.len ≤ c) (hcc : c ≤ 1000000000000000) (ht : t.size ≤ 1000000000000000) (hm : m = 0 ∨ m = 1) (hid : idB t = true) :
    Calls Try.prog 59 #[.agg #[.int .i64 74, .string t, .int .i64 n, .int .i64 m, .int .i64 a, .slice A P.len c]] w fun e w' => e = .returned (.bool (interD n P.inf)) ∧ Below w.heap.size w w' := by
  obtain ⟨y, hy⟩ : ∃ y, interD n P.inf = y := ⟨_, rfl⟩
  rw [hy]
  unfold interD at hy
  have HS := Lib.hid (fun o => Wk.start w o P A c hH)
  have KI := Lib.hid (fun W => isname_any 74 t n m a P.len A c ht W)
  rw [hid] at KI
  clear hH
  rcases hm with rfl | rfl
  · go_enter Try.func59, Try.ntmps59
    go_wp2_with fail
    refine (KI.out _).mono ?_
    rintro e w1 ⟨rfl, hb1⟩
    have HK := Lib.hid ((HS.out _).later hb1)
    have bx := ((Box.new w 74 t n _ a P.len A c).later ((Below.refl _ _).alloc (Nat.le_refl _) (.cells #[.int .i64 0, .slice A P.len c] 56))).later hb1
    have HBd : Hid (Below (w.heap.size + 1) (w.alloc (.cells #[.int .i64 74, .string t, .int .i64 n, .int .i64 0, .int .i64 a, .slice A P.len c] 24)) w1) := Lib.hid (by
      have h2 : Below (w.heap.size + 1) (w.alloc (.cells #[.int .i64 74, .string t, .int .i64 n, .int .i64 0, .int .i64 a, .slice A P.len c] 24)) ((w.alloc (.cells #[.int .i64 74, .string t, .int .i64 n, .int .i64 0, .int .i64 a, .slice A P.len c] 24)).alloc (.cells #[.int .i64 0, .slice A P.len c] 56)) := (Below.refl _ _).alloc (by simp) _
      exact h2.trans (hb1.mono (by simp)))
    have HB0 := Lib.hid (fun w' (h : Below (w.heap.size + 1) (w.alloc (.cells #[.int .i64 74, .string t, .int .i64 n, .int .i64 0, .int .i64 a, .slice A P.len c] 24)) w') => ((Below.refl w.heap.size w).alloc (Nat.le_refl _) (.cells #[.int .i64 74, .string t, .int .i64 n, .int .i64 0, .int .i64 a, .slice A P.len c] 24)).trans (h.mono (by omega)))
    obtain ⟨-, -, c0, c1, c2, c3, c4, c5⟩ := bx
    clear hb1 HS KI
    have HY := Lib.hid hy
    clear hy
    go_wp2_with fail
    refine (times_variable P (allV P) n HK.out (Nat.zero_le _) hlc hcc).mono ?_
    rintro e w2 ⟨b, rfl, hb, hk, hbel⟩
    have HB2 := Lib.hid (HBd.out.trans hbel)
    try simp only [List.drop_zero] at hb
    have HBq := Lib.hid hb
    have HKq := Lib.hid hk
    clear hk hbel hb
    cases b with
    | false =>
      have HZ : Hid (false = y) := Lib.hid (by rw [← HY.out, ← HBq.out]; simp)
      clear HBq HKq HY
      go_wp2_with fail
      go_ret
      exact ⟨ret_bool HZ.out, HB0.out _ HB2.out⟩
    | true =>
    have HKn : Hid (Wk (w.heap.size + 1) (n.toNat) P A c (w.heap.size + 1) w2) := Lib.hid (by first | exact HKq.out rfl | simpa using HKq.out rfl)
    have hin : n.toNat ≤ P.len := by
      have hb := HBq.out
      have := timesB_le hb.symm; simpa [inf_len] using this
    have HYn := Lib.hid (by have h := HY.out; rw [← HBq.out, Bool.true_and] at h; exact h)
    clear HBd HK HY HBq HKq
    have HBd := HB2
    have HK := HKn
    have HY := HYn
    clear HB2 HKn HYn
    go_wp2_with fail
    refine (while_refers75 P (allRf P) HK.out hin hlc hcc).mono ?_
    rintro e w2 ⟨b, rfl, hb, hk, hbel⟩
    have HB2 := Lib.hid (HBd.out.trans hbel)
    try simp only [List.drop_zero] at hb
    have HBq := Lib.hid hb
    have HKq := Lib.hid hk
    clear hk hbel hb
    cases b with
    | false =>
      have HZ : Hid (false = y) := Lib.hid (by rw [← HY.out, ← HBq.out]; simp)
      clear HBq HKq HY
      go_wp2_with fail
      go_ret
      exact ⟨ret_bool HZ.out, HB0.out _ HB2.out⟩
    | true =>
    have HKn : Hid (Wk (w.heap.size + 1) (n.toNat + runN 75 (P.inf.drop n.toNat)) P A c (w.heap.size + 1) w2) := Lib.hid (by first | exact HKq.out rfl | simpa using HKq.out rfl)
    have hin : n.toNat + runN 75 (P.inf.drop n.toNat) ≤ P.len := by
      have hb := HBq.out
      have := runN_le 75 (P.inf.drop n.toNat); simp only [List.length_drop, inf_len] at this; omega
    have HYn := Lib.hid (by have h := HY.out; rw [← HBq.out, Bool.true_and] at h; exact h)
    clear HBd HK HY HBq HKq
    have HBd := HB2
    have HK := HKn
    have HY := HYn
    clear HB2 HKn HYn
    go_wp2_with fail
    refine (while_field8 P (allFl P) HK.out hin hlc hcc).mono ?_
    rintro e w2 ⟨b, rfl, hb, hk, hbel⟩
    have HB2 := Lib.hid (HBd.out.trans hbel)
    try simp only [List.drop_zero] at hb
    have HBq := Lib.hid hb
    have HKq := Lib.hid hk
    clear hk hbel hb
    cases b with
    | false =>
      have HZ : Hid (false = y) := Lib.hid (by rw [← HY.out, ← HBq.out]; simp)
      clear HBq HKq HY
      go_wp2_with fail
      go_ret
      exact ⟨ret_bool HZ.out, HB0.out _ HB2.out⟩
    | true =>
    have HKn : Hid (Wk (w.heap.size + 1) (n.toNat + runN 75 (P.inf.drop n.toNat) + runN 8 (P.inf.drop (n.toNat + runN 75 (P.inf.drop n.toNat)))) P A c (w.heap.size + 1) w2) := Lib.hid (by first | exact HKq.out rfl | simpa using HKq.out rfl)
    have hin : n.toNat + runN 75 (P.inf.drop n.toNat) + runN 8 (P.inf.drop (n.toNat + runN 75 (P.inf.drop n.toNat))) ≤ P.len := by
      have hb := HBq.out
      have := runN_le 8 (P.inf.drop (n.toNat + runN 75 (P.inf.drop n.toNat))); simp only [List.length_drop, inf_len] at this; omega
    have HYn := Lib.hid (by have h := HY.out; rw [← HBq.out, Bool.true_and] at h; exact h)
    clear HBd HK HY HBq HKq
    have HBd := HB2
    have HK := HKn
    have HY := HYn
    clear HB2 HKn HYn
    go_wp2_with fail
    refine (done_any HK.out).mono ?_
    rintro e w2 ⟨rfl, hbel⟩
    have HB2 := Lib.hid (HBd.out.trans hbel)
    have HYn : Hid (decide (n.toNat + runN 75 (P.inf.drop n.toNat) + runN 8 (P.inf.drop (n.toNat + runN 75 (P.inf.drop n.toNat))) = P.len) = y) := Lib.hid (by have h := HY.out; rw [inf_len] at h; exact h)
    clear hbel HY
    generalize decide (n.toNat + runN 75 (P.inf.drop n.toNat) + runN 8 (P.inf.drop (n.toNat + runN 75 (P.inf.drop n.toNat))) = P.len) = z at *
    go_wp2_with fail
    go_ret
    exact ⟨ret_bool HYn.out, HB0.out _ HB2.out⟩
  · go_enter Try.func59, Try.ntmps59
    go_wp2_with fail
    refine (KI.out _).mono ?_
    rintro e w1 ⟨rfl, hb1⟩
    have HK := Lib.hid ((HS.out _).later hb1)
    have bx := ((Box.new w 74 t n _ a P.len A c).later ((Below.refl _ _).alloc (Nat.le_refl _) (.cells #[.int .i64 0, .slice A P.len c] 56))).later hb1
    have HBd : Hid (Below (w.heap.size + 1) (w.alloc (.cells #[.int .i64 74, .string t, .int .i64 n, .int .i64 1, .int .i64 a, .slice A P.len c] 24)) w1) := Lib.hid (by
      have h2 : Below (w.heap.size + 1) (w.alloc (.cells #[.int .i64 74, .string t, .int .i64 n, .int .i64 1, .int .i64 a, .slice A P.len c] 24)) ((w.alloc (.cells #[.int .i64 74, .string t, .int .i64 n, .int .i64 1, .int .i64 a, .slice A P.len c] 24)).alloc (.cells #[.int .i64 0, .slice A P.len c] 56)) := (Below.refl _ _).alloc (by simp) _
      exact h2.trans (hb1.mono (by simp)))
    have HB0 := Lib.hid (fun w' (h : Below (w.heap.size + 1) (w.alloc (.cells #[.int .i64 74, .string t, .int .i64 n, .int .i64 1, .int .i64 a, .slice A P.len c] 24)) w') => ((Below.refl w.heap.size w).alloc (Nat.le_refl _) (.cells #[.int .i64 74, .string t, .int .i64 n, .int .i64 1, .int .i64 a, .slice A P.len c] 24)).trans (h.mono (by omega)))
    obtain ⟨-, -, c0, c1, c2, c3, c4, c5⟩ := bx
    clear hb1 HS KI
    have HY := Lib.hid hy
    clear hy
    go_wp2_with fail
    refine (times_variable P (allV P) n HK.out (Nat.zero_le _) hlc hcc).mono ?_
    rintro e w2 ⟨b, rfl, hb, hk, hbel⟩
    have HB2 := Lib.hid (HBd.out.trans hbel)
    try simp only [List.drop_zero] at hb
    have HBq := Lib.hid hb
    have HKq := Lib.hid hk
    clear hk hbel hb
    cases b with
    | false =>
      have HZ : Hid (false = y) := Lib.hid (by rw [← HY.out, ← HBq.out]; simp)
      clear HBq HKq HY
      go_wp2_with fail
      go_ret
      exact ⟨ret_bool HZ.out, HB0.out _ HB2.out⟩
    | true =>
    have HKn : Hid (Wk (w.heap.size + 1) (n.toNat) P A c (w.heap.size + 1) w2) := Lib.hid (by first | exact HKq.out rfl | simpa using HKq.out rfl)
    have hin : n.toNat ≤ P.len := by
      have hb := HBq.out
      have := timesB_le hb.symm; simpa [inf_len] using this
    have HYn := Lib.hid (by have h := HY.out; rw [← HBq.out, Bool.true_and] at h; exact h)
    clear HBd HK HY HBq HKq
    have HBd := HB2
    have HK := HKn
    have HY := HYn
    clear HB2 HKn HYn
    go_wp2_with fail
    refine (while_refers75 P (allRf P) HK.out hin hlc hcc).mono ?_
    rintro e w2 ⟨b, rfl, hb, hk, hbel⟩
    have HB2 := Lib.hid (HBd.out.trans hbel)
    try simp only [List.drop_zero] at hb
    have HBq := Lib.hid hb
    have HKq := Lib.hid hk
    clear hk hbel hb
    cases b with
    | false =>
      have HZ : Hid (false = y) := Lib.hid (by rw [← HY.out, ← HBq.out]; simp)
      clear HBq HKq HY
      go_wp2_with fail
      go_ret
      exact ⟨ret_bool HZ.out, HB0.out _ HB2.out⟩
    | true =>
    have HKn : Hid (Wk (w.heap.size + 1) (n.toNat + runN 75 (P.inf.drop n.toNat)) P A c (w.heap.size + 1) w2) := Lib.hid (by first | exact HKq.out rfl | simpa using HKq.out rfl)
    have hin : n.toNat + runN 75 (P.inf.drop n.toNat) ≤ P.len := by
      have hb := HBq.out
      have := runN_le 75 (P.inf.drop n.toNat); simp only [List.length_drop, inf_len] at this; omega
    have HYn := Lib.hid (by have h := HY.out; rw [← HBq.out, Bool.true_and] at h; exact h)
    clear HBd HK HY HBq HKq
    have HBd := HB2
    have HK := HKn
    have HY := HYn
    clear HB2 HKn HYn
    go_wp2_with fail
    refine (while_field8 P (allFl P) HK.out hin hlc hcc).mono ?_
    rintro e w2 ⟨b, rfl, hb, hk, hbel⟩
    have HB2 := Lib.hid (HBd.out.trans hbel)
    try simp only [List.drop_zero] at hb
    have HBq := Lib.hid hb
    have HKq := Lib.hid hk
    clear hk hbel hb
    cases b with
    | false =>
      have HZ : Hid (false = y) := Lib.hid (by rw [← HY.out, ← HBq.out]; simp)
      clear HBq HKq HY
      go_wp2_with fail
      go_ret
      exact ⟨ret_bool HZ.out, HB0.out _ HB2.out⟩
    | true =>
    have HKn : Hid (Wk (w.heap.size + 1) (n.toNat + runN 75 (P.inf.drop n.toNat) + runN 8 (P.inf.drop (n.toNat + runN 75 (P.inf.drop n.toNat)))) P A c (w.heap.size + 1) w2) := Lib.hid (by first | exact HKq.out rfl | simpa using HKq.out rfl)
    have hin : n.toNat + runN 75 (P.inf.drop n.toNat) + runN 8 (P.inf.drop (n.toNat + runN 75 (P.inf.drop n.toNat))) ≤ P.len := by
      have hb := HBq.out
      have := runN_le 8 (P.inf.drop (n.toNat + runN 75 (P.inf.drop n.toNat))); simp only [List.length_drop, inf_len] at this; omega
    have HYn := Lib.hid (by have h := HY.out; rw [← HBq.out, Bool.true_and] at h; exact h)
    clear HBd HK HY HBq HKq
    have HBd := HB2
    have HK := HKn
    have HY := HYn
    clear HB2 HKn HYn
    go_wp2_with fail
    refine (done_any HK.out).mono ?_
    rintro e w2 ⟨rfl, hbel⟩
    have HB2 := Lib.hid (HBd.out.trans hbel)
    have HYn : Hid (decide (n.toNat + runN 75 (P.inf.drop n.toNat) + runN 8 (P.inf.drop (n.toNat + runN 75 (P.inf.drop n.toNat))) = P.len) = y) := Lib.hid (by have h := HY.out; rw [inf_len] at h; exact h)
    clear hbel HY
    generalize decide (n.toNat + runN 75 (P.inf.drop n.toNat) + runN 8 (P.inf.drop (n.toNat + runN 75 (P.inf.drop n.toNat))) = P.len) = z at *
    go_wp2_with fail
    go_ret
    exact ⟨ret_bool HYn.out, HB0.out _ HB2.out⟩
set_option maxRecDepth 100000 in
set_option maxHeartbeats 4000000 in
theorem decl_82 (P : Fo) (t : ByteArray) (n m a : Int) (A : Option Addr) (c : Nat) (w : World) (hH : Holds w w.heap.size P A 0) (hlc : P.len ≤ c) (hcc : c ≤ 1000000000000000) (ht : t.size ≤ 1000000000000000) (hm : m = 0 ∨ m = 1) (hid : idB t = true) :
    Calls Try.prog 59 #[.agg #[.int .i64 82, .string t, .int .i64 n, .int .i64 m, .int .i64 a, .slice A P.len c]] w fun e w' => e = .returned (.bool (constD n P.inf)) ∧ Below w.heap.size w w' := by
  obtain ⟨y, hy⟩ : ∃ y, constD n P.inf = y := ⟨_, rfl⟩
  rw [hy]
  unfold constD at hy
  have HS := Lib.hid (fun o => Wk.start w o P A c hH)
  have KI := Lib.hid (fun W => isname_any 82 t n m a P.len A c ht W)
  rw [hid] at KI
  by_cases hn : n = 0
  case neg =>
    have tn : (n == 0) = false := beq_eq_false_iff_ne.2 hn
    rw [tn] at hy
    have HY : Hid (false = y) := Lib.hid (by rw [← hy]; rfl)
    clear hn hy hH HS hid hlc
    generalize P.len = x at *
    rcases hm with rfl | rfl
    all_goals
      go_enter Try.func59, Try.ntmps59
      go_wp2_with fail
      refine (KI.out _).mono ?_
      rintro e w1 ⟨rfl, hb1⟩
      have bx := ((Box.new w 82 t n _ a x A c).later ((Below.refl _ _).alloc (Nat.le_refl _) (.cells #[.int .i64 0, .slice A x c] 56))).later hb1
      have HB := Lib.hid bx.below
      obtain ⟨-, -, c0, c1, c2, c3, c4, c5⟩ := bx
      clear hb1
      go_wp2_with fail
      go_ret
      exact ⟨ret_bool HY.out, HB.out⟩
  subst hn
  rw [show ((0 : Int) == 0) = true from rfl, Bool.true_and] at hy
  clear hH
  rcases hm with rfl | rfl
  · go_enter Try.func59, Try.ntmps59
    go_wp2_with fail
    refine (KI.out _).mono ?_
    rintro e w1 ⟨rfl, hb1⟩
    have HK := Lib.hid ((HS.out _).later hb1)
    have bx := ((Box.new w 82 t 0 _ a P.len A c).later ((Below.refl _ _).alloc (Nat.le_refl _) (.cells #[.int .i64 0, .slice A P.len c] 56))).later hb1
    have HBd : Hid (Below (w.heap.size + 1) (w.alloc (.cells #[.int .i64 82, .string t, .int .i64 0, .int .i64 0, .int .i64 a, .slice A P.len c] 24)) w1) := Lib.hid (by
      have h2 : Below (w.heap.size + 1) (w.alloc (.cells #[.int .i64 82, .string t, .int .i64 0, .int .i64 0, .int .i64 a, .slice A P.len c] 24)) ((w.alloc (.cells #[.int .i64 82, .string t, .int .i64 0, .int .i64 0, .int .i64 a, .slice A P.len c] 24)).alloc (.cells #[.int .i64 0, .slice A P.len c] 56)) := (Below.refl _ _).alloc (by simp) _
      exact h2.trans (hb1.mono (by simp)))
    have HB0 := Lib.hid (fun w' (h : Below (w.heap.size + 1) (w.alloc (.cells #[.int .i64 82, .string t, .int .i64 0, .int .i64 0, .int .i64 a, .slice A P.len c] 24)) w') => ((Below.refl w.heap.size w).alloc (Nat.le_refl _) (.cells #[.int .i64 82, .string t, .int .i64 0, .int .i64 0, .int .i64 a, .slice A P.len c] 24)).trans (h.mono (by omega)))
    obtain ⟨-, -, c0, c1, c2, c3, c4, c5⟩ := bx
    clear hb1 HS KI
    have HY := Lib.hid hy
    clear hy
    go_wp2_with fail
    refine (times_Type P (allT P) 1 HK.out (Nat.zero_le _) hlc hcc).mono ?_
    rintro e w2 ⟨b, rfl, hb, hk, hbel⟩
    have HB2 := Lib.hid (HBd.out.trans hbel)
    try simp only [List.drop_zero] at hb
    have HBq := Lib.hid hb
    have HKq := Lib.hid hk
    clear hk hbel hb
    cases b with
    | false =>
      have HZ : Hid (false = y) := Lib.hid (by rw [← HY.out, ← HBq.out]; simp)
      clear HBq HKq HY
      go_wp2_with fail
      go_ret
      exact ⟨ret_bool HZ.out, HB0.out _ HB2.out⟩
    | true =>
    have HKn : Hid (Wk (w.heap.size + 1) (1) P A c (w.heap.size + 1) w2) := Lib.hid (by first | exact HKq.out rfl | simpa using HKq.out rfl)
    have hin : 1 ≤ P.len := by
      have hb := HBq.out
      have := timesB_le hb.symm; simp [inf_len] at this; omega
    have HYn := Lib.hid (by have h := HY.out; rw [← HBq.out, Bool.true_and] at h; exact h)
    clear HBd HK HY HBq HKq
    have HBd := HB2
    have HK := HKn
    have HY := HYn
    clear HB2 HKn HYn
    go_wp2_with fail
    refine (times_Expr P (allE P) 1 HK.out hin hlc hcc).mono ?_
    rintro e w2 ⟨b, rfl, hb, hk, hbel⟩
    have HB2 := Lib.hid (HBd.out.trans hbel)
    try simp only [List.drop_zero] at hb
    have HBq := Lib.hid hb
    have HKq := Lib.hid hk
    clear hk hbel hb
    cases b with
    | false =>
      have HZ : Hid (false = y) := Lib.hid (by rw [← HY.out, ← HBq.out]; simp)
      clear HBq HKq HY
      go_wp2_with fail
      go_ret
      exact ⟨ret_bool HZ.out, HB0.out _ HB2.out⟩
    | true =>
    have HKn : Hid (Wk (w.heap.size + 1) (2) P A c (w.heap.size + 1) w2) := Lib.hid (by first | exact HKq.out rfl | simpa using HKq.out rfl)
    have hin : 2 ≤ P.len := by
      have hb := HBq.out
      have := timesB_le hb.symm; simp only [List.length_drop, inf_len] at this; simp at this; omega
    have HYn := Lib.hid (by have h := HY.out; rw [← HBq.out, Bool.true_and] at h; exact h)
    clear HBd HK HY HBq HKq
    have HBd := HB2
    have HK := HKn
    have HY := HYn
    clear HB2 HKn HYn
    go_wp2_with fail
    refine (done_any HK.out).mono ?_
    rintro e w2 ⟨rfl, hbel⟩
    have HB2 := Lib.hid (HBd.out.trans hbel)
    have HYn : Hid (decide (2 = P.len) = y) := Lib.hid (by have h := HY.out; rw [inf_len] at h; exact h)
    clear hbel HY
    generalize decide (2 = P.len) = z at *
    go_wp2_with fail
    go_ret
    exact ⟨ret_bool HYn.out, HB0.out _ HB2.out⟩
  · go_enter Try.func59, Try.ntmps59
    go_wp2_with fail
    refine (KI.out _).mono ?_
    rintro e w1 ⟨rfl, hb1⟩
    have HK := Lib.hid ((HS.out _).later hb1)
    have bx := ((Box.new w 82 t 0 _ a P.len A c).later ((Below.refl _ _).alloc (Nat.le_refl _) (.cells #[.int .i64 0, .slice A P.len c] 56))).later hb1
    have HBd : Hid (Below (w.heap.size + 1) (w.alloc (.cells #[.int .i64 82, .string t, .int .i64 0, .int .i64 1, .int .i64 a, .slice A P.len c] 24)) w1) := Lib.hid (by
      have h2 : Below (w.heap.size + 1) (w.alloc (.cells #[.int .i64 82, .string t, .int .i64 0, .int .i64 1, .int .i64 a, .slice A P.len c] 24)) ((w.alloc (.cells #[.int .i64 82, .string t, .int .i64 0, .int .i64 1, .int .i64 a, .slice A P.len c] 24)).alloc (.cells #[.int .i64 0, .slice A P.len c] 56)) := (Below.refl _ _).alloc (by simp) _
      exact h2.trans (hb1.mono (by simp)))
    have HB0 := Lib.hid (fun w' (h : Below (w.heap.size + 1) (w.alloc (.cells #[.int .i64 82, .string t, .int .i64 0, .int .i64 1, .int .i64 a, .slice A P.len c] 24)) w') => ((Below.refl w.heap.size w).alloc (Nat.le_refl _) (.cells #[.int .i64 82, .string t, .int .i64 0, .int .i64 1, .int .i64 a, .slice A P.len c] 24)).trans (h.mono (by omega)))
    obtain ⟨-, -, c0, c1, c2, c3, c4, c5⟩ := bx
    clear hb1 HS KI
    have HY := Lib.hid hy
    clear hy
    go_wp2_with fail
    refine (times_Type P (allT P) 1 HK.out (Nat.zero_le _) hlc hcc).mono ?_
    rintro e w2 ⟨b, rfl, hb, hk, hbel⟩
    have HB2 := Lib.hid (HBd.out.trans hbel)
    try simp only [List.drop_zero] at hb
    have HBq := Lib.hid hb
    have HKq := Lib.hid hk
    clear hk hbel hb
    cases b with
    | false =>
      have HZ : Hid (false = y) := Lib.hid (by rw [← HY.out, ← HBq.out]; simp)
      clear HBq HKq HY
      go_wp2_with fail
      go_ret
      exact ⟨ret_bool HZ.out, HB0.out _ HB2.out⟩
    | true =>
    have HKn : Hid (Wk (w.heap.size + 1) (1) P A c (w.heap.size + 1) w2) := Lib.hid (by first | exact HKq.out rfl | simpa using HKq.out rfl)
    have hin : 1 ≤ P.len := by
      have hb := HBq.out
      have := timesB_le hb.symm; simp [inf_len] at this; omega
    have HYn := Lib.hid (by have h := HY.out; rw [← HBq.out, Bool.true_and] at h; exact h)
    clear HBd HK HY HBq HKq
    have HBd := HB2
    have HK := HKn
    have HY := HYn
    clear HB2 HKn HYn
    go_wp2_with fail
    refine (times_Expr P (allE P) 1 HK.out hin hlc hcc).mono ?_
    rintro e w2 ⟨b, rfl, hb, hk, hbel⟩
    have HB2 := Lib.hid (HBd.out.trans hbel)
    try simp only [List.drop_zero] at hb
    have HBq := Lib.hid hb
    have HKq := Lib.hid hk
    clear hk hbel hb
    cases b with
    | false =>
      have HZ : Hid (false = y) := Lib.hid (by rw [← HY.out, ← HBq.out]; simp)
      clear HBq HKq HY
      go_wp2_with fail
      go_ret
      exact ⟨ret_bool HZ.out, HB0.out _ HB2.out⟩
    | true =>
    have HKn : Hid (Wk (w.heap.size + 1) (2) P A c (w.heap.size + 1) w2) := Lib.hid (by first | exact HKq.out rfl | simpa using HKq.out rfl)
    have hin : 2 ≤ P.len := by
      have hb := HBq.out
      have := timesB_le hb.symm; simp only [List.length_drop, inf_len] at this; simp at this; omega
    have HYn := Lib.hid (by have h := HY.out; rw [← HBq.out, Bool.true_and] at h; exact h)
    clear HBd HK HY HBq HKq
    have HBd := HB2
    have HK := HKn
    have HY := HYn
    clear HB2 HKn HYn
    go_wp2_with fail
    refine (done_any HK.out).mono ?_
    rintro e w2 ⟨rfl, hbel⟩
    have HB2 := Lib.hid (HBd.out.trans hbel)
    have HYn : Hid (decide (2 = P.len) = y) := Lib.hid (by have h := HY.out; rw [inf_len] at h; exact h)
    clear hbel HY
    generalize decide (2 = P.len) = z at *
    go_wp2_with fail
    go_ret
    exact ⟨ret_bool HYn.out, HB0.out _ HB2.out⟩
end Go.Proofs.Ytogoolpgajopcaa
