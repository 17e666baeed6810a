import Derived.Test.YtogoolpgajopcaaTrR
namespace Go.Proofs.Ytogoolpgajopcaa
open Go.RowKit
/-- What kinds go with what is told of a node. -/
structure OkI (x : Inf) : Prop where
  ty : x.ty = true → x.kind ≠ 73 ∧ x.kind ≠ 16
  par : x.par = true → x.kind = 16
  fld : x.fld = true → x.kind = 8
  var : x.var = true → x.kind = 73
theorem takeWhile_take {α : Type} (p : α → Bool) : ∀ (l : List α), l.takeWhile p = l.take (l.takeWhile p).length
  | [] => rfl
  | x :: l => by
    rw [List.takeWhile_cons]
    split
    · simp only [List.length_cons, List.take_succ_cons]; rw [← takeWhile_take p l]
    · rfl
theorem runB_take (K : Int) (p : Inf → Bool) (l : List Inf) : runB K p l = (l.take (runN K l)).all p := by
  unfold runB runN; rw [← takeWhile_take]
theorem runN_len (K : Int) (l : List Inf) : runN K l ≤ l.length := by
  unfold runN
  have := congrArg List.length (List.takeWhile_append_dropWhile (p := fun x : Inf => x.kind == K) (l := l))
  rw [List.length_append] at this; omega
theorem run_nil (K : Int) : runN K [] = 0 := rfl
theorem run_at (K : Int) : ∀ (n : Nat) (l : List Inf), n ≤ l.length → (∀ x ∈ l.take n, x.kind = K) → (∀ x ∈ (l.drop n).take 1, x.kind ≠ K) → runN K l = n
  | 0, [], _, _, _ => rfl
  | 0, x :: l, _, _, h => by
    have := h x (by simp)
    unfold runN; rw [List.takeWhile_cons, if_neg (by simpa using this)]; rfl
  | n + 1, [], h, _, _ => by simp at h
  | n + 1, x :: l, h, h1, h2 => by
    have hx := h1 x (by simp)
    have ih := run_at K n l (by simpa using h) (fun y hy => h1 y (by rw [List.take_succ_cons]; exact List.mem_cons_of_mem _ hy)) (fun y hy => h2 y (by simpa using hy))
    unfold runN at *
    rw [List.takeWhile_cons, if_pos (by simpa using hx), List.length_cons, ih]
theorem run_next (K : Int) : ∀ (l : List Inf), ∀ x ∈ (l.drop (runN K l)).take 1, x.kind ≠ K
  | [], x, h => by simp [runN] at h
  | y :: l, x, h => by
    by_cases hy : y.kind = K
    · have e : runN K (y :: l) = runN K l + 1 := by unfold runN; rw [List.takeWhile_cons, if_pos (by simpa using hy)]; rfl
      rw [e, List.drop_succ_cons] at h
      exact run_next K l x h
    · have e : runN K (y :: l) = 0 := by unfold runN; rw [List.takeWhile_cons, if_neg (by simpa using hy)]; rfl
      rw [e] at h
      obtain rfl : x = y := by simpa using h
      exact hy
theorem run_zero (K : Int) (l : List Inf) (h : ∀ x ∈ l.take 1, x.kind ≠ K) : runN K l = 0 := run_at K 0 l (Nat.zero_le _) (by simp) (by simpa using h)
theorem run_all (K : Int) (l : List Inf) (h : ∀ x ∈ l, x.kind = K) : runN K l = l.length := run_at K l.length l (Nat.le_refl _) (by simpa using h) (by simp)
theorem timesB_iff {p : Inf → Bool} {l : List Inf} {q : Int} : timesB p l q = true ↔ (0 ≤ q ∧ q ≤ (l.length : Int)) ∧ (l.take q.toNat).all p = true := by
  unfold timesB; rw [Bool.and_eq_true, decide_eq_true_iff]
theorem varsB_iff {l : List Inf} {q : Int} : varsB l q = true ↔ (0 ≤ q ∧ (runN 73 l : Int) = q) ∧ (l.take q.toNat).all (·.var) = true := by
  unfold varsB; rw [Bool.and_eq_true, decide_eq_true_iff]
theorem vars_times {l : List Inf} {q : Int} (h : varsB l q = true) : timesB (·.var) l q = true := by
  rw [varsB_iff] at h
  have := runN_len 73 l
  exact timesB_iff.2 ⟨⟨h.1.1, by omega⟩, h.2⟩
theorem times_vars {l : List Inf} (hok : ∀ x ∈ l, OkI x) {q : Int} (h : timesB (·.var) l q = true) (hn : ∀ x ∈ (l.drop q.toNat).take 1, x.kind ≠ 73) : varsB l q = true := by
  rw [timesB_iff] at h
  refine varsB_iff.2 ⟨⟨h.1.1, ?_⟩, h.2⟩
  rw [run_at 73 q.toNat l (by omega) (fun x hx => (hok x (List.mem_of_mem_take hx)).var (List.all_eq_true.1 h.2 x hx)) hn]
  omega
theorem bool_iff {a b : Bool} (h : a = true ↔ b = true) : a = b := by cases a <;> cases b <;> simp_all
theorem mem_drop_take {l : List Inf} {n m : Nat} {x : Inf} (h : x ∈ (l.drop n).take m) : x ∈ l := List.mem_of_mem_drop (List.mem_of_mem_take h)
theorem type_same (l : List Inf) (hok : ∀ x ∈ l, OkI x) (n : Int) : typeR n l = typeD n l := by
  apply bool_iff
  unfold typeR typeD
  simp only [Bool.and_eq_true, decide_eq_true_iff]
  constructor
  · rintro ⟨hv, hl, ht⟩
    have h := varsB_iff.1 hv
    have e : n.toNat = runN 73 l := by omega
    refine ⟨vars_times hv, timesB_iff.2 ⟨⟨by omega, by rw [List.length_drop]; omega⟩, ?_⟩, by omega⟩
    rw [e]; exact ht
  · rintro ⟨hv, ht, hl⟩
    have h2 := timesB_iff.1 ht
    have h3 : varsB l n = true := times_vars hok hv fun x hx => ((hok x (mem_drop_take hx)).ty (List.all_eq_true.1 h2.2 x (by simpa using hx))).1
    have h := varsB_iff.1 h3
    have e : n.toNat = runN 73 l := by omega
    exact ⟨h3, by omega, by rw [← e]; exact h2.2⟩
theorem fld_run (l : List Inf) (hok : ∀ x ∈ l, OkI x) : l.all (·.fld) = (runB 8 (·.fld) l && decide (runN 8 l = l.length)) := by
  apply bool_iff
  simp only [Bool.and_eq_true, decide_eq_true_iff]
  constructor
  · intro h
    have e := run_all 8 l fun x hx => (hok x hx).fld (List.all_eq_true.1 h x hx)
    refine ⟨?_, e⟩
    rw [runB_take, e, List.take_length]; exact h
  · rintro ⟨h, e⟩
    rw [runB_take, e, List.take_length] at h; exact h
theorem inter_same (l : List Inf) (hok : ∀ x ∈ l, OkI x) (n : Int) : interR n l = interD n l := by
  apply bool_iff
  unfold interR interD
  rw [fld_run _ fun x hx => hok x (List.mem_of_mem_drop hx), ← runB_take]
  simp only [Bool.and_eq_true, decide_eq_true_iff]
  constructor
  · rintro ⟨hv, h1, h2, h3⟩
    have h := varsB_iff.1 hv
    have := runN_len 73 l
    have := runN_len 75 (l.drop n.toNat)
    simp only [List.length_drop] at *
    exact ⟨vars_times hv, h1, h2, by omega⟩
  · rintro ⟨hv, h1, h2, h3⟩
    have h := timesB_iff.1 hv
    have := runN_len 75 (l.drop n.toNat)
    simp only [List.length_drop] at *
    refine ⟨times_vars hok hv fun x hx hk => ?_, h1, h2, by omega⟩
    have e : runN 75 (l.drop n.toNat) = 0 := run_zero 75 _ fun y hy => by
      cases hd : l.drop n.toNat with
      | nil => rw [hd] at hy; simp at hy
      | cons a b => rw [hd] at hy hx; simp at hx hy; subst hx hy; omega
    rw [e] at h3
    have e2 : runN 8 (l.drop (n.toNat + 0)) = 0 := run_zero 8 _ fun y hy => by
      rw [Nat.add_zero] at hy
      cases hd : l.drop n.toNat with
      | nil => rw [hd] at hy; simp at hy
      | cons a b => rw [hd] at hy hx; simp at hx hy; subst hx hy; omega
    rw [e2] at h3
    have : l.drop n.toNat = [] := List.drop_eq_nil_of_le (by omega)
    rw [this] at hx; simp at hx
theorem head_ne {l : List Inf} {n : Nat} {x : Inf} {K K' : Int} (hx : x ∈ (l.drop n).take 1) (hk : x.kind = K) (hne : K ≠ K') : runN K' (l.drop n) = 0 := run_zero K' _ fun y hy => by
  cases hd : l.drop n with
  | nil => rw [hd] at hy; simp at hy
  | cons a b => rw [hd] at hy hx; simp at hx hy; subst hx hy; omega
theorem times_one {p : Inf → Bool} {l : List Inf} (h : 1 ≤ l.length) : timesB p l 1 = (l.take 1).all p := by
  unfold timesB
  rw [decide_eq_true ⟨by omega, by omega⟩]; rfl
theorem hd_one {l : List Inf} (h : hd75 l = true) : 1 ≤ l.length := by
  cases l with
  | nil => cases h
  | cons => simp
theorem class_same (l : List Inf) (hok : ∀ x ∈ l, OkI x) (n : Int) : classR n l = classD n l := by
  apply bool_iff
  unfold classR classD
  simp only [Bool.and_eq_true, decide_eq_true_iff]
  by_cases hd : hd75 (l.drop n.toNat) = true
  · rw [if_pos hd, if_pos hd, times_one (hd_one hd)]
    constructor
    · rintro ⟨h1, _, h2⟩; exact ⟨h1, h2⟩
    · rintro ⟨h1, h2⟩
      have h := timesB_iff.1 h1
      refine ⟨h1, ?_, h2⟩
      rw [run_at 16 n.toNat l (by omega) (fun x hx => (hok x (List.mem_of_mem_take hx)).par (List.all_eq_true.1 h.2 x hx)) (fun x hx => ?_)]
      · omega
      · unfold hd75 at hd
        cases he : l.drop n.toNat with
        | nil => rw [he] at hx; simp at hx
        | cons a b => rw [he] at hx hd; simp at hx hd; subst hx; omega
  · rw [if_neg hd, if_neg hd]
    constructor
    · rintro ⟨h1, _, h2⟩; exact ⟨h1, h2⟩
    · rintro ⟨h1, h2⟩
      have h := timesB_iff.1 h1
      refine ⟨h1, ?_, h2⟩
      rw [run_at 16 n.toNat l (by omega) (fun x hx => (hok x (List.mem_of_mem_take hx)).par (List.all_eq_true.1 h.2 x hx)) (fun x hx hk => ?_)]
      · omega
      · have e1 := head_ne hx hk (K' := 77) (by decide)
        have e2 := head_ne hx hk (K' := 78) (by decide)
        have e3 := head_ne hx hk (K' := 79) (by decide)
        unfold classT at h2
        simp only [e1, e2, e3, Nat.add_zero, Bool.and_eq_true, decide_eq_true_iff] at h2
        have : l.drop n.toNat = [] := List.drop_eq_nil_of_le (by omega)
        rw [this] at hx; simp at hx
theorem func_vars (l : List Inf) : varsB l (runN 73 l : Nat) = runB 73 (·.var) l := by
  unfold varsB
  rw [runB_take, decide_eq_true ⟨by omega, rfl⟩]; rfl
theorem take_drop_all {p : Inf → Bool} (l : List Inf) (h : 1 ≤ l.length) : ((l.drop (l.length - 1)).take 1).all p = (l.drop (l.length - 1)).all p := by
  rw [List.take_of_length_le (by rw [List.length_drop]; omega)]
theorem over_same (l : List Inf) (n : Int) : overR n l = routB n (l.drop (runN 73 l)) false := by
  apply bool_iff
  have hr := runN_len 73 l
  unfold overR routB
  simp only [Bool.and_eq_true, decide_eq_true_iff, timesB_iff, List.length_drop, List.drop_drop]
  simp only [Bool.false_eq_true, if_false, Bool.not_false, Bool.true_or, and_true]
  constructor
  · rintro ⟨⟨h1, h2⟩, h3, h4⟩
    have e : n.toNat = l.length - runN 73 l - 1 := by omega
    refine ⟨by omega, by omega, by rw [← e]; exact h2, ?_⟩
    rw [show runN 73 l + (l.length - runN 73 l - 1) = l.length - 1 by omega, take_drop_all _ (by omega)]
    exact h4
  · rintro ⟨h1, h2, h3, h4⟩
    have e : n.toNat = l.length - runN 73 l - 1 := by omega
    refine ⟨⟨by omega, by rw [e]; exact h3⟩, by omega, ?_⟩
    rw [show runN 73 l + (l.length - runN 73 l - 1) = l.length - 1 by omega, take_drop_all _ (by omega)] at h4
    exact h4
theorem const_same (l : List Inf) (n : Int) : constR n l = constD n l := by
  apply bool_iff
  unfold constR constD
  simp only [Bool.and_eq_true, decide_eq_true_iff, timesB_iff, List.length_drop]
  constructor
  · rintro ⟨h1, h2, h3, h4⟩
    refine ⟨h1, ⟨by omega, h3⟩, ⟨by omega, ?_⟩, by omega⟩
    rw [List.take_of_length_le (by rw [List.length_drop]; simp; omega)]; exact h4
  · rintro ⟨h1, ⟨h2, h3⟩, ⟨h4, h5⟩, h6⟩
    refine ⟨h1, by omega, h3, ?_⟩
    rw [List.take_of_length_le (by rw [List.length_drop]; simp; omega)] at h5; exact h5
theorem ok_mk (k : Int) (t : ByteArray) (n m : Int) (l : List Inf) : OkI (mk k t n m l) := by
  refine ⟨fun h => ⟨?_, ?_⟩, fun h => ?_, fun h => ?_, fun h => ?_⟩
  · rintro hk
    have hk : k = 73 := hk
    subst hk
    simp [mk, typeB] at h
  · rintro hk
    have hk : k = 16 := hk
    subst hk
    simp [mk, typeB] at h
  · simp only [mk, parB, Bool.and_eq_true, beq_iff_eq] at h; exact h.1
  · simp only [mk, fldB, Bool.and_eq_true, beq_iff_eq] at h; exact h.1
  · simp only [mk, varB, Bool.and_eq_true, beq_iff_eq] at h; exact h.1
theorem ok_inf : ∀ F : Fo, ∀ x ∈ F.inf, OkI x := by
  intro F
  induction F with
  | nil => intro x h; cases h
  | cons k t n m a P R _ ihR =>
    intro x h
    rcases List.mem_cons.1 h with rfl | h
    · exact ok_mk _ _ _ _ _
    · exact ihR x h
end Go.Proofs.Ytogoolpgajopcaa
