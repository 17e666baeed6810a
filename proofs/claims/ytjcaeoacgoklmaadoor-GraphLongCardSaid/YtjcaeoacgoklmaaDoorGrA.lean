import Derived.Lib.Hide
namespace Go.Proofs.YtjcaeoacgoklmaaDoor
theorem rev_ind {α : Type} {C : List α → Prop} (h0 : C []) (h1 : ∀ l a, C l → C (l ++ [a])) (l : List α) : C l := by
  have key : ∀ l : List α, C l.reverse := by
    intro l
    induction l with
    | nil => exact h0
    | cons a l ih => rw [List.reverse_cons]; exact h1 _ a ih
  have := key l.reverse
  rwa [List.reverse_reverse] at this
/-- What a name comes to. -/
structure Out where
  t : ByteArray
  e : Int
structure Rule where
  name : ByteArray
  kind : Int
  refs : List ByteArray
  text : ByteArray
def noneB : ByteArray := ⟨#[]⟩
def cyc : Out := ⟨noneB, 8⟩
def okR (r : Rule) : Prop := r.kind = 1 ∨ r.kind = 2 ∧ 3 ≤ r.refs.length ∨ r.kind = 3 ∧ 1 ≤ r.refs.length ∨ r.kind = 4 ∧ 2 ≤ r.refs.length
/-- What a rule does next, with what it was told so far: it asks for a Ref, or it is done. -/
inductive Nx where
  | ask (j : Nat)
  | done (o : Out)
def sumL (os : List Out) : Nat := (os.map fun o => o.t.size).sum
def catL (os : List Out) : List UInt8 := (os.map fun o => o.t.data.toList).flatten
variable (itoaB : Nat → ByteArray)
def nxtOk (r : Rule) (os : List Out) : Nx :=
  if r.kind = 1 then (if os.length < r.refs.length then .ask os.length else .done (if r.text.size + sumL os > 262144 then ⟨noneB, 1⟩ else ⟨⟨(catL os ++ r.text.data.toList).toArray⟩, 0⟩))
  else match os with
    | [] => .ask 0
    | [a] => if r.kind = 2 then .ask (if a.t.size ≠ 0 then 1 else 2) else if r.kind = 3 then .done ⟨itoaB a.t.size, 0⟩ else .ask 1
    | a :: b :: _ => if r.kind = 2 then .done b else if a.t = b.t then .done ⟨r.text, 0⟩ else .done ⟨noneB, 0⟩
def nxt (r : Rule) (os : List Out) : Nx :=
  match os.getLast? with
  | some o => if o.e ≠ 0 then .done o else nxtOk itoaB r os
  | none => nxtOk itoaB r os
theorem nxt_snoc (r : Rule) (os : List Out) (o : Out) : nxt itoaB r (os ++ [o]) = if o.e ≠ 0 then .done o else nxtOk itoaB r (os ++ [o]) := by
  unfold nxt
  rw [List.getLast?_append]
  simp
theorem nxt_nil (r : Rule) : nxt itoaB r [] = nxtOk itoaB r [] := rfl
def steps (r : Rule) : Nat := r.refs.length + 3
theorem nxt_lt {r : Rule} {os : List Out} {j : Nat} (h : nxt itoaB r os = .ask j) : os.length + 1 < steps r := by
  have key : nxtOk itoaB r os = .ask j := by
    unfold nxt at h
    split at h
    · split at h
      · cases h
      · exact h
    · exact h
  unfold nxtOk at key
  unfold steps
  split at key
  · split at key
    · omega
    · cases key
  · split at key
    · simp
    · simp
    · split at key
      · cases key
      · split at key <;> cases key
theorem nxt_ref {r : Rule} (hr : okR r) {os : List Out} {j : Nat} (h : nxt itoaB r os = .ask j) : j < r.refs.length := by
  have key : nxtOk itoaB r os = .ask j := by
    unfold nxt at h
    split at h
    · split at h
      · cases h
      · exact h
    · exact h
  unfold nxtOk at key
  unfold okR at hr
  split at key
  · split at key
    · injection key with e; omega
    · cases key
  · rename_i hk
    split at key
    · injection key with e
      omega
    · split at key
      · injection key with e
        split at e <;> omega
      · split at key
        · cases key
        · injection key with e; omega
    · split at key
      · cases key
      · split at key <;> cases key
/-- What a rule is told by V, on its way. -/
inductive Path (V : ByteArray → Out) (r : Rule) : List Out → Prop
  | nil : Path V r []
  | snoc {os : List Out} {j : Nat} (h : Path V r os) (hn : nxt itoaB r os = .ask j) : Path V r (os ++ [V (r.refs.getD j noneB)])
variable {itoaB}
theorem Path.inv {V : ByteArray → Out} {r : Rule} {os : List Out} {o : Out} (h : Path itoaB V r (os ++ [o])) : Path itoaB V r os ∧ ∃ j, nxt itoaB r os = .ask j ∧ o = V (r.refs.getD j noneB) := by
  generalize hx : os ++ [o] = x at h
  cases h with
  | nil => simp at hx
  | snoc h hn =>
    obtain ⟨rfl, e⟩ := List.append_inj' hx rfl
    simp only [List.cons.injEq, and_true] at e
    exact ⟨h, _, hn, e⟩
/-- All but the last one that was told are no errors. -/
theorem Path.good {V : ByteArray → Out} {r : Rule} : ∀ {os : List Out}, Path itoaB V r os → ∀ {x : Out}, x ∈ os.dropLast → x.e = 0 := by
  intro os h
  induction h with
  | nil => intro x hx; simp at hx
  | @snoc os j h hn ih =>
    intro x hx
    rw [List.dropLast_concat] at hx
    rcases List.eq_nil_or_concat os with rfl | ⟨os', o, rfl⟩
    · simp at hx
    · rw [List.concat_eq_append] at hx hn ih
      rcases List.mem_append.1 hx with hx | hx
      · exact ih (by rw [List.dropLast_concat]; exact hx)
      · simp only [List.mem_cons, List.not_mem_nil, or_false] at hx
        subst hx
        rw [nxt_snoc] at hn
        split at hn
        · cases hn
        · rename_i h1; exact Classical.byContradiction h1
theorem Path.ext {V V' : ByteArray → Out} {r : Rule} {os : List Out} (h : Path itoaB V r os) (hv : ∀ j, ∀ os' o rest, os = os' ++ o :: rest → nxt itoaB r os' = .ask j → V' (r.refs.getD j noneB) = V (r.refs.getD j noneB)) : Path itoaB V' r os := by
  induction h with
  | nil => exact .nil
  | @snoc os j h hn ih =>
    rw [← hv j os _ [] rfl hn]
    exact .snoc (ih fun j2 os' o rest e hn2 => hv j2 os' o (rest ++ [V (r.refs.getD j noneB)]) (by rw [e]; simp) hn2) hn
theorem Path.len {V : ByteArray → Out} {r : Rule} {os : List Out} (h : Path itoaB V r os) : os.length < steps r := by
  cases h with
  | nil => simp [steps]
  | snoc h hn => have := nxt_lt itoaB hn; simpa using this
/-- There is a whole way. -/
theorem Path.whole (V : ByteArray → Out) (r : Rule) : ∀ (n : Nat) (os : List Out), Path itoaB V r os → steps r ≤ os.length + n → ∃ os' o, Path itoaB V r os' ∧ nxt itoaB r os' = .done o ∧ ∃ x, os' = os ++ x
  | 0, os, h, hn => by have := h.len; omega
  | n + 1, os, h, hn => by
    cases hx : nxt itoaB r os with
    | done o => exact ⟨os, o, h, hx, [], by simp⟩
    | ask j =>
      obtain ⟨os', o, h1, h2, x, h3⟩ := Path.whole V r n _ (h.snoc hx) (by simp; omega)
      exact ⟨os', o, h1, h2, _, by rw [h3, List.append_assoc]⟩
theorem Path.prefix {V : ByteArray → Out} {r : Rule} {os os' : List Out} {o : Out} (h : Path itoaB V r os) (h' : Path itoaB V r os') (hd : nxt itoaB r os' = .done o) : ∃ x, os' = os ++ x := by
  induction h with
  | nil => exact ⟨os', rfl⟩
  | @snoc os j h hn ih =>
    obtain ⟨x, rfl⟩ := ih
    cases x with
    | nil => rw [List.append_nil] at hd; rw [hd] at hn; cases hn
    | cons y x =>
      refine ⟨x, ?_⟩
      have key : ∀ (z : List Out), Path itoaB V r (os ++ y :: z) → y = V (r.refs.getD j noneB) := by
        intro z
        induction z using rev_ind with
        | h0 => intro hp; obtain ⟨_, j', h1, h2⟩ := hp.inv; rw [hn] at h1; injection h1 with h1; rw [h1]; exact h2
        | h1 z a ihz =>
          intro hp
          have : os ++ y :: (z ++ [a]) = (os ++ y :: z) ++ [a] := by simp
          rw [this] at hp
          exact ihz hp.inv.1
      rw [key x h']
      simp
theorem Path.same {V : ByteArray → Out} {r : Rule} {os os' : List Out} {o o' : Out} (h : Path itoaB V r os) (h1 : nxt itoaB r os = .done o) (h' : Path itoaB V r os') (h2 : nxt itoaB r os' = .done o') : os = os' ∧ o = o' := by
  obtain ⟨x, e1⟩ := h.prefix h' h2
  obtain ⟨y, e2⟩ := h'.prefix h h1
  have : x = [] := by
    have := congrArg List.length e1
    have := congrArg List.length e2
    simp at *
    exact List.eq_nil_of_length_eq_zero (by omega)
  subst this
  rw [List.append_nil] at e1
  subst e1
  rw [h1] at h2
  injection h2 with h2
  exact ⟨rfl, h2⟩
end Go.Proofs.YtjcaeoacgoklmaaDoor
