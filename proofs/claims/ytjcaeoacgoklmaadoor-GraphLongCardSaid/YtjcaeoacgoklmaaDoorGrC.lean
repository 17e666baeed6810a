import Derived.Test.YtjcaeoacgoklmaaDoorGrB
import Derived.IntWalk
namespace Go.Proofs.YtjcaeoacgoklmaaDoor
def w64 (n : Int) : Int := IntKind.i64.wrap n
theorem w64_in {n : Int} (h : 0 ≤ n) (h' : n ≤ 9000000000000000000) : w64 n = n := by
  unfold w64
  simp [IntKind.wrap, IntKind.bits, IntKind.signed]
  omega
variable (itoaB : Nat → ByteArray)
/-- What is kept of a rule. -/
structure Nd where
  ran : Int
  busy : Bool
  kept : Bool
  sets : Int
  asked : List (ByteArray × Out)
  came : Out
structure St where
  nd : Nat → Nd
  sets : Int
  runs : Int
def St.put (s : St) (i : Nat) (x : Nd) : St := { s with nd := fun k => if k = i then x else s.nd k }
theorem St.put_same (s : St) (i : Nat) (x : Nd) : (s.put i x).nd i = x := by simp [St.put]
theorem St.put_other (s : St) {i k : Nat} (x : Nd) (h : k ≠ i) : (s.put i x).nd k = s.nd k := by simp [St.put, h]
def outEq (a b : Out) : Bool := decide (a.t = b.t) && decide (a.e = b.e)
theorem outEq_iff {a b : Out} : outEq a b = true ↔ a = b := by
  obtain ⟨t, e⟩ := a
  obtain ⟨t', e'⟩ := b
  simp [outEq]
def askAll (ak : St → ByteArray → Out × St) : List (ByteArray × Out) → St → Bool × St
  | [], s => (true, s)
  | x :: l, s => if outEq (ak s x.1).1 x.2 then askAll ak l (ak s x.1).2 else (false, (ak s x.1).2)
def holdsM (ak : St → ByteArray → Out × St) (i : Nat) (s : St) : Bool × St :=
  if (s.nd i).kept = false then (false, s)
  else if (s.nd i).sets = s.sets then (true, s)
  else
    let r := askAll ak (s.nd i).asked s
    if r.1 then (true, r.2.put i { r.2.nd i with sets := r.2.sets }) else (false, r.2)
def comeM (ak : St → ByteArray → Out × St) (r : Rule) (i : Nat) : Nat → List Out → St → Out × St
  | 0, _, s => (cyc, s)
  | f + 1, os, s => match nxt itoaB r os with
    | .done o => (o, s)
    | .ask j =>
      let q := ak s (r.refs.getD j noneB)
      comeM ak r i f (os ++ [q.1]) (q.2.put i { q.2.nd i with asked := (q.2.nd i).asked ++ [(r.refs.getD j noneB, q.1)] })
def workM (ak : St → ByteArray → Out × St) (r : Rule) (i : Nat) (s : St) : St :=
  let q := comeM itoaB ak r i (steps r) [] (s.put i { s.nd i with asked := [] })
  if q.1.e = 8 then q.2.put i { q.2.nd i with came := q.1, kept := false, asked := [] }
  else { q.2.put i { q.2.nd i with came := q.1, kept := true, sets := q.2.sets, ran := w64 ((q.2.nd i).ran + 1) } with runs := w64 (q.2.runs + 1) }
def askI (ak : St → ByteArray → Out × St) (r : Rule) (i : Nat) (s : St) : Out × St :=
  let h := holdsM ak i (s.put i { s.nd i with busy := true })
  let s3 := if h.1 then h.2 else workM itoaB ak r i h.2
  ((s3.nd i).came, s3.put i { s3.nd i with busy := false })
def askM (E : Env) : Nat → St → ByteArray → Out × St
  | 0, s, _ => (cyc, s)
  | f + 1, s, a => match findR E a with
    | none => (inOut E a, s)
    | some i => if (s.nd i).busy then (cyc, s) else askI itoaB (askM E f) (ruleN E i) i s
theorem askM_none {E : Env} {a : ByteArray} (h : findR E a = none) (f : Nat) (s : St) : askM itoaB E (f + 1) s a = (inOut E a, s) := by simp [askM, h]
theorem askM_busy {E : Env} {a : ByteArray} {i : Nat} (h : findR E a = some i) {s : St} (hb : (s.nd i).busy = true) (f : Nat) : askM itoaB E (f + 1) s a = (cyc, s) := by simp [askM, h, hb]
theorem askM_free {E : Env} {a : ByteArray} {i : Nat} (h : findR E a = some i) {s : St} (hb : (s.nd i).busy = false) (f : Nat) : askM itoaB E (f + 1) s a = askI itoaB (askM itoaB E f) (ruleN E i) i s := by simp [askM, h, hb]
/-- What was asked is what the rule asks, being told what it was told. -/
inductive SCP (r : Rule) : List (ByteArray × Out) → Prop
  | nil : SCP r []
  | snoc {l : List (ByteArray × Out)} {j : Nat} (h : SCP r l) (hn : nxt itoaB r (l.map (·.2)) = .ask j) (o : Out) : SCP r (l ++ [(r.refs.getD j noneB, o)])
variable {itoaB}
theorem SCP.inv {r : Rule} {l : List (ByteArray × Out)} {x : ByteArray × Out} (h : SCP itoaB r (l ++ [x])) : SCP itoaB r l ∧ ∃ j, nxt itoaB r (l.map (·.2)) = .ask j ∧ x.1 = r.refs.getD j noneB := by
  generalize hx : l ++ [x] = y at h
  cases h with
  | nil => simp at hx
  | snoc h hn o =>
    obtain ⟨rfl, e⟩ := List.append_inj' hx rfl
    simp only [List.cons.injEq, and_true] at e
    exact ⟨h, _, hn, by rw [e]⟩
theorem SCP.pre {r : Rule} {l l' : List (ByteArray × Out)} (h : SCP itoaB r (l ++ l')) : SCP itoaB r l := by
  induction l' using rev_ind with
  | h0 => rwa [List.append_nil] at h
  | h1 z a ih => rw [← List.append_assoc] at h; exact ih h.inv.1
theorem SCP.at {r : Rule} {l l' : List (ByteArray × Out)} {x : ByteArray × Out} (h : SCP itoaB r (l ++ x :: l')) : ∃ j, nxt itoaB r (l.map (·.2)) = .ask j ∧ x.1 = r.refs.getD j noneB := by
  have : l ++ x :: l' = (l ++ [x]) ++ l' := by simp
  rw [this] at h
  exact h.pre.inv.2
/-- All were told what V tells. -/
def Vcons (V : ByteArray → Out) (l : List (ByteArray × Out)) : Prop := ∀ x ∈ l, x.2 = V x.1
theorem SCP.path {V : ByteArray → Out} {r : Rule} {l : List (ByteArray × Out)} (h : SCP itoaB r l) (hv : Vcons V l) : Path itoaB V r (l.map (·.2)) := by
  induction h with
  | nil => exact .nil
  | @snoc l j h hn o ih =>
    rw [List.map_append]
    have : o = V (r.refs.getD j noneB) := hv (r.refs.getD j noneB, o) (List.mem_append_right _ (List.mem_singleton.2 rfl))
    subst this
    exact (ih fun x hx => hv x (List.mem_append_left _ hx)).snoc hn
/-- The path of V, with names. -/
theorem SCP.same {V : ByteArray → Out} {r : Rule} : ∀ {l l' : List (ByteArray × Out)}, SCP itoaB r l → Vcons V l → SCP itoaB r l' → Vcons V l' → l.length = l'.length → l = l' := by
  intro l
  induction l using rev_ind with
  | h0 => intro l' _ _ _ _ h; exact (List.eq_nil_of_length_eq_zero (by simpa using h.symm)).symm
  | h1 l a ih =>
    intro l' h hv h' hv' hl
    rcases List.eq_nil_or_concat l' with rfl | ⟨l'', b, rfl⟩
    · simp at hl
    rw [List.concat_eq_append] at *
    obtain ⟨h1, j, hj, ha⟩ := h.inv
    obtain ⟨h2, j', hj', hb⟩ := h'.inv
    have e := ih h1 (fun x hx => hv x (List.mem_append_left _ hx)) h2 (fun x hx => hv' x (List.mem_append_left _ hx)) (by simpa using hl)
    subst e
    rw [hj] at hj'
    injection hj' with hj'
    subst hj'
    have e1 := hv a (List.mem_append_right _ (List.mem_singleton.2 rfl))
    have e2 := hv' b (List.mem_append_right _ (List.mem_singleton.2 rfl))
    have : a = b := Prod.ext (by rw [ha, hb]) (by rw [e1, e2, ha, hb])
    rw [this]
section
variable (itoaB)
/-- A rule whose answer is kept, and still holds, with all that it asked. -/
inductive HV (E : Env) (s : St) : Nat → Prop
  | mk {i : Nat} (hk : (s.nd i).kept = true) (hs : SCP itoaB (ruleN E i) (s.nd i).asked) (hd : nxt itoaB (ruleN E i) ((s.nd i).asked.map (·.2)) = .done (s.nd i).came) (he : (s.nd i).came.e ≠ 8) (hv : Vcons (Vw itoaB E) (s.nd i).asked)
      (ha : ∀ x ∈ (s.nd i).asked, ∀ j, findR E x.1 = some j → HV E s j) : HV E s i
def Cur (s : St) (i : Nat) : Prop := (s.nd i).kept = true ∧ (s.nd i).sets = s.sets
/-- What is so between two steps; the rules of B are under way. -/
structure InvS (E : Env) (s : St) (B : List Nat) : Prop where
  busy : ∀ i, (s.nd i).busy = true ↔ i ∈ B
  self : ∀ i, i < E.rules.length → i ∉ B → (s.nd i).kept = true → SCP itoaB (ruleN E i) (s.nd i).asked ∧ nxt itoaB (ruleN E i) ((s.nd i).asked.map (·.2)) = .done (s.nd i).came ∧ (s.nd i).came.e ≠ 8
  cur : ∀ i, i < E.rules.length → i ∉ B → Cur s i → Vcons (Vw itoaB E) (s.nd i).asked ∧ ∀ x ∈ (s.nd i).asked, ∀ j, findR E x.1 = some j → Cur s j
  nb : ∀ i, i ∈ B → ¬ Cur s i
def Dem (E : Env) (b c : Nat) : Prop := ∃ l j, SCP itoaB (ruleN E b) l ∧ Vcons (Vw itoaB E) l ∧ nxt itoaB (ruleN E b) (l.map (·.2)) = .ask j ∧ findR E ((ruleN E b).refs.getD j noneB) = some c
def Top (E : Env) : List Nat → Nat → Prop
  | [], _ => True
  | b :: _, i => Dem itoaB E b i
def Chain (E : Env) : List Nat → Prop
  | [] => True
  | b :: B => Top itoaB E B b ∧ Chain E B
end
end Go.Proofs.YtjcaeoacgoklmaaDoor
