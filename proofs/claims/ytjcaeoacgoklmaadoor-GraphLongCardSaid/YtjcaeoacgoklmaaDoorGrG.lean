import Derived.Test.YtjcaeoacgoklmaaDoorGrF
namespace Go.Proofs.YtjcaeoacgoklmaaDoor
variable {itoaB : Nat → ByteArray}
/-- No rule was last seen to hold later than now. -/
def LeS (s : St) : Prop := ∀ i, (s.nd i).sets ≤ s.sets
def LeP (ak : St → ByteArray → Out × St) : Prop := ∀ s a, LeS s → LeS (ak s a).2 ∧ (ak s a).2.sets = s.sets
theorem le_put {s : St} (h : LeS s) (i : Nat) (x : Nd) (hx : x.sets ≤ s.sets) : LeS (s.put i x) := by
  intro k
  by_cases e : k = i
  · subst e; rw [St.put_same]; exact hx
  · rw [St.put_other _ _ e]; exact h k
theorem le_all {ak : St → ByteArray → Out × St} (ha : LeP ak) : ∀ (l : List (ByteArray × Out)) (s : St), LeS s → LeS (askAll ak l s).2 ∧ (askAll ak l s).2.sets = s.sets
  | [], s, h => ⟨h, rfl⟩
  | x :: l, s, h => by
    obtain ⟨h1, h2⟩ := ha s x.1 h
    unfold askAll
    split
    · obtain ⟨h3, h4⟩ := le_all ha l _ h1
      exact ⟨h3, h4.trans h2⟩
    · exact ⟨h1, h2⟩
theorem le_come {ak : St → ByteArray → Out × St} (ha : LeP ak) (r : Rule) (i : Nat) : ∀ (f : Nat) (os : List Out) (s : St), LeS s → LeS (comeM itoaB ak r i f os s).2 ∧ (comeM itoaB ak r i f os s).2.sets = s.sets
  | 0, _, s, h => ⟨h, rfl⟩
  | f + 1, os, s, h => by
    unfold comeM
    split
    · exact ⟨h, rfl⟩
    · rename_i j _
      obtain ⟨h1, h2⟩ := ha s (r.refs.getD j noneB) h
      obtain ⟨h3, h4⟩ := le_come ha r i f (os ++ [(ak s (r.refs.getD j noneB)).1]) _ (le_put h1 i { (ak s (r.refs.getD j noneB)).2.nd i with asked := ((ak s (r.refs.getD j noneB)).2.nd i).asked ++ [(r.refs.getD j noneB, (ak s (r.refs.getD j noneB)).1)] } (h1 i))
      exact ⟨h3, h4.trans h2⟩
theorem le_askI {ak : St → ByteArray → Out × St} (ha : LeP ak) (r : Rule) (i : Nat) (s : St) (h : LeS s) : LeS (askI itoaB ak r i s).2 ∧ (askI itoaB ak r i s).2.sets = s.sets := by
  have h1 : LeS (s.put i { s.nd i with busy := true }) := le_put h i _ (h i)
  have hold : LeS (holdsM ak i (s.put i { s.nd i with busy := true })).2 ∧ (holdsM ak i (s.put i { s.nd i with busy := true })).2.sets = s.sets := by
    unfold holdsM
    split
    · exact ⟨h1, rfl⟩
    · split
      · exact ⟨h1, rfl⟩
      · obtain ⟨h2, h3⟩ := le_all ha ((s.put i { s.nd i with busy := true }).nd i).asked _ h1
        simp only
        split
        · exact ⟨le_put h2 i _ (Int.le_refl _), h3⟩
        · exact ⟨h2, h3⟩
  have work : ∀ s2, LeS s2 → s2.sets = s.sets → LeS (workM itoaB ak r i s2) ∧ (workM itoaB ak r i s2).sets = s.sets := by
    intro s2 h2 e2
    obtain ⟨h3, h4⟩ := le_come (itoaB := itoaB) ha r i (steps r) [] (s2.put i { s2.nd i with asked := [] }) (le_put h2 i _ (h2 i))
    unfold workM
    simp only
    split
    · exact ⟨le_put h3 i _ (h3 i), h4.trans e2⟩
    · exact ⟨le_put h3 i _ (Int.le_refl _), h4.trans e2⟩
  unfold askI
  simp only
  split
  · exact ⟨le_put hold.1 i _ (hold.1 i), hold.2⟩
  · obtain ⟨h2, h3⟩ := work _ hold.1 hold.2
    exact ⟨le_put h2 i _ (h2 i), h3⟩
theorem le_ask (E : Env) : ∀ f, LeP (askM itoaB E f)
  | 0, s, a, h => ⟨h, rfl⟩
  | f + 1, s, a, h => by
    unfold askM
    split
    · exact ⟨h, rfl⟩
    · split
      · exact ⟨h, rfl⟩
      · exact le_askI (le_ask E f) _ _ s h
def nd0 : Nd := ⟨0, false, false, 0, [], ⟨noneB, 0⟩⟩
def st0 : St := ⟨fun _ => nd0, 0, 0⟩
section
variable (itoaB)
/-- What is so of a graph that is asked nothing. -/
structure Good (E : Env) (s : St) : Prop where
  inv : InvS itoaB E s []
  le : LeS s
end
theorem good0 (E : Env) : Good itoaB E st0 :=
  ⟨⟨fun i => by simp [st0, nd0], fun i _ _ h => by simp [st0, nd0] at h, fun i _ _ h => by simp [Cur, st0, nd0] at h, fun i h => by cases h⟩, fun i => by simp [st0, nd0]⟩
theorem okk0 (E : Env) : Okk E [] := ⟨List.nodup_nil, fun b h => by cases h⟩
theorem good_ask {E : Env} (hE : Dist E) (hn : E.rules.length ≤ 1000000) {s : St} (h : Good itoaB E s) (h0 : 0 ≤ s.runs) (h1 : s.runs ≤ 100000000000) {f : Nat} (hf : E.rules.length < f) (a : ByteArray) :
    (askM itoaB E f s a).1 = Vw itoaB E a ∧ Good itoaB E (askM itoaB E f s a).2 ∧ s.runs ≤ (askM itoaB E f s a).2.runs ∧ (askM itoaB E f s a).2.runs ≤ s.runs + E.rules.length ∧ Done itoaB E (askM itoaB E f s a).2 [] a ∧ (Done itoaB E s [] a → (askM itoaB E f s a).2.runs = s.runs) := by
  have r := ask_ok (itoaB := itoaB) hE hn f s [] a h.inv ⟨h0, by omega⟩ trivial (fun _ _ => trivial) (okk0 E) (by simpa using hf)
  have := r.tr.runs1
  have := r.tr.runs2
  have := cntC_max (E := E) (s := (askM itoaB E f s a).2)
  exact ⟨r.out, ⟨r.inv, (le_ask E f s a h.le).1⟩, by omega, by omega, r.done, r.still⟩
/-- An input set. -/
def setE (E : Env) (n t : ByteArray) : Env := { E with inp := fun s => if s = n then some t else E.inp s }
def setS (s : St) : St := { s with sets := s.sets + 1 }
theorem no_cur {s : St} (h : LeS s) (i : Nat) : ¬ Cur (setS s) i := fun hc => by
  have h1 := h i
  have h2 : (s.nd i).sets = s.sets + 1 := hc.2
  omega
theorem good_set {E : Env} {s : St} (h : Good itoaB E s) (n t : ByteArray) : Good itoaB (setE E n t) (setS s) := by
  refine ⟨⟨h.inv.busy, h.inv.self, fun i _ _ hc => absurd hc (no_cur h.le i), fun i hi => by cases hi⟩, fun i => ?_⟩
  have := h.le i
  show (s.nd i).sets ≤ s.sets + 1
  omega
theorem hv_set {E : Env} {s : St} {i : Nat} (h : HV itoaB E s i) : HV itoaB E (setS s) i := by
  induction h with
  | mk hk hs hd he hv _ ih => exact HV.mk hk hs hd he hv ih
theorem done_set {E : Env} {s : St} {B : List Nat} {a : ByteArray} (h : Done itoaB E s B a) : Done itoaB E (setS s) B a := by
  induction h with
  | inp h => exact .inp h
  | busy h hb => exact .busy h hb
  | hv h hh => exact .hv h (hv_set hh)
  | cyc h h8 hk _ ih => exact .cyc h h8 hk ih
theorem setE_same {E : Env} {n t : ByteArray} (h : E.inp n = some t) : setE E n t = E := by
  obtain ⟨r, inp⟩ := E
  unfold setE
  simp only at h ⊢
  congr 1
  funext s
  split
  · rename_i e; rw [e, h]
  · rfl
end Go.Proofs.YtjcaeoacgoklmaaDoor
