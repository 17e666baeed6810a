import Derived.Test.YtjcaeoacgoklmaaDoorGrG
namespace Go.Proofs.YtjcaeoacgoklmaaDoor
variable {itoaB : Nat → ByteArray}
structure RuleOk (r : Rule) : Prop where
  ok : okR r
  refs : r.refs.length ≤ 100000
  text : r.text.size ≤ 262144
  name : r.name.size ≤ 1000000000000000
  ref : ∀ a ∈ r.refs, a.size ≤ 1000000000000000
structure EnvOk (E : Env) : Prop where
  len : E.rules.length ≤ 200
  rule : ∀ r ∈ E.rules, RuleOk r
  inp : ∀ s t, E.inp s = some t → t.size ≤ 262144
theorem ruleN_ok {E : Env} (h : EnvOk E) (i : Nat) (hi : i < E.rules.length) : RuleOk (ruleN E i) := by
  unfold ruleN
  rw [List.getD_eq_getElem?_getD, List.getElem?_eq_getElem hi]
  exact h.rule _ (List.getElem_mem hi)
structure NdOk (x : Nd) : Prop where
  came : x.came.t.size ≤ 262144
  out : ∀ y ∈ x.asked, y.2.t.size ≤ 262144
  name : ∀ y ∈ x.asked, y.1.size ≤ 1000000000000000
  len : x.asked.length ≤ 200000
def Hyg (s : St) : Prop := ∀ i, NdOk (s.nd i)
structure Keeps (s s' : St) : Prop where
  sets : s'.sets = s.sets
  nd : ∀ i, (s.nd i).busy = true → s'.nd i = s.nd i
  busy : ∀ i, (s'.nd i).busy = (s.nd i).busy
theorem Keeps.refl (s : St) : Keeps s s := ⟨rfl, fun _ _ => rfl, fun _ => rfl⟩
theorem Keeps.trans {a b c : St} (h : Keeps a b) (h' : Keeps b c) : Keeps a c :=
  ⟨h'.sets.trans h.sets, fun i hi => (h'.nd i (by rw [h.busy]; exact hi)).trans (h.nd i hi), fun i => (h'.busy i).trans (h.busy i)⟩
def PresP (ak : St → ByteArray → Out × St) : Prop := ∀ s a, Hyg s → (ak s a).1.t.size ≤ 262144 ∧ Hyg (ak s a).2 ∧ Keeps s (ak s a).2
theorem hyg_put {s : St} (h : Hyg s) (i : Nat) {x : Nd} (hx : NdOk x) : Hyg (s.put i x) := by
  intro k
  by_cases e : k = i
  · subst e; rw [St.put_same]; exact hx
  · rw [St.put_other _ _ e]; exact h k
theorem pres_all {ak : St → ByteArray → Out × St} (ha : PresP ak) : ∀ (l : List (ByteArray × Out)) (s : St), Hyg s → Hyg (askAll ak l s).2 ∧ Keeps s (askAll ak l s).2
  | [], s, h => ⟨h, Keeps.refl s⟩
  | x :: l, s, h => by
    obtain ⟨_, h1, h2⟩ := ha s x.1 h
    unfold askAll
    split
    · obtain ⟨h3, h4⟩ := pres_all ha l _ h1
      exact ⟨h3, h2.trans h4⟩
    · exact ⟨h1, h2⟩
theorem catL_len (os : List Out) : (catL os).length = sumL os := by
  unfold catL sumL
  rw [List.length_flatten, List.map_map]
  congr 1
theorem nxt_size (hI : ∀ n, n ≤ 262144 → (itoaB n).size ≤ 262144) {r : Rule} (hr : r.text.size ≤ 262144) {os : List Out} (hos : ∀ o ∈ os, o.t.size ≤ 262144) {o : Out} (h : nxt itoaB r os = .done o) : o.t.size ≤ 262144 := by
  have n0 : noneB.size ≤ 262144 := by decide
  have key : ∀ o, nxtOk itoaB r os = .done o → o.t.size ≤ 262144 := by
    intro o h
    unfold nxtOk at h
    split at h
    · split at h
      · cases h
      · injection h with h
        rw [← h]
        split
        · exact n0
        · rename_i hle
          show (catL os ++ r.text.data.toList).toArray.size ≤ 262144
          have e : r.text.data.toList.length = r.text.size := by rw [Array.length_toList]; rfl
          rw [List.size_toArray, List.length_append, catL_len, e]
          omega
    · split at h
      · cases h
      · split at h
        · cases h
        · split at h
          · injection h with h; rw [← h]; exact hI _ (hos _ (by simp))
          · cases h
      · split at h
        · injection h with h; rw [← h]; exact hos _ (by simp)
        · split at h
          · injection h with h; rw [← h]; exact hr
          · injection h with h; rw [← h]; exact n0
  unfold nxt at h
  split at h
  · rename_i o' ho'
    split at h
    · injection h with h
      rw [← h]
      exact hos o' (List.mem_of_getLast? ho')
    · exact key o h
  · exact key o h
theorem ref_size {r : Rule} (hr : RuleOk r) (j : Nat) : (r.refs.getD j noneB).size ≤ 1000000000000000 := by
  rw [List.getD_eq_getElem?_getD]
  cases h : r.refs[j]? with
  | none => decide
  | some a => exact hr.ref a (List.mem_of_getElem? h)
theorem pres_come (hI : ∀ n, n ≤ 262144 → (itoaB n).size ≤ 262144) {ak : St → ByteArray → Out × St} (ha : PresP ak) {r : Rule} (hr : RuleOk r) (i : Nat) : ∀ (f : Nat) (os : List Out) (s : St), Hyg s → (s.nd i).busy = true → (∀ o ∈ os, o.t.size ≤ 262144) → (s.nd i).asked.length + f ≤ 200000 →
    (comeM itoaB ak r i f os s).1.t.size ≤ 262144 ∧ Hyg (comeM itoaB ak r i f os s).2 ∧ (comeM itoaB ak r i f os s).2.sets = s.sets ∧ (∀ k, k ≠ i → (s.nd k).busy = true → (comeM itoaB ak r i f os s).2.nd k = s.nd k) ∧ ∀ k, ((comeM itoaB ak r i f os s).2.nd k).busy = (s.nd k).busy
  | 0, _, s, h, _, _, _ => ⟨by show noneB.size ≤ _; decide, h, rfl, fun _ _ _ => rfl, fun _ => rfl⟩
  | f + 1, os, s, h, hb, hos, hl => by
    unfold comeM
    cases hx : nxt itoaB r os with
    | done o => exact ⟨nxt_size hI hr.text hos hx, h, rfl, fun _ _ _ => rfl, fun _ => rfl⟩
    | ask j =>
      simp only
      obtain ⟨h1, h2, h3⟩ := ha s (r.refs.getD j noneB) h
      generalize hq : ak s (r.refs.getD j noneB) = q at h1 h2 h3
      obtain ⟨o, s1⟩ := q
      simp only at h1 h2 h3 ⊢
      have hnd : s1.nd i = s.nd i := h3.nd i hb
      have hx2 : NdOk { s1.nd i with asked := (s1.nd i).asked ++ [(r.refs.getD j noneB, o)] } := by
        refine ⟨(h2 i).came, fun y hy => ?_, fun y hy => ?_, ?_⟩
        · rcases List.mem_append.1 hy with hy | hy
          · exact (h2 i).out y hy
          · simp only [List.mem_cons, List.not_mem_nil, or_false] at hy; subst hy; exact h1
        · rcases List.mem_append.1 hy with hy | hy
          · exact (h2 i).name y hy
          · simp only [List.mem_cons, List.not_mem_nil, or_false] at hy; subst hy; exact ref_size hr j
        · simp only [List.length_append, List.length_cons, List.length_nil]
          rw [hnd]
          omega
      obtain ⟨a1, a2, a3, a4, a5⟩ := pres_come hI ha hr i f (os ++ [o]) (s1.put i { s1.nd i with asked := (s1.nd i).asked ++ [(r.refs.getD j noneB, o)] }) (hyg_put h2 i hx2) (by rw [St.put_same]; simp only; rw [hnd]; exact hb)
        (fun x hx => by
          rcases List.mem_append.1 hx with hx | hx
          · exact hos x hx
          · simp only [List.mem_cons, List.not_mem_nil, or_false] at hx; rw [hx]; exact h1)
        (by rw [St.put_same]; simp only [List.length_append, List.length_cons, List.length_nil]; rw [hnd]; omega)
      refine ⟨a1, a2, a3.trans h3.sets, fun k hk hbk => ?_, fun k => ?_⟩
      · rw [a4 k hk (by rw [St.put_other _ _ hk, h3.busy]; exact hbk), St.put_other _ _ hk]
        exact h3.nd k hbk
      · rw [a5 k]
        by_cases e : k = i
        · subst e; rw [St.put_same]; simp only; rw [hnd]
        · rw [St.put_other _ _ e]; exact h3.busy k
theorem pres_holds {ak : St → ByteArray → Out × St} (ha : PresP ak) (i : Nat) (s : St) (h : Hyg s) (hb : (s.nd i).busy = true) : Hyg (holdsM ak i s).2 ∧ (holdsM ak i s).2.sets = s.sets ∧ (∀ k, k ≠ i → (s.nd k).busy = true → (holdsM ak i s).2.nd k = s.nd k) ∧ ∀ k, ((holdsM ak i s).2.nd k).busy = (s.nd k).busy := by
  unfold holdsM
  split
  · exact ⟨h, rfl, fun _ _ _ => rfl, fun _ => rfl⟩
  · split
    · exact ⟨h, rfl, fun _ _ _ => rfl, fun _ => rfl⟩
    · obtain ⟨h1, h2⟩ := pres_all ha (s.nd i).asked s h
      simp only
      split
      · refine ⟨hyg_put h1 i ⟨(h1 i).came, (h1 i).out, (h1 i).name, (h1 i).len⟩, h2.sets, fun k hk hbk => ?_, fun k => ?_⟩
        · rw [St.put_other _ _ hk]; exact h2.nd k hbk
        · by_cases e : k = i
          · subst e; rw [St.put_same]; exact h2.busy k
          · rw [St.put_other _ _ e]; exact h2.busy k
      · exact ⟨h1, h2.sets, fun k hk hbk => h2.nd k hbk, h2.busy⟩
theorem pres_work (hI : ∀ n, n ≤ 262144 → (itoaB n).size ≤ 262144) {ak : St → ByteArray → Out × St} (ha : PresP ak) {r : Rule} (hr : RuleOk r) (i : Nat) (s : St) (h : Hyg s) (hb : (s.nd i).busy = true) : Hyg (workM itoaB ak r i s) ∧ (workM itoaB ak r i s).sets = s.sets ∧ (∀ k, k ≠ i → (s.nd k).busy = true → (workM itoaB ak r i s).nd k = s.nd k) ∧ ∀ k, ((workM itoaB ak r i s).nd k).busy = (s.nd k).busy := by
  have h0 : NdOk { s.nd i with asked := [] } := ⟨(h i).came, fun _ hy => (by cases hy), fun _ hy => (by cases hy), by simp⟩
  obtain ⟨a1, a2, a3, a4, a5⟩ := pres_come hI ha hr i (steps r) [] (s.put i { s.nd i with asked := [] }) (hyg_put h i h0) (by rw [St.put_same]; exact hb) (fun _ hx => by cases hx) (by rw [St.put_same]; have := hr.refs; simp [steps]; omega)
  have hbusy : ∀ k, ((comeM itoaB ak r i (steps r) [] (s.put i { s.nd i with asked := [] })).2.nd k).busy = (s.nd k).busy := fun k => by
    rw [a5 k]
    by_cases e : k = i
    · subst e; rw [St.put_same]
    · rw [St.put_other _ _ e]
  have hnd : ∀ k, k ≠ i → (s.nd k).busy = true → (comeM itoaB ak r i (steps r) [] (s.put i { s.nd i with asked := [] })).2.nd k = s.nd k := fun k hk hbk => by
    rw [a4 k hk (by rw [St.put_other _ _ hk]; exact hbk), St.put_other _ _ hk]
  unfold workM
  simp only
  generalize comeM itoaB ak r i (steps r) [] (s.put i { s.nd i with asked := [] }) = q at a1 a2 a3 hbusy hnd
  obtain ⟨o, s1⟩ := q
  simp only at a1 a2 a3 hbusy hnd ⊢
  split
  · refine ⟨hyg_put a2 i ⟨a1, fun _ hy => (by cases hy), fun _ hy => (by cases hy), by simp⟩, a3, fun k hk hbk => ?_, fun k => ?_⟩
    · rw [St.put_other _ _ hk]; exact hnd k hk hbk
    · by_cases e : k = i
      · subst e; rw [St.put_same]; exact hbusy k
      · rw [St.put_other _ _ e]; exact hbusy k
  · refine ⟨hyg_put a2 i ⟨a1, (a2 i).out, (a2 i).name, (a2 i).len⟩, a3, fun k hk hbk => ?_, fun k => ?_⟩
    · show (s1.put i _).nd k = _
      rw [St.put_other _ _ hk]; exact hnd k hk hbk
    · show ((s1.put i _).nd k).busy = _
      by_cases e : k = i
      · subst e; rw [St.put_same]; exact hbusy k
      · rw [St.put_other _ _ e]; exact hbusy k
theorem pres_askI (hI : ∀ n, n ≤ 262144 → (itoaB n).size ≤ 262144) {ak : St → ByteArray → Out × St} (ha : PresP ak) {r : Rule} (hr : RuleOk r) (i : Nat) (s : St) (h : Hyg s) (hb : (s.nd i).busy = false) : (askI itoaB ak r i s).1.t.size ≤ 262144 ∧ Hyg (askI itoaB ak r i s).2 ∧ Keeps s (askI itoaB ak r i s).2 := by
  have h1 : Hyg (s.put i { s.nd i with busy := true }) := hyg_put h i ⟨(h i).came, (h i).out, (h i).name, (h i).len⟩
  have b1 : ((s.put i { s.nd i with busy := true }).nd i).busy = true := by rw [St.put_same]
  have n1 : ∀ k, k ≠ i → (s.put i { s.nd i with busy := true }).nd k = s.nd k := fun k hk => St.put_other _ _ hk
  obtain ⟨a1, a2, a3, a4⟩ := pres_holds ha i _ h1 b1
  have fin : ∀ s3 : St, Hyg s3 → s3.sets = s.sets → (∀ k, k ≠ i → (s.nd k).busy = true → s3.nd k = s.nd k) → (∀ k, k ≠ i → (s3.nd k).busy = (s.nd k).busy) → (s3.nd i).came.t.size ≤ 262144 ∧ Hyg (s3.put i { s3.nd i with busy := false }) ∧ Keeps s (s3.put i { s3.nd i with busy := false }) := by
    intro s3 h3 hs hn hbk
    refine ⟨(h3 i).came, hyg_put h3 i ⟨(h3 i).came, (h3 i).out, (h3 i).name, (h3 i).len⟩, hs, fun k hk => ?_, fun k => ?_⟩
    · have e : k ≠ i := fun e => by rw [e, hb] at hk; cases hk
      rw [St.put_other _ _ e]; exact hn k e hk
    · by_cases e : k = i
      · subst e; rw [St.put_same]; exact hb.symm
      · rw [St.put_other _ _ e]; exact hbk k e
  have hn1 : ∀ k, k ≠ i → (s.nd k).busy = true → (holdsM ak i (s.put i { s.nd i with busy := true })).2.nd k = s.nd k := fun k hk hbk => by rw [a3 k hk (by rw [n1 k hk]; exact hbk), n1 k hk]
  have hb1 : ∀ k, k ≠ i → ((holdsM ak i (s.put i { s.nd i with busy := true })).2.nd k).busy = (s.nd k).busy := fun k hk => by rw [a4 k, n1 k hk]
  unfold askI
  simp only
  generalize hq : holdsM ak i (s.put i { s.nd i with busy := true }) = q at a1 a2 a4 hn1 hb1
  obtain ⟨b, s2⟩ := q
  simp only at a1 a2 a4 hn1 hb1 ⊢
  split
  · exact fin s2 a1 a2 hn1 hb1
  · obtain ⟨c1, c2, c3, c4⟩ := pres_work hI ha hr i s2 a1 (by rw [a4 i, St.put_same])
    exact fin _ c1 (c2.trans a2) (fun k hk hbk => by rw [c3 k hk (by rw [hb1 k hk]; exact hbk)]; exact hn1 k hk hbk) (fun k hk => by rw [c4 k]; exact hb1 k hk)
theorem pres_ask (hI : ∀ n, n ≤ 262144 → (itoaB n).size ≤ 262144) {E : Env} (hE : EnvOk E) : ∀ f, PresP (askM itoaB E f)
  | 0, s, a, h => ⟨by show noneB.size ≤ _; decide, h, Keeps.refl s⟩
  | f + 1, s, a, h => by
    cases hf : findR E a with
    | none =>
      rw [askM_none itoaB hf]
      refine ⟨?_, h, Keeps.refl s⟩
      unfold inOut
      cases hx : E.inp a with
      | none => show noneB.size ≤ _; decide
      | some t => exact hE.inp a t hx
    | some i =>
      by_cases hb : (s.nd i).busy = true
      · rw [askM_busy itoaB hf hb]
        exact ⟨by show noneB.size ≤ _; decide, h, Keeps.refl s⟩
      · have hb : (s.nd i).busy = false := by simpa using hb
        rw [askM_free itoaB hf hb]
        exact pres_askI hI (pres_ask hI hE f) (ruleN_ok hE i (findR_lt hf)) i s h hb
end Go.Proofs.YtjcaeoacgoklmaaDoor
