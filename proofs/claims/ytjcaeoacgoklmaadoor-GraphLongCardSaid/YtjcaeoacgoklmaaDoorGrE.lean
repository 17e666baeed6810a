import Derived.Test.YtjcaeoacgoklmaaDoorGrD
namespace Go.Proofs.YtjcaeoacgoklmaaDoor
variable {itoaB : Nat → ByteArray}
/-- The rules under way: each once, and rules. -/
structure Okk (E : Env) (B : List Nat) : Prop where
  nodup : B.Nodup
  lt : ∀ b, b ∈ B → b < E.rules.length
section
variable (itoaB)
structure Res (E : Env) (B : List Nat) (s : St) (a : ByteArray) (o : Out) (s' : St) : Prop where
  out : o = Vw itoaB E a
  inv : InvS itoaB E s' B
  tr : Tr itoaB E B s s'
  cur : ∀ i, findR E a = some i → (Vw itoaB E a).e ≠ 8 → Cur s' i
  done : Done itoaB E s' B a
  still : Done itoaB E s B a → s'.runs = s.runs
def AskOK (E : Env) (ak : St → ByteArray → Out × St) (m : Nat) : Prop := ∀ s B a, InvS itoaB E s B → RB E s → Chain itoaB E B → (∀ i, findR E a = some i → Top itoaB E B i) → Okk E B → E.rules.length < m + B.length → Res itoaB E B s a (ak s a).1 (ak s a).2
end
theorem askAll_ok {E : Env} {ak : St → ByteArray → Out × St} {m : Nat} (hak : AskOK itoaB E ak m) {i : Nat} {B : List Nat} (hc : Chain itoaB E (i :: B)) (ho : Okk E (i :: B)) (hm : E.rules.length < m + (i :: B).length) :
    ∀ (l pre : List (ByteArray × Out)) (s : St), InvS itoaB E s (i :: B) → RB E s → SCP itoaB (ruleN E i) (pre ++ l) → Vcons (Vw itoaB E) pre →
      InvS itoaB E (askAll ak l s).2 (i :: B) ∧ Tr itoaB E (i :: B) s (askAll ak l s).2 ∧ ((askAll ak l s).1 = true → Vcons (Vw itoaB E) l ∧ ∀ x ∈ l, ∀ j, findR E x.1 = some j → (Vw itoaB E x.1).e ≠ 8 → Cur (askAll ak l s).2 j) ∧ ((askAll ak l s).1 = false → ¬ Vcons (Vw itoaB E) l) ∧ ((∀ x ∈ l, Vcons (Vw itoaB E) l → Done itoaB E s (i :: B) x.1) → (Vcons (Vw itoaB E) l → (askAll ak l s).2.runs = s.runs))
  | [], pre, s, hi, _, _, _ => ⟨hi, Tr.refl _ _ _, fun _ => ⟨fun _ h => (by cases h), fun _ h => (by cases h)⟩, fun h => by simp [askAll] at h, fun _ _ => rfl⟩
  | x :: l, pre, s, hi, hrb, hs, hp => by
    have htop : ∀ j, findR E x.1 = some j → Top itoaB E (i :: B) j := fun j hj => by
      obtain ⟨k, h1, h2⟩ := hs.at
      exact ⟨pre, k, hs.pre, hp, h1, by rw [← h2]; exact hj⟩
    have r := hak s (i :: B) x.1 hi hrb hc htop ho hm
    unfold askAll
    by_cases he : outEq (ak s x.1).1 x.2 = true
    · rw [if_pos he]
      have hx : x.2 = Vw itoaB E x.1 := by rw [← outEq_iff.1 he]; exact r.out
      obtain ⟨a1, a2, a3, a4, a5⟩ := askAll_ok hak hc ho hm l (pre ++ [x]) (ak s x.1).2 r.inv (hrb.tr r.tr) (by simpa using hs) (fun y hy => by
        rcases List.mem_append.1 hy with hy | hy
        · exact hp y hy
        · simp only [List.mem_cons, List.not_mem_nil, or_false] at hy
          rw [hy]; exact hx)
      refine ⟨a1, r.tr.trans a2, fun h => ?_, fun h hv => a4 h fun y hy => hv y (List.mem_cons_of_mem _ hy), fun h hv => ?_⟩
      · obtain ⟨b1, b2⟩ := a3 h
        refine ⟨fun y hy => ?_, fun y hy j hj h8 => ?_⟩
        · rcases List.mem_cons.1 hy with rfl | hy
          · exact hx
          · exact b1 y hy
        · rcases List.mem_cons.1 hy with rfl | hy
          · exact a2.cur j (r.cur j hj h8)
          · exact b2 y hy j hj h8
      · have hvl : Vcons (Vw itoaB E) l := fun y hy => hv y (List.mem_cons_of_mem _ hy)
        rw [a5 (fun y hy _ => (h y (List.mem_cons_of_mem _ hy) hv).tr r.tr) hvl]
        exact r.still (h x (List.mem_cons_self ..) hv)
    · rw [if_neg he]
      have hx : ¬ x.2 = Vw itoaB E x.1 := fun h => he (outEq_iff.2 (by rw [h]; exact r.out))
      exact ⟨r.inv, r.tr, fun h => by simp at h, fun _ hv => hx (hv x (List.mem_cons_self ..)), fun _ hv => absurd (hv x (List.mem_cons_self ..)) hx⟩
/-- A rule that is under way is put down otherwise: nothing else changes. -/
theorem put_inv {E : Env} {s : St} {i : Nat} {B : List Nat} {x : Nd} (h : InvS itoaB E s (i :: B)) (hb : x.busy = true) (hc : ¬ (x.kept = true ∧ x.sets = s.sets)) : InvS itoaB E (s.put i x) (i :: B) := by
  have hcur : ∀ k, Cur (s.put i x) k ↔ k ≠ i ∧ Cur s k := by
    intro k
    by_cases e : k = i
    · subst e
      unfold Cur
      rw [St.put_same]
      exact ⟨fun h => absurd h hc, fun h => absurd rfl h.1⟩
    · unfold Cur
      rw [St.put_other _ _ e]
      exact ⟨fun h => ⟨e, h⟩, fun h => h.2⟩
  refine ⟨fun k => ?_, fun k hk hB => ?_, fun k hk hB hcu => ?_, fun k hk hcu => ?_⟩
  · by_cases e : k = i
    · subst e; rw [St.put_same]; simp [hb]
    · rw [St.put_other _ _ e]; exact h.busy k
  · rw [St.put_other _ _ (fun e => hB (by rw [e]; exact List.mem_cons_self ..))]
    exact h.self k hk hB
  · have e : k ≠ i := fun e => hB (by rw [e]; exact List.mem_cons_self ..)
    rw [St.put_other _ _ e]
    obtain ⟨h1, h2⟩ := h.cur k hk hB ((hcur k).1 hcu).2
    refine ⟨h1, fun y hy j hj => (hcur j).2 ⟨?_, h2 y hy j hj⟩⟩
    rintro rfl
    exact h.nb j (List.mem_cons_self ..) (h2 y hy j hj)
  · obtain ⟨_, h2⟩ := (hcur k).1 hcu
    exact h.nb k hk h2
theorem put_tr {E : Env} {s : St} {i : Nat} {B : List Nat} {x : Nd} (hi : i ∉ B) (hv : HV itoaB E s i → x.kept = (s.nd i).kept ∧ x.asked = (s.nd i).asked ∧ x.came = (s.nd i).came) (hc : Cur s i → x.kept = true ∧ x.sets = s.sets) (hu : (Vw itoaB E (nameN E i)).e = 8 → (s.nd i).kept = false → x.kept = false) : Tr itoaB E B s (s.put i x) := by
  have hcur : ∀ k, Cur s k → Cur (s.put i x) k := by
    intro k h
    by_cases e : k = i
    · subst e; unfold Cur; rw [St.put_same]; exact hc h
    · unfold Cur; rw [St.put_other _ _ e]; exact h
  refine ⟨rfl, fun b hb => St.put_other _ _ (fun e => hi (e ▸ hb)), fun k hk => ?_, hcur, fun k h8 hk => ?_, Int.le_refl _, ?_⟩
  · by_cases e : k = i
    · subst e; rw [St.put_same]; exact hv hk
    · rw [St.put_other _ _ e]; exact ⟨rfl, rfl, rfl⟩
  · by_cases e : k = i
    · subst e; rw [St.put_same]; exact hu h8 hk
    · rw [St.put_other _ _ e]; exact hk
  · have := cntC_le (E := E) hcur
    show s.runs - s.runs ≤ _
    omega
theorem no_hv {E : Env} {s : St} {i : Nat} {l : List (ByteArray × Out)} {j : Nat} (hl : (s.nd i).asked = l) (hn : nxt itoaB (ruleN E i) (l.map (·.2)) = .ask j) : ¬ HV itoaB E s i := by
  intro h
  cases h with
  | mk _ _ hd _ _ _ => rw [hl, hn] at hd; cases hd
theorem comeM_ok {E : Env} (hE : Dist E) {ak : St → ByteArray → Out × St} {m : Nat} (hak : AskOK itoaB E ak m) {i : Nat} {B : List Nat} (hlt : i < E.rules.length) (hc : Chain itoaB E (i :: B)) (ho : Okk E (i :: B)) (hm : E.rules.length < m + (i :: B).length) :
    ∀ (f : Nat) (l : List (ByteArray × Out)) (s : St), InvS itoaB E s (i :: B) → RB E s → (s.nd i).asked = l → SCP itoaB (ruleN E i) l → Vcons (Vw itoaB E) l → steps (ruleN E i) ≤ f + l.length → (∀ x ∈ l, ∀ j, findR E x.1 = some j → (Vw itoaB E x.1).e ≠ 8 → Cur s j) → (∀ x ∈ l, Done itoaB E s (i :: B) x.1) →
      (comeM itoaB ak (ruleN E i) i f (l.map (·.2)) s).1 = Vw itoaB E (nameN E i) ∧ InvS itoaB E (comeM itoaB ak (ruleN E i) i f (l.map (·.2)) s).2 (i :: B) ∧ Tr itoaB E B s (comeM itoaB ak (ruleN E i) i f (l.map (·.2)) s).2 ∧
      (∃ l', ((comeM itoaB ak (ruleN E i) i f (l.map (·.2)) s).2.nd i).asked = l' ∧ SCP itoaB (ruleN E i) l' ∧ Vcons (Vw itoaB E) l' ∧ nxt itoaB (ruleN E i) (l'.map (·.2)) = .done (Vw itoaB E (nameN E i)) ∧ (∀ x ∈ l', ∀ j, findR E x.1 = some j → (Vw itoaB E x.1).e ≠ 8 → Cur (comeM itoaB ak (ruleN E i) i f (l.map (·.2)) s).2 j) ∧ (∀ x ∈ l', Done itoaB E (comeM itoaB ak (ruleN E i) i f (l.map (·.2)) s).2 (i :: B) x.1)) ∧
      ((∀ l j, SCP itoaB (ruleN E i) l → Vcons (Vw itoaB E) l → nxt itoaB (ruleN E i) (l.map (·.2)) = .ask j → Done itoaB E s (i :: B) ((ruleN E i).refs.getD j noneB)) → (comeM itoaB ak (ruleN E i) i f (l.map (·.2)) s).2.runs = s.runs) ∧
      ((comeM itoaB ak (ruleN E i) i f (l.map (·.2)) s).2.nd i).kept = (s.nd i).kept ∧ ((comeM itoaB ak (ruleN E i) i f (l.map (·.2)) s).2.nd i).busy = (s.nd i).busy
  | 0, l, s, _, _, _, hs, hv, hf, _, _ => by
    have := (hs.path hv).len
    simp at this
    omega
  | f + 1, l, s, hinv, hrb, hl, hs, hv, hf, hcu, hdo => by
    unfold comeM
    cases hx : nxt itoaB (ruleN E i) (l.map (·.2)) with
    | done o =>
      have hov := way_val (hE i hlt) hs hv hx
      simp only
      exact ⟨hov, hinv, Tr.refl _ _ _, ⟨l, hl, hs, hv, by rw [← hov]; exact hx, hcu, hdo⟩, by simp⟩
    | ask j =>
      simp only
      have htop : ∀ k, findR E ((ruleN E i).refs.getD j noneB) = some k → Top itoaB E (i :: B) k := fun k hk => ⟨l, j, hs, hv, hx, hk⟩
      have r := hak s (i :: B) ((ruleN E i).refs.getD j noneB) hinv hrb hc htop ho hm
      generalize hq : ak s ((ruleN E i).refs.getD j noneB) = q at r
      obtain ⟨o, s1⟩ := q
      simp only at r ⊢
      have hndi : s1.nd i = s.nd i := r.tr.keepB i (List.mem_cons_self ..)
      have hiB : i ∉ B := fun h => by have := ho.nodup; rw [List.nodup_cons] at this; exact this.1 h
      have hb1 : (s1.nd i).busy = true := (r.inv.busy i).2 (List.mem_cons_self ..)
      have hnc : ¬ Cur s1 i := r.inv.nb i (List.mem_cons_self ..)
      have inv2 : InvS itoaB E (s1.put i { s1.nd i with asked := (s1.nd i).asked ++ [((ruleN E i).refs.getD j noneB, o)] }) (i :: B) := put_inv r.inv hb1 hnc
      have tr2 : Tr itoaB E B s1 (s1.put i { s1.nd i with asked := (s1.nd i).asked ++ [((ruleN E i).refs.getD j noneB, o)] }) :=
        put_tr hiB (fun h => absurd h (no_hv (by rw [hndi, hl]) hx)) (fun h => h) (fun _ h => h)
      have tr2' : Tr itoaB E [] s1 (s1.put i { s1.nd i with asked := (s1.nd i).asked ++ [((ruleN E i).refs.getD j noneB, o)] }) := tr2.less fun b hb => by cases hb
      have hl2 : ((s1.put i { s1.nd i with asked := (s1.nd i).asked ++ [((ruleN E i).refs.getD j noneB, o)] }).nd i).asked = l ++ [((ruleN E i).refs.getD j noneB, o)] := by rw [St.put_same, hndi, hl]
      have hv2 : Vcons (Vw itoaB E) (l ++ [((ruleN E i).refs.getD j noneB, o)]) := fun x hx => by
        rcases List.mem_append.1 hx with hx | hx
        · exact hv x hx
        · simp only [List.mem_cons, List.not_mem_nil, or_false] at hx
          rw [hx]; exact r.out
      have ih := comeM_ok hE hak hlt hc ho hm f (l ++ [((ruleN E i).refs.getD j noneB, o)]) _ inv2 ((hrb.tr r.tr).tr tr2') hl2 (hs.snoc hx o) hv2 (by simp; omega)
        (fun x hx k hk h8 => by
          rcases List.mem_append.1 hx with hx | hx
          · exact tr2.cur k (r.tr.cur k (hcu x hx k hk h8))
          · simp only [List.mem_cons, List.not_mem_nil, or_false] at hx
            subst hx
            exact tr2.cur k (r.cur k hk h8))
        (fun x hx => by
          rcases List.mem_append.1 hx with hx | hx
          · exact ((hdo x hx).tr r.tr).tr tr2
          · simp only [List.mem_cons, List.not_mem_nil, or_false] at hx
            subst hx
            exact r.done.tr tr2)
      rw [List.map_append] at ih
      simp only [List.map_cons, List.map_nil] at ih
      obtain ⟨a1, a2, a3, a4, a5, a6, a7⟩ := ih
      refine ⟨a1, a2, ((r.tr.less fun b hb => List.mem_cons_of_mem _ hb).trans tr2).trans a3, a4, fun h => ?_, ?_, ?_⟩
      · rw [a5 fun l j h1 h2 h3 => ((h l j h1 h2 h3).tr r.tr).tr tr2]
        exact r.still (h l j hs hv hx)
      · rw [a6, St.put_same, hndi]
      · rw [a7, St.put_same, hndi]
end Go.Proofs.YtjcaeoacgoklmaaDoor
