import Derived.Test.YtjcaeoacgoklmaaDoorGrE
namespace Go.Proofs.YtjcaeoacgoklmaaDoor
variable {itoaB : Nat → ByteArray}
theorem nodup_len : ∀ (n : Nat) (B : List Nat), B.Nodup → (∀ b ∈ B, b < n) → B.length ≤ n
  | 0, B, _, h => by
    cases B with
    | nil => simp
    | cons b B => have := h b (List.mem_cons_self ..); omega
  | n + 1, B, hd, h => by
    by_cases hn : n ∈ B
    · have h1 := nodup_len n (B.erase n) (hd.erase n) (fun b hb => by
        have h2 := (hd.mem_erase_iff).1 hb
        have := h b h2.2
        omega)
      rw [List.length_erase_of_mem hn] at h1
      omega
    · have := nodup_len n B hd (fun b hb => by
        have h2 := h b hb
        have : b ≠ n := fun e => hn (e ▸ hb)
        omega)
      omega
theorem set_busy {E : Env} {s : St} {i : Nat} {B : List Nat} (h : InvS itoaB E s B) (hi : i ∉ B) (hc : ¬ Cur s i) : InvS itoaB E (s.put i { s.nd i with busy := true }) (i :: B) := by
  have hcur : ∀ k, Cur (s.put i { s.nd i with busy := true }) k ↔ Cur s k := by
    intro k
    by_cases e : k = i
    · subst e; unfold Cur; rw [St.put_same]; exact Iff.rfl
    · unfold Cur; rw [St.put_other _ _ e]; exact Iff.rfl
  refine ⟨fun k => ?_, fun k hk hB => ?_, fun k hk hB hcu => ?_, fun k hk hcu => ?_⟩
  · by_cases e : k = i
    · subst e; rw [St.put_same]; simp
    · rw [St.put_other _ _ e, h.busy k]; simp [e]
  · rw [List.mem_cons, not_or] at hB
    rw [St.put_other _ _ hB.1]
    exact h.self k hk hB.2
  · rw [List.mem_cons, not_or] at hB
    rw [St.put_other _ _ hB.1]
    obtain ⟨h1, h2⟩ := h.cur k hk hB.2 ((hcur k).1 hcu)
    exact ⟨h1, fun y hy j hj => (hcur j).2 (h2 y hy j hj)⟩
  · have hcu := (hcur k).1 hcu
    rcases List.mem_cons.1 hk with e | hk
    · rw [e] at hcu; exact hc hcu
    · exact h.nb k hk hcu
theorem busy_tr (E : Env) (s : St) {i : Nat} {B : List Nat} (hi : i ∉ B) (b : Bool) : Tr itoaB E B s (s.put i { s.nd i with busy := b }) :=
  put_tr hi (fun _ => ⟨rfl, rfl, rfl⟩) (fun h => h) (fun _ h => h)
/-- A rule that was under way is done. -/
theorem end_inv {E : Env} {s : St} {i : Nat} {B : List Nat} {x : Nd} (h : InvS itoaB E s (i :: B)) (hi : i ∉ B) (hb : x.busy = false) (hself : x.kept = true → SCP itoaB (ruleN E i) x.asked ∧ nxt itoaB (ruleN E i) (x.asked.map (·.2)) = .done x.came ∧ x.came.e ≠ 8)
    (hcu : x.kept = true → x.sets = s.sets → Vcons (Vw itoaB E) x.asked ∧ ∀ y ∈ x.asked, ∀ j, findR E y.1 = some j → Cur s j) (s' : St) (hs1 : s'.sets = s.sets) (hs2 : s'.nd = (s.put i x).nd) : InvS itoaB E s' B := by
  have hmono : ∀ k, Cur s k → Cur s' k := by
    intro k hk
    have hki : k ≠ i := fun e => h.nb i (List.mem_cons_self ..) (e ▸ hk)
    unfold Cur
    rw [hs2, hs1, St.put_other _ _ hki]
    exact hk
  refine ⟨fun k => ?_, fun k hk hB => ?_, fun k hk hB hc => ?_, fun k hk hc => ?_⟩
  · rw [hs2]
    by_cases e : k = i
    · subst e; rw [St.put_same, hb]; simp [hi]
    · rw [St.put_other _ _ e, h.busy k]; simp [e]
  · rw [hs2]
    by_cases e : k = i
    · subst e; rw [St.put_same]; exact hself
    · rw [St.put_other _ _ e]; exact h.self k hk (by simp [e, hB])
  · unfold Cur at hc
    rw [hs2, hs1] at hc
    rw [hs2]
    by_cases e : k = i
    · subst e
      rw [St.put_same] at hc ⊢
      obtain ⟨h1, h2⟩ := hcu hc.1 hc.2
      exact ⟨h1, fun y hy j hj => hmono j (h2 y hy j hj)⟩
    · rw [St.put_other _ _ e] at hc ⊢
      obtain ⟨h1, h2⟩ := h.cur k hk (by simp [e, hB]) hc
      exact ⟨h1, fun y hy j hj => hmono j (h2 y hy j hj)⟩
  · unfold Cur at hc
    have e : k ≠ i := fun e => hi (e ▸ hk)
    rw [hs2, hs1, St.put_other _ _ e] at hc
    exact h.nb k (List.mem_cons_of_mem _ hk) hc
theorem put_put (s : St) (i : Nat) (x y : Nd) : ((s.put i x).put i y) = s.put i y := by
  unfold St.put
  simp only
  congr 1
  funext k
  split <;> rfl
theorem ask_ok {E : Env} (hE : Dist E) (hn : E.rules.length ≤ 1000000) : ∀ f, AskOK itoaB E (askM itoaB E f) f
  | 0, s, B, a, _, _, _, _, ho, hm => by
    have := nodup_len _ B ho.nodup ho.lt
    omega
  | f + 1, s, B, a, hinv, hrb, hc, ht, ho, hm => by
    cases hf : findR E a with
    | none =>
      rw [askM_none itoaB hf]
      exact ⟨(Vw_inp hf).symm, hinv, Tr.refl _ _ _, fun i hi => (by rw [hf] at hi; cases hi), .inp hf, fun _ => rfl⟩
    | some i =>
      have hname : nameN E i = a := findR_name hf
      have hlt := findR_lt hf
      by_cases hb : (s.nd i).busy = true
      · rw [askM_busy itoaB hf hb]
        have hiB := (hinv.busy i).1 hb
        have hv := chain_cyc hE ho.lt hiB hc (ht i hf)
        rw [hname] at hv
        exact ⟨hv.symm, hinv, Tr.refl _ _ _, fun j _ h8 => absurd (by rw [hv]; rfl) h8, .busy hf hiB, fun _ => rfl⟩
      · have hb : (s.nd i).busy = false := by simpa using hb
        have hiB : i ∉ B := fun h => by rw [(hinv.busy i).2 h] at hb; cases hb
        rw [askM_free itoaB hf hb]
        unfold askI
        generalize hs1 : s.put i { s.nd i with busy := true } = s1
        have hnd1 : s1.nd i = { s.nd i with busy := true } := by rw [← hs1, St.put_same]
        have hsets1 : s1.sets = s.sets := by rw [← hs1]; rfl
        by_cases hcur : Cur s i
        · -- what is kept holds
          have h1 : holdsM (askM itoaB E f) i s1 = (true, s1) := by
            unfold holdsM
            rw [hnd1, hsets1]
            simp only
            rw [if_neg (by rw [hcur.1]; simp), if_pos hcur.2]
          rw [h1]
          simp only [if_true]
          have e : s1.put i { s1.nd i with busy := false } = s := by
            rw [hnd1, ← hs1, put_put]
            simp only
            unfold St.put
            obtain ⟨nd, sets, runs⟩ := s
            simp only
            congr 1
            funext k
            split
            · rename_i e
              subst e
              simp only at hb
              rw [← hb]
            · rfl
          rw [e, hnd1]
          simp only
          have hh := cur_hv hE hinv hlt hcur
          have hce : (s.nd i).came = Vw itoaB E a := by
            cases hh with
            | mk _ hs hd _ hv _ => rw [← hname]; exact way_val (hE i hlt) hs hv hd
          exact ⟨hce, hinv, Tr.refl _ _ _, fun j hj _ => by rw [hf] at hj; injection hj with hj; exact hj ▸ hcur, .hv hf hh, fun _ => rfl⟩
        have inv1 : InvS itoaB E s1 (i :: B) := hs1 ▸ set_busy hinv hiB hcur
        have tr1 : Tr itoaB E B s s1 := hs1 ▸ busy_tr E s hiB true
        have hchain : Chain itoaB E (i :: B) := ⟨ht i hf, hc⟩
        have ho1 : Okk E (i :: B) := ⟨List.nodup_cons.2 ⟨hiB, ho.nodup⟩, fun b hb => by
          rcases List.mem_cons.1 hb with rfl | hb
          · exact hlt
          · exact ho.lt b hb⟩
        have hm1 : E.rules.length < f + (i :: B).length := by simp; omega
        have hak := ask_ok hE hn f
        -- the rule worked out, where what is kept doesn't hold
        have work : ∀ s2 : St, InvS itoaB E s2 (i :: B) → Tr itoaB E B s s2 → ¬ HV itoaB E s2 i → (Done itoaB E s B a → s2.runs = s.runs) → ((Vw itoaB E a).e ≠ 8 → ¬ Done itoaB E s B a) →
            Res itoaB E B s a ((workM itoaB (askM itoaB E f) (ruleN E i) i s2).nd i).came ((workM itoaB (askM itoaB E f) (ruleN E i) i s2).put i { (workM itoaB (askM itoaB E f) (ruleN E i) i s2).nd i with busy := false }) := by
          intro s2 inv2 tr2 hnh hst2 hnd2
          have hbi : (s2.nd i).busy = true := (inv2.busy i).2 (List.mem_cons_self ..)
          have hnc2 : ¬ Cur s2 i := inv2.nb i (List.mem_cons_self ..)
          unfold workM
          generalize hs3 : s2.put i { s2.nd i with asked := [] } = s3
          have inv3 : InvS itoaB E s3 (i :: B) := hs3 ▸ put_inv inv2 hbi hnc2
          have tr3 : Tr itoaB E B s2 s3 := hs3 ▸ put_tr hiB (fun h => absurd h hnh) (fun h => h) (fun _ h => h)
          have hl3 : (s3.nd i).asked = [] := by rw [← hs3, St.put_same]
          have hk3 : (s3.nd i).kept = (s2.nd i).kept := by rw [← hs3, St.put_same]
          obtain ⟨a1, a2, a3, ⟨l', a4, a5, a6, a7, a8, a9⟩, a10, a11, a12⟩ := comeM_ok hE hak hlt hchain ho1 hm1 (steps (ruleN E i)) [] s3 inv3 (hrb.tr (tr2.trans tr3)) hl3 .nil (fun _ h => by cases h) (by simp) (fun _ h => by cases h) (fun _ h => by cases h)
          simp only [List.map_nil] at a1 a2 a3 a4 a8 a9 a10 a11 a12
          generalize hq : comeM itoaB (askM itoaB E f) (ruleN E i) i (steps (ruleN E i)) [] s3 = q at a1 a2 a3 a4 a8 a9 a10 a11 a12 ⊢
          obtain ⟨o, s4⟩ := q
          simp only at a1 a2 a3 a4 a8 a9 a10 a11 a12 ⊢
          rw [hname] at a1 a7
          have hnc4 : ¬ Cur s4 i := a2.nb i (List.mem_cons_self ..)
          have hdone0 : Done itoaB E s B a → (Vw itoaB E a).e = 8 ∧ ∀ l j, SCP itoaB (ruleN E i) l → Vcons (Vw itoaB E) l → nxt itoaB (ruleN E i) (l.map (·.2)) = .ask j → Done itoaB E s (i :: B) ((ruleN E i).refs.getD j noneB) := by
            intro hd
            have h8 : (Vw itoaB E a).e = 8 := Classical.byContradiction fun h => hnd2 h hd
            refine ⟨h8, ?_⟩
            cases hd with
            | inp h => rw [hf] at h; cases h
            | busy h hb => rw [hf] at h; injection h with h; exact absurd (h ▸ hb) hiB
            | hv h hh =>
              rw [hf] at h; injection h with h; subst h
              exfalso
              cases hh with
              | mk hk hs hd he hv _ =>
                have := way_val (hE i hlt) hs hv hd
                rw [hname] at this
                exact he (by rw [this]; exact h8)
            | cyc h _ _ hch => rw [hf] at h; injection h with h; subst h; exact hch
          have hst4 : Done itoaB E s B a → s4.runs = s.runs := by
            intro hd
            obtain ⟨_, hch⟩ := hdone0 hd
            rw [a10 fun l j h1 h2 h3 => ((hch l j h1 h2 h3).tr tr2).tr tr3]
            rw [show s3.runs = s2.runs by rw [← hs3]; rfl]
            exact hst2 hd
          have trA := (tr2.trans tr3).trans a3
          by_cases h8 : o.e = 8
          · rw [if_pos h8]
            simp only [St.put_same]
            rw [put_put]
            have hV8 : (Vw itoaB E a).e = 8 := by rw [← a1]; exact h8
            have tr4 : Tr itoaB E B s4 (s4.put i { ran := (s4.nd i).ran, busy := false, kept := false, sets := (s4.nd i).sets, asked := [], came := o }) :=
              put_tr hiB (fun h => by
                exfalso
                cases h with
                | mk _ hs hd he _ _ =>
                  rw [a4, a7] at hd
                  injection hd with hd
                  rw [← hd] at he
                  exact he hV8) (fun h => absurd h hnc4) (fun _ _ => rfl)
            have trB := trA.trans tr4
            refine ⟨a1, end_inv a2 hiB rfl (fun h => by cases h) (fun h => by cases h) _ rfl rfl, trB, fun j _ h => absurd hV8 h, ?_, fun hd => hst4 hd⟩
            refine .cyc hf hV8 (by rw [St.put_same]) fun l j h1 h2 h3 => ?_
            -- every Ref that is asked for was asked for
            have : ∃ x ∈ l', x.1 = (ruleN E i).refs.getD j noneB := by
              obtain ⟨x, hx⟩ := (h1.path h2).prefix (a5.path a6) a7
              have hlen : l.length < l'.length := by
                have e1 := congrArg List.length hx
                simp at e1
                rcases Nat.lt_or_ge l.length l'.length with h | h
                · exact h
                · exfalso
                  have hx0 : x = [] := List.eq_nil_of_length_eq_zero (by omega)
                  rw [hx0, List.append_nil] at hx
                  rw [← hx, a7] at h3
                  cases h3
              have e3 : l = l'.take l.length := h1.same h2 (by
                have := a5
                rw [← List.take_append_drop l.length l'] at this
                exact this.pre) (fun y hy => a6 y (List.mem_of_mem_take hy)) (by simp; omega)
              have e4 : l' = l ++ l'[l.length] :: l'.drop (l.length + 1) := by
                conv => lhs; rw [← List.take_append_drop l.length l']
                rw [← e3, List.drop_eq_getElem_cons hlen]
              rw [e4] at a5
              obtain ⟨j', h4, h5⟩ := a5.at
              rw [h3] at h4
              injection h4 with h4
              subst h4
              exact ⟨_, List.getElem_mem hlen, h5⟩
            obtain ⟨x, hx, hxe⟩ := this
            rw [← hxe]
            exact (a9 x hx).tr tr4
          · rw [if_neg h8]
            simp only [St.put_same]
            have hV8 : (Vw itoaB E a).e ≠ 8 := by rw [← a1]; exact h8
            have hnd : ∀ k, ((({ s4.put i { s4.nd i with came := o, kept := true, sets := s4.sets, ran := w64 ((s4.nd i).ran + 1) } with runs := w64 (s4.runs + 1) } : St).put i { ran := w64 ((s4.nd i).ran + 1), busy := false, kept := true, sets := s4.sets, asked := (s4.nd i).asked, came := o }).nd k) = (s4.put i { ran := w64 ((s4.nd i).ran + 1), busy := false, kept := true, sets := s4.sets, asked := (s4.nd i).asked, came := o }).nd k := by
              intro k
              by_cases e : k = i
              · subst e; rw [St.put_same, St.put_same]
              · rw [St.put_other _ _ e, St.put_other _ _ e]; exact (St.put_other _ _ e).symm
            generalize hs5 : ({ s4.put i { s4.nd i with came := o, kept := true, sets := s4.sets, ran := w64 ((s4.nd i).ran + 1) } with runs := w64 (s4.runs + 1) } : St).put i { ran := w64 ((s4.nd i).ran + 1), busy := false, kept := true, sets := s4.sets, asked := (s4.nd i).asked, came := o } = s5 at hnd
            have hr5 : s5.runs = s4.runs + 1 := by
              have e : s5.runs = w64 (s4.runs + 1) := by rw [← hs5]; rfl
              have hr4 := hrb.tr trA
              have h0 := hr4.1
              have h1 := hr4.2
              have h2 := cntC_max (E := E) (s := s4)
              rw [e, w64_in (by omega) (by omega)]
            have hz5 : s5.sets = s4.sets := by rw [← hs5]; rfl
            have hcur5 : ∀ k, Cur s4 k → Cur s5 k := by
              intro k hk
              have hki : k ≠ i := fun e => hnc4 (e ▸ hk)
              unfold Cur
              rw [hnd, hz5, St.put_other _ _ hki]
              exact hk
            have hci : Cur s5 i := by
              unfold Cur
              rw [hnd, hz5, St.put_same]
              exact ⟨rfl, rfl⟩
            have tr4 : Tr itoaB E B s4 s5 := by
              refine ⟨hz5, fun b hb => ?_, fun k hk => ?_, hcur5, fun k hk8 hk => ?_, by omega, ?_⟩
              · rw [hnd, St.put_other _ _ (fun e => hiB (by rw [← e]; exact hb))]
              · rw [hnd]
                by_cases e : k = i
                · subst e
                  rw [St.put_same]
                  cases hk with
                  | mk hkk hs hd he _ _ =>
                    rw [a4, a7] at hd
                    injection hd with hd
                    exact ⟨hkk.symm, rfl, a1.trans hd⟩
                · rw [St.put_other _ _ e]; exact ⟨rfl, rfl, rfl⟩
              · rw [hnd]
                by_cases e : k = i
                · subst e
                  rw [hname] at hk8
                  exact absurd hk8 hV8
                · rw [St.put_other _ _ e]; exact hk
              · have := cntC_lt (E := E) hcur5 hlt hnc4 hci
                omega
            have inv5 : InvS itoaB E s5 B := by
              refine end_inv a2 hiB rfl (fun _ => ?_) (fun _ _ => ?_) s5 hz5 (funext hnd)
              · simp only
                rw [a4]
                exact ⟨a5, by rw [a7, a1], h8⟩
              · simp only
                rw [a4]
                refine ⟨a6, fun y hy j hj => a8 y hy j hj ?_⟩
                have hf' := (a5.path a6).fine a7 hV8
                have := hf' y.2 (List.mem_map.2 ⟨y, hy, rfl⟩)
                rwa [a6 y hy] at this
            have hd5 : Done itoaB E s5 B a := .hv hf (cur_hv hE inv5 hlt hci)
            exact ⟨a1, inv5, trA.trans tr4, fun j hj _ => by rw [hf] at hj; injection hj with hj; exact hj ▸ hci, hd5, fun hd => absurd hd (hnd2 hV8)⟩
        unfold holdsM
        by_cases hk : (s1.nd i).kept = false
        · rw [if_pos hk]
          simp only [Bool.false_eq_true, if_false]
          refine work s1 inv1 tr1 (fun h => by cases h with | mk h1 _ _ _ _ _ => rw [hk] at h1; cases h1) (fun _ => by rw [← hs1]; rfl) (fun h8 hd => ?_)
          have hk0 : (s.nd i).kept = false := by rw [hnd1] at hk; exact hk
          cases hd with
          | inp h => rw [hf] at h; cases h
          | busy h hb => rw [hf] at h; injection h with h; exact hiB (h ▸ hb)
          | hv h hh => rw [hf] at h; injection h with h; subst h; cases hh with | mk h1 _ _ _ _ _ => rw [hk0] at h1; cases h1
          | cyc h h8' _ _ => exact h8 h8'
        · rw [if_neg hk]
          have hk : (s1.nd i).kept = true := by simpa using hk
          have hns : ¬ (s1.nd i).sets = s1.sets := fun h => inv1.nb i (List.mem_cons_self ..) ⟨hk, h⟩
          rw [if_neg hns]
          have hk0 : (s.nd i).kept = true := by rw [hnd1] at hk; exact hk
          obtain ⟨b1, b2, b3⟩ := hinv.self i hlt hiB hk0
          have hask : (s1.nd i).asked = (s.nd i).asked := by rw [hnd1]
          obtain ⟨c1, c2, c3, c4, c5⟩ := askAll_ok hak hchain ho1 hm1 (s1.nd i).asked [] s1 inv1 (hrb.tr tr1) (by rw [hask]; exact b1) (fun _ h => by cases h)
          generalize hq : askAll (askM itoaB E f) (s1.nd i).asked s1 = q at c1 c2 c3 c4 c5 ⊢
          obtain ⟨b, s2⟩ := q
          simp only at c1 c2 c3 c4 c5 ⊢
          have hnd2 : s2.nd i = s1.nd i := c2.keepB i (List.mem_cons_self ..)
          have hrun1 : s1.runs = s.runs := by rw [← hs1]; rfl
          have tr2 : Tr itoaB E B s s2 := tr1.trans (c2.less fun b hb => List.mem_cons_of_mem _ hb)
          -- what was known to hold asks for nothing new
          have hvdone : HV itoaB E s i → ∀ x ∈ (s1.nd i).asked, Done itoaB E s1 (i :: B) x.1 := by
            intro hh x hx
            cases hfx : findR E x.1 with
            | none => exact .inp hfx
            | some j =>
              cases hh with
              | mk _ _ _ _ _ ha => exact .hv hfx (tr1.hv (ha x (by rw [hask] at hx; exact hx) j hfx))
          cases b with
          | true =>
            simp only [if_true]
            obtain ⟨d1, d2⟩ := c3 rfl
            rw [hask] at d1 d2
            have hce := way_val (hE i hlt) b1 d1 b2
            rw [hname] at hce
            rw [St.put_same, put_put]
            simp only
            have hnc2 : ¬ Cur s2 i := c1.nb i (List.mem_cons_self ..)
            have hhv2 : HV itoaB E s2 i → True := fun _ => trivial
            generalize hs3 : s2.put i { ran := (s2.nd i).ran, busy := false, kept := (s2.nd i).kept, sets := s2.sets, asked := (s2.nd i).asked, came := (s2.nd i).came } = s3
            have hci : Cur s3 i := by
              unfold Cur
              rw [← hs3, St.put_same]
              exact ⟨by simp only; rw [hnd2]; exact hk, rfl⟩
            have tr3 : Tr itoaB E B s2 s3 := by
              rw [← hs3]
              exact put_tr hiB (fun _ => ⟨rfl, rfl, rfl⟩) (fun h => absurd h hnc2) (fun _ h => h)
            have inv3 : InvS itoaB E s3 B := by
              refine end_inv c1 hiB (x := { ran := (s2.nd i).ran, busy := false, kept := (s2.nd i).kept, sets := s2.sets, asked := (s2.nd i).asked, came := (s2.nd i).came }) rfl (fun _ => ?_) (fun _ _ => ?_) s3 (by rw [← hs3]; rfl) (by rw [← hs3])
              · simp only; rw [hnd2, hnd1]; exact ⟨b1, b2, b3⟩
              · simp only
                rw [hnd2, hask]
                refine ⟨d1, fun y hy j hj => d2 y hy j hj ?_⟩
                have hf' := (b1.path d1).fine b2 b3
                have := hf' y.2 (List.mem_map.2 ⟨y, hy, rfl⟩)
                rwa [d1 y hy] at this
            have hcame : (s2.nd i).came = Vw itoaB E a := by rw [hnd2, hnd1]; exact hce
            refine ⟨hcame, inv3, tr2.trans tr3, fun j hj _ => by rw [hf] at hj; injection hj with hj; exact hj ▸ hci, .hv hf (cur_hv hE inv3 hlt hci), fun hd => ?_⟩
            have hr3 : s3.runs = s2.runs := by rw [← hs3]; rfl
            have hhv : HV itoaB E s i := by
              cases hd with
              | inp h => rw [hf] at h; cases h
              | busy h hb => rw [hf] at h; injection h with h; exact absurd (h ▸ hb) hiB
              | hv h hh => rw [hf] at h; injection h with h; exact h ▸ hh
              | cyc h h8' hkk _ => rw [hf] at h; injection h with h; subst h; rw [hk0] at hkk; cases hkk
            rw [hr3, ← hrun1]
            exact c5 (fun x hx _ => hvdone hhv x hx) (by rw [hask]; exact d1)
          | false =>
            simp only [Bool.false_eq_true, if_false]
            have hnv := c4 rfl
            rw [hask] at hnv
            refine work s2 c1 tr2 (fun h => ?_) (fun hd => ?_) (fun h8 hd => ?_)
            · cases h with
              | mk _ _ _ _ hv _ => rw [hnd2, hask] at hv; exact hnv hv
            · exfalso
              cases hd with
              | inp h => rw [hf] at h; cases h
              | busy h hb => rw [hf] at h; injection h with h; exact hiB (h ▸ hb)
              | hv h hh => rw [hf] at h; injection h with h; subst h; cases hh with | mk _ _ _ _ hv _ => exact hnv hv
              | cyc h _ hkk _ => rw [hf] at h; injection h with h; subst h; rw [hk0] at hkk; cases hkk
            · cases hd with
              | inp h => rw [hf] at h; cases h
              | busy h hb => rw [hf] at h; injection h with h; exact hiB (h ▸ hb)
              | hv h hh => rw [hf] at h; injection h with h; subst h; cases hh with | mk _ _ _ _ hv _ => exact hnv hv
              | cyc h h8' _ _ => exact h8 h8'
end Go.Proofs.YtjcaeoacgoklmaaDoor
