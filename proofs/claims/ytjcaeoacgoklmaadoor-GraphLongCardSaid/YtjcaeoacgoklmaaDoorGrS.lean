import Derived.Test.YtjcaeoacgoklmaaDoorGrR
namespace Go.Proofs.YtjcaeoacgoklmaaDoor
open Go.RowKit
theorem ask1_any (pb d : Nat) (v : Value) (u : FrameMode) (w : World) (hc : w.cell? ⟨pb, 0, none⟩ = some (.pointer (some ⟨d, 0, none⟩))) (h5 : w.cell? ⟨d, 5, none⟩ = some v) (hz : w.frozen? ⟨d, 5, none⟩ = false) :
    CallsD Tryd.prog 20 #[.pointer (some ⟨pb, 0, none⟩)] u w fun e u' w' => u' = u ∧ (e = .returned (.tuple #[]) ∧ w' = w.setCell ⟨d, 5, none⟩ (.bool false)) := by
  go_enter_d Tryd.func20, Tryd.ntmps20
  go_wp2
  go_end0
  exact ⟨rfl, rfl⟩
theorem nil_eql (p : Option Addr) (w : World) : (binOp .eql 49 (.pointer p) (.pointer none)).run Tryd.prog w = .ok (.bool p.isNone) w := by
  cases p <;> kernel_rfl
set_option maxRecDepth 100000 in
set_option maxHeartbeats 8000000 in
theorem ask_none {f : Nat} {L : Lay} {E : Env} {s : St} {av : Nat → Value} {B : List Nat} {W : World} {a : ByteArray} (h : Pre L E s av B f W) (ha : a.size ≤ 1000000000000000) (hf : findR E a = none) :
    Calls Tryd.prog 18 #[.pointer (some ⟨L.G, 0, none⟩), .string a] W (OutPost L E (fun k => k ∈ B) av W (inOut E a) s) := by
  have ham : a.size ≤ maxLen := Nat.le_trans ha (by decide)
  have hb1 : Below W.heap.size W (W.alloc (.cells #[.string ⟨#[]⟩, .int .i64 0] 53)) := (Below.refl _ _).alloc (Nat.le_refl _) _
  have lo := (h.mem.nm.later hb1).look1 a ham
  rw [hf] at lo
  have lo : (Instr.lookup 45 (.map (some L.M)) (.string a) false).run Tryd.prog (W.alloc (.cells #[.string ⟨#[]⟩, .int .i64 0] 53)) = .ok (.pointer none) (W.alloc (.cells #[.string ⟨#[]⟩, .int .i64 0] 53)) := lo
  have g0 : (W.alloc (.cells #[.string ⟨#[]⟩, .int .i64 0] 53)).cell? ⟨L.G, 0, none⟩ = some (.map (some L.M)) := cell_alloc_of _ (h.mem.cellG 0)
  have g1 : ∀ o, ((W.alloc (.cells #[.string ⟨#[]⟩, .int .i64 0] 53)).alloc o).cell? ⟨L.G, 1, none⟩ = some (.map L.I) := fun o => cell_alloc_of _ (cell_alloc_of _ (h.mem.cellG 1))
  have hb2 : ∀ o, Below W.heap.size W ((W.alloc (.cells #[.string ⟨#[]⟩, .int .i64 0] 53)).alloc o) := fun o => hb1.alloc (by simp) o
  have l2 : ∀ o, (Instr.lookup 46 (.map L.I) (.string a) true).run Tryd.prog ((W.alloc (.cells #[.string ⟨#[]⟩, .int .i64 0] 53)).alloc o) = .ok (.tuple #[.agg #[.string ((E.inp a).getD noneB), .int .i64 0], .bool (E.inp a).isSome]) ((W.alloc (.cells #[.string ⟨#[]⟩, .int .i64 0] 53)).alloc o) := fun o => by
    have hi := h.mem.im
    cases hI : L.I with
    | none =>
      rw [hI] at hi
      have := outMK.nil2 ((W.alloc (.cells #[.string ⟨#[]⟩, .int .i64 0] 53)).alloc o) a
      rw [hi a]
      exact this
    | some b =>
      rw [hI] at hi
      have := (hi.later (hb2 o)).look2 a ham
      cases hx : E.inp a with
      | none => rw [hx] at this; exact this
      | some t => rw [hx] at this; exact this
  have nq := nil_eql none
  have HP := Lib.hid h
  have hO : inOut E a = ⟨(E.inp a).getD noneB, if (E.inp a).isSome then 0 else 3⟩ := by
    unfold inOut
    cases E.inp a <;> rfl
  rw [hO]
  generalize hT : (E.inp a).getD noneB = t at l2 ⊢
  clear h hb1 hb2 hf hO ham
  cases hs : (E.inp a).isSome with
  | true =>
    rw [hs] at l2
    clear hs hT
    go_enter_defers Tryd.func18, Tryd.ntmps18
    go_wp2_with fail
    have hb := (((Below.refl W.heap.size W).alloc (Nat.le_refl _) (.cells #[.string t, .int .i64 0] 53)).alloc (by simp) (.cells #[.pointer none] 49)).alloc (by simp; omega) (.cells #[.string t, .int .i64 0] 53)
    exact ⟨.agg #[.string t, .int .i64 0], by simp [results, Tryd.results18, go_sem], av, rfl, HP.out.mem.later hb, FK.below hb, fun _ _ => rfl⟩
  | false =>
    rw [hs] at l2
    have ht : t = noneB := by
      cases hx : E.inp a with
      | none => rw [hx] at hT; exact hT.symm
      | some x => rw [hx] at hs; cases hs
    subst ht
    clear hs hT
    go_enter_defers Tryd.func18, Tryd.ntmps18
    go_wp2_with fail
    have hb := (((Below.refl W.heap.size W).alloc (Nat.le_refl _) (.cells #[.string ⟨#[]⟩, .int .i64 3] 53)).alloc (by simp) (.cells #[.pointer none] 49)).alloc (by simp; omega) (.cells #[.string noneB, .int .i64 0] 53)
    exact ⟨.agg #[.string ⟨#[]⟩, .int .i64 3], by simp [results, Tryd.results18, go_sem], av, rfl, HP.out.mem.later hb, FK.below hb, fun _ _ => rfl⟩
theorem keep_box {L : Lay} {E : Env} {av av' : Nat → Value} {W W' : World} {o : Obj} {b : Nat} (hf : FK L E.rules.length av av' W W') (h1 : W.heap[b]? = some o) (h2 : ¬ Foot L E.rules.length av b) (h3 : ¬ Stat L E b) : W'.heap[b]? = some o ∧ ¬ Foot L E.rules.length av' b ∧ ¬ Stat L E b :=
  ⟨(hf.block b (blk_lt h1) h2).1.trans h1, (hf.block b (blk_lt h1) h2).2, h3⟩
theorem ask_end {L : Lay} {E : Env} {s : St} {av0 av : Nat → Value} {W X : World} {i b4 b5 : Nat} {o4 : Value × Value} (hi : i < E.rules.length) (hM : Mem L E s av X) (hF : FK L E.rules.length av0 av W X) (h4 : W.heap.size ≤ b4)
    (hb5 : X.heap[b5]? = some (.cells #[.pointer (some ⟨L.nb i, 0, none⟩)] 49)) (_hn5 : ¬ Foot L E.rules.length av b5)
    (hb4 : X.heap[b4]? = some (.cells #[o4.1, o4.2] 53)) (hn4 : ¬ Foot L E.rules.length av b4) (hs4 : ¬ Stat L E b4) (hne : b4 ≠ b5) (t : ByteArray) (e : Int) :
    ((X.setCell ⟨b4, 0, none⟩ (.string t)).setCell ⟨b4, 1, none⟩ (.int .i64 e)).cell? ⟨b5, 0, none⟩ = some (.pointer (some ⟨L.nb i, 0, none⟩)) ∧
    ((X.setCell ⟨b4, 0, none⟩ (.string t)).setCell ⟨b4, 1, none⟩ (.int .i64 e)).cell? ⟨L.nb i, 5, none⟩ = some (.bool (s.nd i).busy) ∧
    ((X.setCell ⟨b4, 0, none⟩ (.string t)).setCell ⟨b4, 1, none⟩ (.int .i64 e)).frozen? ⟨L.nb i, 5, none⟩ = false ∧
    (((X.setCell ⟨b4, 0, none⟩ (.string t)).setCell ⟨b4, 1, none⟩ (.int .i64 e)).setCell ⟨L.nb i, 5, none⟩ (.bool false)).cell? ⟨b4, 0, none⟩ = some (.string t) ∧
    (((X.setCell ⟨b4, 0, none⟩ (.string t)).setCell ⟨b4, 1, none⟩ (.int .i64 e)).setCell ⟨L.nb i, 5, none⟩ (.bool false)).cell? ⟨b4, 1, none⟩ = some (.int .i64 e) ∧
    MF L E av0 W (s.put i { s.nd i with busy := false }) av (((X.setCell ⟨b4, 0, none⟩ (.string t)).setCell ⟨b4, 1, none⟩ (.int .i64 e)).setCell ⟨L.nb i, 5, none⟩ (.bool false)) := by
  have hM1 := hM.box (p := ⟨b4, 0, none⟩) hn4 hs4 (.string t)
  have hM2 := hM1.box (p := ⟨b4, 1, none⟩) hn4 hs4 (.int .i64 e)
  have hF2 := (hF.box (p := ⟨b4, 0, none⟩) h4 (.string t)).box (p := ⟨b4, 1, none⟩) h4 (.int .i64 e)
  have c0 : X.cell? ⟨b4, 0, none⟩ = some o4.1 := Lib.cell_of_heap hb4 0
  have c1 : X.cell? ⟨b4, 1, none⟩ = some o4.2 := Lib.cell_of_heap hb4 1
  obtain ⟨t0, t1⟩ := two_set c0 c1 (.string t) (.int .i64 e)
  have hnn : b4 ≠ L.nb i := fun e2 => hn4 (.inr ⟨i, hi, .inl e2⟩)
  obtain ⟨u0, u1⟩ := after_set t0 t1 hnn (o := 5) (.bool false)
  refine ⟨?_, hM2.cell hi 5, hM2.free hi 5, u0, u1, (MF.mk hM2 hF2).f5 hi false⟩
  have x0 : X.cell? ⟨b5, 0, none⟩ = some (.pointer (some ⟨L.nb i, 0, none⟩)) := Lib.cell_of_heap hb5 0
  rw [World.cell?_of_block (w := X) (a := ⟨b5, 0, none⟩) (by rw [set_else _ hne.symm, set_else _ hne.symm])]
  exact x0
set_option maxRecDepth 100000 in
set_option maxHeartbeats 8000000 in
theorem ask_some {f : Nat} (hA : AskC f) {L : Lay} {E : Env} {s : St} {av : Nat → Value} {B : List Nat} {W : World} {a : ByteArray} (h : Pre L E s av B (f + 1) W) (ha : a.size ≤ 1000000000000000) {i : Nat} (hf : findR E a = some i) (o : Out) (s9 : St) (hq : askM itoaG E (f + 1) s a = (o, s9)) :
    Calls Tryd.prog 18 #[.pointer (some ⟨L.G, 0, none⟩), .string a] W (OutPost L E (fun k => k ∈ B) av W o s9) := by
  have ham : a.size ≤ maxLen := Nat.le_trans ha (by decide)
  have hi := findR_lt hf
  have hb1 : Below W.heap.size W (W.alloc (.cells #[.string ⟨#[]⟩, .int .i64 0] 53)) := (Below.refl _ _).alloc (Nat.le_refl _) _
  have lo := (h.mem.nm.later hb1).look1 a ham
  rw [hf] at lo
  have lo : (Instr.lookup 45 (.map (some L.M)) (.string a) false).run Tryd.prog (W.alloc (.cells #[.string ⟨#[]⟩, .int .i64 0] 53)) = .ok (.pointer (some ⟨L.nb i, 0, none⟩)) (W.alloc (.cells #[.string ⟨#[]⟩, .int .i64 0] 53)) := lo
  have g0 : (W.alloc (.cells #[.string ⟨#[]⟩, .int .i64 0] 53)).cell? ⟨L.G, 0, none⟩ = some (.map (some L.M)) := cell_alloc_of _ (h.mem.cellG 0)
  have c5 : ∀ o, ((W.alloc (.cells #[.string ⟨#[]⟩, .int .i64 0] 53)).alloc o).cell? ⟨L.nb i, 5, none⟩ = some (.bool (s.nd i).busy) := fun o => cell_alloc_of _ (cell_alloc_of _ (h.mem.cell hi 5))
  have nq := nil_eql (some ⟨L.nb i, 0, none⟩)
  have HP := Lib.hid h
  by_cases hb : (s.nd i).busy = true
  · rw [askM_busy itoaG hf hb] at hq
    injection hq with e1 e2
    subst e1 e2
    rw [hb] at c5
    clear h hb1 hf ham hb
    go_enter_defers Tryd.func18, Tryd.ntmps18
    go_wp2_with fail
    have hb := ((Below.refl W.heap.size W).alloc (Nat.le_refl _) (.cells #[.string ⟨#[]⟩, .int .i64 8] 53)).alloc (by simp) (.cells #[.pointer (some ⟨L.nb i, 0, none⟩)] 49)
    exact ⟨.agg #[.string ⟨#[]⟩, .int .i64 8], by simp [results, Tryd.results18, go_sem], av, rfl, HP.out.mem.later hb, FK.below hb, fun _ _ => rfl⟩
  have hb : (s.nd i).busy = false := by simpa using hb
  rw [askM_free itoaG hf hb] at hq
  rw [hb] at c5
  have hiB : i ∉ B := fun hB => by rw [(h.busy i).2 hB] at hb; cases hb
  have hmf : ∀ (fn : Fn) (first cap : Array Value) (w : World), (Instr.makeFunc fn first cap).run Tryd.prog w = .ok (.func fn first cap) w := fun _ _ _ _ => rfl
  have z5 : ∀ o, ((W.alloc (.cells #[.string ⟨#[]⟩, .int .i64 0] 53)).alloc o).frozen? ⟨L.nb i, 5, none⟩ = false := fun o => (h.mem.later (hb1.alloc (by simp) o)).free hi 5
  have hb2 := hb1.alloc (by simp) (.cells #[.pointer (some ⟨L.nb i, 0, none⟩)] 49)
  have hM2 := (MF.mk (h.mem.later hb2) (FK.refl _ _ _ _)).f5 hi true
  have hp2 : Pre L E (s.put i { s.nd i with busy := true }) av (i :: B) f _ := ⟨hM2.mem, hyg_put h.hyg i ⟨(h.hyg i).came, (h.hyg i).out, (h.hyg i).name, (h.hyg i).len⟩, h.ok, fun k => by
    by_cases e : k = i
    · subst e; rw [St.put_same]; simp
    · rw [St.put_other _ _ e, h.busy k]; simp [e], ⟨List.nodup_cons.2 ⟨hiB, h.okk.nodup⟩, fun b hb => by
    rcases List.mem_cons.1 hb with rfl | hb
    · exact hi
    · exact h.okk.lt b hb⟩, by have := h.fuel; simp; omega⟩
  unfold askI at hq
  have hbs : ((s.put i { s.nd i with busy := true }).nd i).busy = true := by rw [St.put_same]
  have hph := pres_holds (pres_ask (itoaB := itoaG) itoaG_size h.ok f) i _ hp2.hyg hbs
  obtain ⟨q, hqh⟩ : ∃ q, holdsM (askM itoaG E f) i (s.put i { s.nd i with busy := true }) = q := ⟨_, rfl⟩
  obtain ⟨b, s2⟩ := q
  rw [hqh] at hph
  simp only [hqh] at hq
  have KH := Lib.hid (holds_any hA hp2 hi hbs b s2 hqh)
  have HF2 := Lib.hid hM2.fk
  have HP2 := Lib.hid hp2
  have HPh := Lib.hid hph
  have HQ := Lib.hid hq
  clear h hb1 hf ham hb hb2 hM2 hp2 hq hqh hph
  go_enter_defers Tryd.func18, Tryd.ntmps18
  go_wp2_with fail
  refine KH.out.mono ?_
  rintro e W3 ⟨av3, rfl, hM3, hF3, hz3⟩
  have HFa := Lib.hid (HF2.out.trans hF3)
  clear hF3
  have HM3 := Lib.hid hM3
  have HZ3 := Lib.hid hz3
  clear hM3 hz3
  have hX5 := res_box (HP.out.mem.later ((Below.refl _ _).alloc (Nat.le_refl _) (.cells #[.string ⟨#[]⟩, .int .i64 0] 53))) HFa.out
  have HFw := Lib.hid ((FK.below ((Below.refl _ _).alloc (Nat.le_refl _) (.cells #[.pointer (some ⟨L.nb i, 0, none⟩)] 49))).trans HFa.out)
  have hX4 := res_box HP.out.mem HFw.out
  rw [World.size_alloc] at hX5
  have HX5 := Lib.hid hX5
  have HX4 := Lib.hid hX4
  have HFw := Lib.hid ((FK.below ((Below.refl _ _).alloc (Nat.le_refl _) (.cells #[.string ⟨#[]⟩, .int .i64 0] 53))).trans HFw.out)
  clear hX5 hX4
  have b5 : W3.cell? ⟨W.heap.size + 1, 0, none⟩ = some (.pointer (some ⟨L.nb i, 0, none⟩)) := Lib.cell_of_heap HX5.out.1 0
  cases b with
  | true =>
    have p4 : W3.cell? ⟨W.heap.size, 0, none⟩ = some (.string ⟨#[]⟩) := Lib.cell_of_heap HX4.out.1 0
    have p41 : W3.cell? ⟨W.heap.size, 1, none⟩ = some (.int .i64 0) := Lib.cell_of_heap HX4.out.1 1
    have z4 := Lib.frozen_of_heap HX4.out.1
    have n9 : W3.cell? ⟨L.nb i, 9, none⟩ = some (.string (s2.nd i).came.t) := HM3.out.cell hi 9
    have n10 : W3.cell? ⟨L.nb i, 10, none⟩ = some (.int .i64 (s2.nd i).came.e) := HM3.out.cell hi 10
    have HEnd := Lib.hid (ask_end (o4 := (.string ⟨#[]⟩, .int .i64 0)) hi HM3.out HFw.out (Nat.le_refl _) HX5.out.1 HX5.out.2.1 HX4.out.1 HX4.out.2.1 HX4.out.2.2 (by omega) (s2.nd i).came.t (s2.nd i).came.e)
    go_wp2_with fail
    obtain ⟨e5, n5, z5, r0, r1, hMF⟩ := HEnd.out
    refine leaves_cons (f := 20) (args := #[.pointer (some ⟨W.heap.size + 1, 0, none⟩)]) (by simp) (by simp [go_sem]) ?_
    refine (ask1_any (W.heap.size + 1) (L.nb i) _ .returning _ e5 n5 z5).mono ?_
    rintro e u' w'' ⟨rfl, rfl, rfl⟩
    have hq := HQ.out
    simp only [if_true, Prod.mk.injEq] at hq
    obtain ⟨e1, e2⟩ := hq
    rw [← e1, ← e2]
    exact ⟨.agg #[.string (s2.nd i).came.t, .int .i64 (s2.nd i).came.e], by simp [results, Tryd.results18, go_sem, r0, r1], av3, rfl, hMF.mem, hMF.fk, fun k hk => HZ3.out k (List.mem_cons_of_mem _ hk)⟩
  | false =>
    have hpr : Pre L E s2 av3 (i :: B) f W3 := ⟨HM3.out, HPh.out.1, HP.out.ok, fun k => by rw [HPh.out.2.2.2 k]; exact HP2.out.busy k, HP2.out.okk, HP2.out.fuel⟩
    have hb2 : (s2.nd i).busy = true := (HPh.out.2.2.2 i).trans hbs
    have KW := Lib.hid (work_any hA hpr hi hb2)
    clear hpr hb2
    generalize hs3 : workM itoaG (askM itoaG E f) (ruleN E i) i s2 = s3 at KW HQ
    clear hs3
    go_wp2_with fail
    refine KW.out.mono ?_
    rintro e W4 ⟨av4, rfl, hM4, hF4, hz4⟩
    have HX5' := Lib.hid (keep_box hF4 HX5.out.1 HX5.out.2.1 HX5.out.2.2)
    have HX4' := Lib.hid (keep_box hF4 HX4.out.1 HX4.out.2.1 HX4.out.2.2)
    have HFz := Lib.hid (HFw.out.trans hF4)
    have HM4 := Lib.hid hM4
    have HZ4 := Lib.hid hz4
    clear hM4 hF4 hz4 b5
    have b5 : W4.cell? ⟨W.heap.size + 1, 0, none⟩ = some (.pointer (some ⟨L.nb i, 0, none⟩)) := Lib.cell_of_heap HX5'.out.1 0
    have p4 : W4.cell? ⟨W.heap.size, 0, none⟩ = some (.string ⟨#[]⟩) := Lib.cell_of_heap HX4'.out.1 0
    have p41 : W4.cell? ⟨W.heap.size, 1, none⟩ = some (.int .i64 0) := Lib.cell_of_heap HX4'.out.1 1
    have z4 := Lib.frozen_of_heap HX4'.out.1
    have n9 : W4.cell? ⟨L.nb i, 9, none⟩ = some (.string (s3.nd i).came.t) := HM4.out.cell hi 9
    have n10 : W4.cell? ⟨L.nb i, 10, none⟩ = some (.int .i64 (s3.nd i).came.e) := HM4.out.cell hi 10
    have HEnd := Lib.hid (ask_end (o4 := (.string ⟨#[]⟩, .int .i64 0)) hi HM4.out HFz.out (Nat.le_refl _) HX5'.out.1 HX5'.out.2.1 HX4'.out.1 HX4'.out.2.1 HX4'.out.2.2 (by omega) (s3.nd i).came.t (s3.nd i).came.e)
    go_wp2_with fail
    obtain ⟨e5, n5, z5, r0, r1, hMF⟩ := HEnd.out
    refine leaves_cons (f := 20) (args := #[.pointer (some ⟨W.heap.size + 1, 0, none⟩)]) (by simp) (by simp [go_sem]) ?_
    refine (ask1_any (W.heap.size + 1) (L.nb i) _ .returning _ e5 n5 z5).mono ?_
    rintro e u' w'' ⟨rfl, rfl, rfl⟩
    have hq := HQ.out
    simp only [Bool.false_eq_true, if_false, Prod.mk.injEq] at hq
    obtain ⟨e1, e2⟩ := hq
    rw [← e1, ← e2]
    exact ⟨.agg #[.string (s3.nd i).came.t, .int .i64 (s3.nd i).came.e], by simp [results, Tryd.results18, go_sem, r0, r1], av4, rfl, hMF.mem, hMF.fk, fun k hk => (HZ4.out k ⟨List.mem_cons_of_mem _ hk, fun e => hiB (e ▸ hk)⟩).trans (HZ3.out k (List.mem_cons_of_mem _ hk))⟩
theorem ask_any : ∀ f, AskC f
  | 0 => ⟨fun L E s av B W a h ha => absurd (nodup_len E.rules.length B h.okk.nodup h.okk.lt) (by have := h.fuel; omega)⟩
  | f + 1 => ⟨fun L E s av B W a h ha => by
    cases hf : findR E a with
    | none =>
      rw [askM_none itoaG hf]
      exact ask_none h ha hf
    | some i => exact ask_some (ask_any f) h ha hf _ _ rfl⟩
end Go.Proofs.YtjcaeoacgoklmaaDoor
