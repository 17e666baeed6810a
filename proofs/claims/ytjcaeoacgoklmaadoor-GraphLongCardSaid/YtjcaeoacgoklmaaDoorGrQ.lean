import Derived.Test.YtjcaeoacgoklmaaDoorGrP
namespace Go.Proofs.YtjcaeoacgoklmaaDoor
open Go.RowKit
/-- A field of a node is stored. -/
theorem Mem.store {L : Lay} {E : Env} {s : St} {av : Nat → Value} {W : World} (h : Mem L E s av W) {i : Nat} (hi : i < E.rules.length) (o : Nat) (u : Value) (x : Nd) (v : Value)
    (hc : (ndCells (ruleN E i) (L.rA i) (L.rC i) (s.nd i) (av i)).setIfInBounds o u = ndCells (ruleN E i) (L.rA i) (L.rC i) x v) (hx : x.asked = (s.nd i).asked ∧ v = av i ∨ x.asked = [] ∧ v = .slice none 0 0) :
    Mem L E (s.put i x) (fun j => if j = i then v else av j) (W.setCell ⟨L.nb i, o, none⟩ u) ∧ FK L E.rules.length av (fun j => if j = i then v else av j) W (W.setCell ⟨L.nb i, o, none⟩ u) := by
  have hk : ∀ k, k < W.heap.size → k ≠ L.nb i → (av i).ownBlock ≠ some k → (W.setCell ⟨L.nb i, o, none⟩ u).heap[k]? = W.heap[k]? := fun k _ h2 _ => set_else u h2
  have hv : ∀ k, v.ownBlock = some k → (av i).ownBlock = some k ∨ W.heap.size ≤ k := fun k hk => by
    rcases hx with ⟨_, rfl⟩ | ⟨_, rfl⟩
    · exact .inl hk
    · simp [Value.ownBlock] at hk
  have hr : (W.setCell ⟨L.nb i, o, none⟩ u).ownsRow 0 74 3 v x.asked.length (askedCells x.asked) := by
    rcases hx with ⟨e1, e2⟩ | ⟨e1, e2⟩
    · rw [e1, e2]
      exact (h.row i hi).kept (row := some (L.nb i)) ⟨rfl, rfl, rfl, by rw [set_size]; exact Nat.le_refl _, fun k _ hk => set_else u (fun e => hk (by rw [e]))⟩ (Or.inr (fun e => ((h.ag i _ hi e).2 i hi).1 rfl))
    · rw [e1, e2]
      exact World.ownsRow_nil _ _ _ _
  exact ⟨h.upd hi (by rw [set_block (h.nd i hi), hc]) hk hr hv (by rw [set_size]; exact Nat.le_refl _), h.updFK hi hk hv (by rw [set_size]; exact Nat.le_refl _) rfl rfl rfl⟩
/-- The graph's counters are stored. -/
theorem Mem.storeG {L : Lay} {E : Env} {s : St} {av : Nat → Value} {W : World} (h : Mem L E s av W) (o : Nat) (u : Value) (s' : St) (hn : s'.nd = s.nd)
    (hc : (#[.map (some L.M), .map L.I, .int .i64 s.sets, .int .i64 s.runs] : Array Value).setIfInBounds o u = #[.map (some L.M), .map L.I, .int .i64 s'.sets, .int .i64 s'.runs]) :
    Mem L E s' av (W.setCell ⟨L.G, o, none⟩ u) ∧ FK L E.rules.length av av W (W.setCell ⟨L.G, o, none⟩ u) :=
  ⟨h.updG hn (by rw [set_block h.g, hc]) (fun k hk => set_else u hk) (set_size _ _ _), ⟨rfl, rfl, rfl, by rw [set_size]; exact Nat.le_refl _, fun k _ hf => ⟨set_else u (fun e => hf (e ▸ .inl rfl)), hf⟩⟩⟩
def WorkPost (L : Lay) (E : Env) (Z : Nat → Prop) (av : Nat → Value) (W : World) (s' : St) : Ending → World → Prop := fun e W' => ∃ av', e = .returned (.tuple #[]) ∧ Mem L E s' av' W' ∧ FK L E.rules.length av av' W W' ∧ ∀ k, Z k → av' k = av k
theorem av_same {av : Nat → Value} {i : Nat} : (fun j => if j = i then av i else av j) = av := by
  funext j
  split
  · rename_i e; rw [e]
  · rfl
theorem w64_eq (n : Int) : w64 n = wrap64 n := by
  unfold w64 wrap64
  exact IntKind.wrap_i64 n
/-- A state of the graph, and what was left alone since. -/
structure MF (L : Lay) (E : Env) (av0 : Nat → Value) (W0 : World) (s : St) (av : Nat → Value) (W : World) : Prop where
  mem : Mem L E s av W
  fk : FK L E.rules.length av0 av W0 W
section
variable {L : Lay} {E : Env} {av0 : Nat → Value} {W0 : World} {s : St} {av : Nat → Value} {W : World}
theorem MF.st (h : MF L E av0 W0 s av W) {i : Nat} (hi : i < E.rules.length) (o : Nat) (u : Value) (x : Nd) (hc : (ndCells (ruleN E i) (L.rA i) (L.rC i) (s.nd i) (av i)).setIfInBounds o u = ndCells (ruleN E i) (L.rA i) (L.rC i) x (av i)) (hx : x.asked = (s.nd i).asked) : MF L E av0 W0 (s.put i x) av (W.setCell ⟨L.nb i, o, none⟩ u) := by
  obtain ⟨h1, h2⟩ := h.mem.store hi o u x (av i) hc (.inl ⟨hx, rfl⟩)
  rw [av_same] at h1 h2
  exact ⟨h1, h.fk.trans h2⟩
theorem MF.f9 (h : MF L E av0 W0 s av W) {i : Nat} (hi : i < E.rules.length) (t : ByteArray) : MF L E av0 W0 (s.put i { s.nd i with came := ⟨t, (s.nd i).came.e⟩ }) av (W.setCell ⟨L.nb i, 9, none⟩ (.string t)) := h.st hi 9 _ _ rfl rfl
theorem MF.f10 (h : MF L E av0 W0 s av W) {i : Nat} (hi : i < E.rules.length) (e : Int) : MF L E av0 W0 (s.put i { s.nd i with came := ⟨(s.nd i).came.t, e⟩ }) av (W.setCell ⟨L.nb i, 10, none⟩ (.int .i64 e)) := h.st hi 10 _ _ rfl rfl
theorem MF.f6 (h : MF L E av0 W0 s av W) {i : Nat} (hi : i < E.rules.length) (b : Bool) : MF L E av0 W0 (s.put i { s.nd i with kept := b }) av (W.setCell ⟨L.nb i, 6, none⟩ (.bool b)) := h.st hi 6 _ _ rfl rfl
theorem MF.f5 (h : MF L E av0 W0 s av W) {i : Nat} (hi : i < E.rules.length) (b : Bool) : MF L E av0 W0 (s.put i { s.nd i with busy := b }) av (W.setCell ⟨L.nb i, 5, none⟩ (.bool b)) := h.st hi 5 _ _ rfl rfl
theorem MF.f7 (h : MF L E av0 W0 s av W) {i : Nat} (hi : i < E.rules.length) (z : Int) : MF L E av0 W0 (s.put i { s.nd i with sets := z }) av (W.setCell ⟨L.nb i, 7, none⟩ (.int .i64 z)) := h.st hi 7 _ _ rfl rfl
theorem MF.f4 (h : MF L E av0 W0 s av W) {i : Nat} (hi : i < E.rules.length) (z : Int) : MF L E av0 W0 (s.put i { s.nd i with ran := z }) av (W.setCell ⟨L.nb i, 4, none⟩ (.int .i64 z)) := h.st hi 4 _ _ rfl rfl
theorem MF.f8 (h : MF L E av0 W0 s av W) {i : Nat} (hi : i < E.rules.length) : MF L E av0 W0 (s.put i { s.nd i with asked := [] }) (fun j => if j = i then .slice none 0 0 else av j) (W.setCell ⟨L.nb i, 8, none⟩ (.slice none 0 0)) := by
  obtain ⟨h1, h2⟩ := h.mem.store hi 8 (.slice none 0 0) { s.nd i with asked := [] } (.slice none 0 0) rfl (.inr ⟨rfl, rfl⟩)
  exact ⟨h1, h.fk.trans h2⟩
theorem MF.g3 (h : MF L E av0 W0 s av W) (z : Int) : MF L E av0 W0 { s with runs := z } av (W.setCell ⟨L.G, 3, none⟩ (.int .i64 z)) := by
  obtain ⟨h1, h2⟩ := h.mem.storeG 3 (.int .i64 z) { s with runs := z } rfl rfl
  exact ⟨h1, h.fk.trans h2⟩
theorem MF.g2 (h : MF L E av0 W0 s av W) (z : Int) : MF L E av0 W0 { s with sets := z } av (W.setCell ⟨L.G, 2, none⟩ (.int .i64 z)) := by
  obtain ⟨h1, h2⟩ := h.mem.storeG 2 (.int .i64 z) { s with sets := z } rfl rfl
  exact ⟨h1, h.fk.trans h2⟩
end
set_option maxRecDepth 100000 in
set_option maxHeartbeats 8000000 in
theorem work_any {f : Nat} (hA : AskC f) {L : Lay} {E : Env} {s : St} {av : Nat → Value} {B : List Nat} {W : World} (h : Pre L E s av B f W) {i : Nat} (hi : i < E.rules.length) (hb : (s.nd i).busy = true) :
    Calls Tryd.prog 22 #[.pointer (some ⟨L.G, 0, none⟩), .pointer (some ⟨L.nb i, 0, none⟩)] W (WorkPost L E (fun k => k ∈ B ∧ k ≠ i) av W (workM itoaG (askM itoaG E f) (ruleN E i) i s)) := by
  have c8 : W.cell? ⟨L.nb i, 8, none⟩ = some (av i) := h.mem.cell hi 8
  have z8 := h.mem.free hi 8
  obtain ⟨hM1, hF1⟩ := h.mem.store hi 8 (.slice none 0 0) { s.nd i with asked := [] } (.slice none 0 0) rfl (.inr ⟨rfl, rfl⟩)
  have hp1 : Pre L E (s.put i { s.nd i with asked := [] }) _ B f _ := ⟨hM1, hyg_put h.hyg i ⟨(h.hyg i).came, fun _ hy => (by cases hy), fun _ hy => (by cases hy), by simp⟩, h.ok, fun k => by
    by_cases e : k = i
    · subst e; rw [St.put_same]; exact h.busy k
    · rw [St.put_other _ _ e]; exact h.busy k, h.okk, h.fuel⟩
  obtain ⟨q, hq⟩ : ∃ q, comeM itoaG (askM itoaG E f) (ruleN E i) i (steps (ruleN E i)) [] (s.put i { s.nd i with asked := [] }) = q := ⟨_, rfl⟩
  obtain ⟨o, s4⟩ := q
  have KC := Lib.hid (come_any hA hp1 hi (by rw [St.put_same]; exact hb) (by rw [St.put_same]) o s4 hq)
  have hw : workM itoaG (askM itoaG E f) (ruleN E i) i s = if o.e = 8 then s4.put i { s4.nd i with came := o, kept := false, asked := [] } else { s4.put i { s4.nd i with came := o, kept := true, sets := s4.sets, ran := w64 ((s4.nd i).ran + 1) } with runs := w64 (s4.runs + 1) } := by
    unfold workM
    simp only [hq]
  obtain ⟨s9, hs9⟩ : ∃ s9, workM itoaG (askM itoaG E f) (ruleN E i) i s = s9 := ⟨_, rfl⟩
  rw [hs9]
  rw [hw] at hs9
  have HS9 := Lib.hid hs9
  have HP := Lib.hid h
  have HF1 := Lib.hid hF1
  clear h hM1 hF1 hp1 hq hw hs9
  go_enter Tryd.func22, Tryd.ntmps22
  go_wp2_with fail
  refine KC.out.mono ?_
  rintro e W2 ⟨av2, rfl, hM2, hF2, hz2⟩
  have HZ2 := Lib.hid (fun k hk => (hz2 k hk).trans (if_neg hk.2))
  clear hz2
  have x4 : W2.cell? ⟨L.nb i, 4, none⟩ = some (.int .i64 (s4.nd i).ran) := hM2.cell hi 4
  have x6 : W2.cell? ⟨L.nb i, 6, none⟩ = some (.bool (s4.nd i).kept) := hM2.cell hi 6
  have x7 : W2.cell? ⟨L.nb i, 7, none⟩ = some (.int .i64 (s4.nd i).sets) := hM2.cell hi 7
  have x8 : W2.cell? ⟨L.nb i, 8, none⟩ = some (av2 i) := hM2.cell hi 8
  have x9 : W2.cell? ⟨L.nb i, 9, none⟩ = some (.string (s4.nd i).came.t) := hM2.cell hi 9
  have x10 : W2.cell? ⟨L.nb i, 10, none⟩ = some (.int .i64 (s4.nd i).came.e) := hM2.cell hi 10
  have g2 : W2.cell? ⟨L.G, 2, none⟩ = some (.int .i64 s4.sets) := hM2.cellG 2
  have g3 : W2.cell? ⟨L.G, 3, none⟩ = some (.int .i64 s4.runs) := hM2.cellG 3
  have zn := hM2.free hi
  have zg := hM2.freeG
  have hne := hM2.ng i hi
  have hne2 := hne.symm
  have HM2 := Lib.hid hM2
  have HF2 := Lib.hid (HF1.out.trans hF2)
  clear hM2 hF2 c8 z8
  by_cases he : o.e = 8
  · have te : (o.e != 8) = false := by simp [he]
    have te2 : (o.e == 8) = true := by simp [he]
    have hs9 := HS9.out
    rw [if_pos he] at hs9
    subst hs9
    clear he
    go_wp2_with fail
    have hX := ((((MF.mk HM2.out HF2.out).f9 hi o.t).f10 hi o.e).f6 hi false).f8 hi
    simp only [St.put_same, put_put] at hX
    exact bodyPost_ret (v := .tuple #[]) (by simp [results, Tryd.results22, go_sem]) rfl ⟨_, rfl, hX.mem, hX.fk, fun k hk => (if_neg hk.2).trans (HZ2.out k hk)⟩
  · have te : (o.e != 8) = true := by simp [he]
    have te2 : (o.e == 8) = false := by simp [he]
    have hs9 := HS9.out
    rw [if_neg he] at hs9
    subst hs9
    clear he
    go_wp2_with fail
    have hX := (((((MF.mk HM2.out HF2.out).f9 hi o.t).f10 hi o.e).f6 hi true).f7 hi s4.sets).f4 hi (wrap64 ((s4.nd i).ran + 1)) |>.g3 (wrap64 (s4.runs + 1))
    simp only [St.put_same, put_put] at hX
    exact bodyPost_end (v := .tuple #[]) (by simp [results, Tryd.results22, go_sem]) rfl ⟨_, rfl, by rw [w64_eq, w64_eq]; exact hX.mem, hX.fk, HZ2.out⟩
end Go.Proofs.YtjcaeoacgoklmaaDoor
