import Derived.Test.YtjcaeoacgoklmaaDoorGrS
namespace Go.Proofs.YtjcaeoacgoklmaaDoor
open Go.RowKit
def Table (k : Nat) : Prop := Tryd.prog.globalNamed "internal/strconv.uint64pow10" = some k
def FootI (L : Lay) (n : Nat) (av : Nat → Value) (k : Nat) : Prop := Foot L n av k ∨ L.I = some k
def AllB (L : Lay) (E : Env) (av : Nat → Value) (k : Nat) : Prop := Foot L E.rules.length av k ∨ Stat L E k
/-- What a call on a graph changes. -/
structure FI (FT FT' : Nat → Prop) (W W' : World) : Prop where
  os : W'.os = W.os
  tape : W'.tape = W.tape
  output : W'.output = W.output
  size : W.heap.size ≤ W'.heap.size
  block : ∀ k, k < W.heap.size → ¬ FT k → W'.heap[k]? = W.heap[k]? ∧ ¬ FT' k
theorem FI.refl (F : Nat → Prop) (W : World) : FI F F W W := ⟨rfl, rfl, rfl, Nat.le_refl _, fun _ _ h => ⟨rfl, h⟩⟩
theorem FI.trans {F F' F'' : Nat → Prop} {a b c : World} (h : FI F F' a b) (h' : FI F' F'' b c) : FI F F'' a c :=
  ⟨h'.os.trans h.os, h'.tape.trans h.tape, h'.output.trans h.output, Nat.le_trans h.size h'.size, fun k hk hf => by
    obtain ⟨h1, h2⟩ := h.block k hk hf
    obtain ⟨h3, h4⟩ := h'.block k (Nat.lt_of_lt_of_le hk h.size) h2
    exact ⟨h3.trans h1, h4⟩⟩
theorem FI.below {F : Nat → Prop} {W W' : World} (h : Below W.heap.size W W') : FI F F W W' := ⟨h.os, h.tape, h.output, h.size, fun k hk hf => ⟨h.block k hk, hf⟩⟩
theorem FI.cell {F F' : Nat → Prop} {W W' : World} (h : FI F F' W W') {p : Addr} {v : Value} (hp : ¬ F p.block) (hc : W.cell? p = some v) : W'.cell? p = some v := by
  rw [World.cell?_of_block (w := W) (h.block p.block (World.block_lt_of_cell? _ _ hc) hp).1]
  exact hc
theorem FK.fi {L : Lay} {n : Nat} {av av' : Nat → Value} {W W' : World} (h : FK L n av av' W W') : FI (FootI L n av) (FootI L n av') W W' :=
  ⟨h.os, h.tape, h.output, h.size, fun k hk hf => by
    obtain ⟨h1, h2⟩ := h.block k hk (fun e => hf (.inl e))
    exact ⟨h1, fun e => e.elim h2 (fun e => hf (.inr e))⟩⟩
/-- A graph in memory, that is asked nothing, after at most c calls. -/
structure Gr (L : Lay) (E : Env) (s : St) (av : Nat → Value) (c : Nat) (W : World) : Prop where
  mem : Mem L E s av W
  good : Good itoaG E s
  hyg : Hyg s
  ok : EnvOk E
  dist : Dist E
  runs0 : 0 ≤ s.runs
  runs : s.runs ≤ 200 * c
  sets0 : 0 ≤ s.sets
  sets : s.sets ≤ c
  map : ∀ b, L.I = some b → MapIs outMK W b c (fun a => (E.inp a).map fun t => ⟨t, 0⟩)
  iso : ∀ b, L.I = some b → L.M ≠ b ∧ (∀ i, i < E.rules.length → 0 < (ruleN E i).refs.length → L.rb i ≠ b) ∧ ∀ k, Table k → k ≠ b
theorem Gr.lt {L : Lay} {E : Env} {s : St} {av : Nat → Value} {c : Nat} {W : World} (h : Gr L E s av c W) {k : Nat} (hk : FootI L E.rules.length av k ∨ Stat L E k) : k < W.heap.size := by
  rcases hk with (h1 | h1) | h1
  · exact h.mem.lt h1
  · exact (h.map k h1).lt
  · exact (h.mem.stat k h1).2
theorem Gr.keep {L : Lay} {E : Env} {s : St} {av : Nat → Value} {c : Nat} {W W' : World} (h : Gr L E s av c W) (hs : W.heap.size ≤ W'.heap.size) (hk : ∀ k, AllB L E av k → W'.heap[k]? = W.heap[k]?) : Gr L E s av c W' := by
  have hst : ∀ k, Stat L E k → W'.heap[k]? = W.heap[k]? := fun k h1 => hk k (.inr h1)
  have hft : ∀ k, Foot L E.rules.length av k → W'.heap[k]? = W.heap[k]? := fun k h1 => hk k (.inl h1)
  refine ⟨⟨?_, fun j hj => ?_, fun j hj => ?_, h.mem.nm.keep (hst _ (.inl rfl)), ?_, fun j hj q a ha => ?_, h.mem.inj, h.mem.ng, h.mem.ag, fun k hk1 => ⟨(h.mem.stat k hk1).1, Nat.lt_of_lt_of_le (h.mem.stat k hk1).2 hs⟩, tab_keep h.mem.tab fun g hg => hst g (.inr (.inr (.inr hg)))⟩, h.good, h.hyg, h.ok, h.dist, h.runs0, h.runs, h.sets0, h.sets, fun b hb => (h.map b hb).keep (hst b (.inr (.inl hb))), h.iso⟩
  · rw [hft _ (.inl rfl)]; exact h.mem.g
  · rw [hft _ (.inr ⟨j, hj, .inl rfl⟩)]; exact h.mem.nd j hj
  · refine ⟨(h.mem.row j hj).1, ?_⟩
    rcases (h.mem.row j hj).2 with h0 | ⟨g, cap, cur, hv2, hb2, hg2, h3⟩
    · exact .inl h0
    · exact .inr ⟨g, cap, cur, hv2, hb2, (hft g (.inr ⟨j, hj, .inr (by rw [hv2]; rfl)⟩)).trans hg2, h3⟩
  · have := h.mem.im
    cases hI : L.I with
    | none => rw [hI] at this; exact this
    | some b => rw [hI] at this; exact this.keep (hst _ (.inr (.inl hI)))
  · obtain ⟨h1, h2⟩ := h.mem.refs j hj q a ha
    have hlen : 0 < (ruleN E j).refs.length := by have := (List.getElem?_eq_some_iff.1 ha).1; omega
    exact ⟨h1, by rw [World.cell?_of_block (w := W) (hst (L.rb j) (.inr (.inr (.inl ⟨j, hj, hlen, rfl⟩))))]; exact h2⟩
theorem Gr.lt2 {L : Lay} {E : Env} {s : St} {av : Nat → Value} {c : Nat} {W : World} (h : Gr L E s av c W) {k : Nat} (hk : AllB L E av k) : k < W.heap.size :=
  h.lt (hk.elim (fun h1 => .inl (.inl h1)) .inr)
theorem Gr.later {L : Lay} {E : Env} {s : St} {av : Nat → Value} {c : Nat} {W W' : World} (h : Gr L E s av c W) (hb : Below W.heap.size W W') : Gr L E s av c W' :=
  h.keep hb.size fun k hk => hb.block k (h.lt2 hk)
theorem Gr.more {L : Lay} {E : Env} {s : St} {av : Nat → Value} {c c' : Nat} {W : World} (h : Gr L E s av c W) (hc : c ≤ c') : Gr L E s av c' W :=
  ⟨h.mem, h.good, h.hyg, h.ok, h.dist, h.runs0, by have := h.runs; omega, h.sets0, by have := h.sets; omega, fun b hb => (h.map b hb).more hc, h.iso⟩
/-- What another graph's call leaves. -/
theorem Gr.apart {L : Lay} {E : Env} {s : St} {av : Nat → Value} {c : Nat} {W W' : World} (h : Gr L E s av c W) {F F' : Nat → Prop} (hf : FI F F' W W') (hd : ∀ k, AllB L E av k → ¬ F k) : Gr L E s av c W' ∧ ∀ k, AllB L E av k → ¬ F' k :=
  ⟨h.keep hf.size fun k hk => (hf.block k (h.lt2 hk) (hd k hk)).1, fun k hk => (hf.block k (h.lt2 hk) (hd k hk)).2⟩
/-- What a call on a graph does to the memory. -/
structure Stp (L : Lay) (E : Env) (av : Nat → Value) (L' : Lay) (E' : Env) (av' : Nat → Value) (W W' : World) : Prop where
  fi : FI (FootI L E.rules.length av) (FootI L' E'.rules.length av') W W'
  all : ∀ k, k < W.heap.size → ¬ AllB L E av k → ¬ AllB L' E' av' k
theorem Stp.sep {L : Lay} {E : Env} {av : Nat → Value} {L' : Lay} {E' : Env} {av' : Nat → Value} {W W' : World} (h : Stp L E av L' E' av' W W') {F : Nat → Prop} (hF : ∀ k, F k → k < W.heap.size) (hs : ∀ k, AllB L E av k → ¬ F k) : ∀ k, AllB L' E' av' k → ¬ F k :=
  fun k hk hf => h.all k (hF k hf) (fun h1 => hs k h1 hf) hk
def AskPost (L : Lay) (E : Env) (s : St) (av : Nat → Value) (c : Nat) (W : World) (a : ByteArray) : Ending → World → Prop := fun e W' => ∃ s' av', e = .returned (.tuple #[.string (Vw itoaG E a).t, .int .i64 (Vw itoaG E a).e]) ∧ Gr L E s' av' (c + 1) W' ∧ Stp L E av L E av' W W' ∧
  s' = (askM itoaG E 201 s a).2 ∧ s.runs ≤ s'.runs ∧ s'.runs ≤ s.runs + E.rules.length ∧ s'.sets = s.sets ∧ Done itoaG E s' [] a ∧ (Done itoaG E s [] a → s'.runs = s.runs)
set_option maxRecDepth 100000 in
set_option maxHeartbeats 4000000 in
theorem Ask_any {L : Lay} {E : Env} {s : St} {av : Nat → Value} {c : Nat} {W : World} (h : Gr L E s av c W) (hc : c ≤ 100000) {a : ByteArray} (ha : a.size ≤ 1000000000000000) :
    Calls Tryd.prog 10 #[.pointer (some ⟨L.G, 0, none⟩), .string a] W (AskPost L E s av c W a) := by
  have hp : Pre L E s av [] 201 W := ⟨h.mem, h.hyg, h.ok, fun i => h.good.inv.busy i, okk0 E, by have := h.ok.len; simp; omega⟩
  have K := (ask_any 201).ok L E s av [] W a hp ha
  have hr := h.runs
  have hl := h.ok.len
  obtain ⟨g1, g2, g3, g4, g5, g6⟩ := good_ask (itoaB := itoaG) h.dist (by omega) h.good h.runs0 (by omega) (f := 201) (by omega) a
  have hpr := pres_ask (itoaB := itoaG) itoaG_size h.ok 201 s a h.hyg
  rw [g1] at K
  have HG := Lib.hid h
  have H3 := Lib.hid g3
  have H4 := Lib.hid g4
  have H5 := Lib.hid g5
  have H6 := Lib.hid g6
  have HGo := Lib.hid g2
  have HPr := Lib.hid hpr
  have nn : ∀ w : World, (binOp .eql 27 (.pointer (some ⟨L.G, 0, none⟩)) (.pointer none)).run Tryd.prog w = .ok (.bool false) w := fun w => by kernel_rfl
  generalize hs1 : (askM itoaG E 201 s a).2 = s1 at K H3 H4 H5 H6 HGo HPr
  have HS1 := Lib.hid hs1
  clear h hp hr hl g1 g2 g3 g4 g5 g6 hpr hc hs1
  go_enter Tryd.func10, Tryd.ntmps10
  go_wp2_with fail
  refine K.mono ?_
  rintro e W2 ⟨av2, rfl, hM2, hF2, _⟩
  have HM2 := Lib.hid hM2
  have HF2 := Lib.hid hF2
  clear hM2 hF2
  go_wp2_with fail
  go_quiet (fail)
  go_wp2_with fail
  go_ret2
  have hb : ∀ q, Below W2.heap.size W2 ((W2.alloc (.cells #[.string (Vw itoaG E a).t, .int .i64 (Vw itoaG E a).e] 53)).drewN q) := fun q => below_drewN ((Below.refl _ _).alloc (Nat.le_refl _) _) _
  refine ⟨s1, av2, rfl, ?_, ?_, HS1.out.symm, H3.out, H4.out, HPr.out.2.2.sets, H5.out, H6.out⟩
  · have hM := HM2.out.later (hb nq)
    refine ⟨hM, HGo.out, HPr.out.2.1, HG.out.ok, HG.out.dist, Int.le_trans HG.out.runs0 H3.out, by have := HG.out.runs; have := H4.out; have := HG.out.ok.len; omega, by rw [HPr.out.2.2.sets]; exact HG.out.sets0, by rw [HPr.out.2.2.sets]; have := HG.out.sets; omega, fun b hb2 => ?_, HG.out.iso⟩
    have hst : Stat L E b := .inr (.inl hb2)
    obtain ⟨x1, x2⟩ := HG.out.mem.stat b hst
    exact (((HG.out.map b hb2).keep (HF2.out.block b x2 x1).1).later (hb _)).more (Nat.le_succ _)
  · refine ⟨HF2.out.fi.trans (FI.below (hb _)), fun k hk h1 h2 => h2.elim (fun h3 => (HF2.out.block k hk (fun h4 => h1 (.inl h4))).2 h3) (fun h3 => h1 (.inr h3))⟩
theorem Runs_any {L : Lay} {E : Env} {s : St} {av : Nat → Value} {c : Nat} {W : World} (h : Gr L E s av c W) :
    Calls Tryd.prog 12 #[.pointer (some ⟨L.G, 0, none⟩)] W fun e W' => e = .returned (.int .i64 s.runs) ∧ W' = W := by
  have g3 : W.cell? ⟨L.G, 3, none⟩ = some (.int .i64 s.runs) := h.mem.cellG 3
  have nn : ∀ w : World, (binOp .eql 27 (.pointer (some ⟨L.G, 0, none⟩)) (.pointer none)).run Tryd.prog w = .ok (.bool false) w := fun w => by kernel_rfl
  clear h
  go_enter Tryd.func12, Tryd.ntmps12
  go_wp2_with fail
  go_ret
  exact ⟨rfl, rfl⟩
/-- An input set, in memory. -/
theorem Mem.setIn {L : Lay} {E : Env} {s : St} {av : Nat → Value} {W W' : World} (h : Mem L E s av W) {b : Nat} {n t : ByteArray} (hb : L.I = some b ∨ L.I = none ∧ W.heap.size ≤ b) (hbl : b < W'.heap.size)
    (hg : W'.heap[L.G]? = some (.cells #[.map (some L.M), .map (some b), .int .i64 (s.sets + 1), .int .i64 s.runs] 48 (0, 0))) (hm : MapIs outMK W' b 1000000 (fun a => ((setE E n t).inp a).map fun t => ⟨t, 0⟩))
    (hk : ∀ k, k < W.heap.size → k ≠ L.G → k ≠ b → W'.heap[k]? = W.heap[k]?) (hs : W.heap.size ≤ W'.heap.size) (hM : L.M ≠ b) (hR : ∀ i, i < E.rules.length → 0 < (ruleN E i).refs.length → L.rb i ≠ b) (hT : ∀ k, Table k → k ≠ b) : Mem { L with I := some b } (setE E n t) (setS s) av W' := by
  have hfb : ¬ Foot L E.rules.length av b := fun hf => by
    rcases hb with hb | ⟨_, hb⟩
    · exact (h.stat b (.inr (.inl hb))).1 hf
    · have := h.lt hf; omega
  have hst : ∀ k, Stat L E k → k ≠ b → W'.heap[k]? = W.heap[k]? := fun k h1 h2 => hk k (h.stat k h1).2 (fun e => (h.stat k h1).1 (.inl e)) h2
  have hft : ∀ k, Foot L E.rules.length av k → k ≠ L.G → W'.heap[k]? = W.heap[k]? := fun k h1 h2 => hk k (h.lt h1) h2 (fun e => hfb (e ▸ h1))
  refine ⟨hg, fun j hj => ?_, fun j hj => ?_, h.nm.keep (hst _ (.inl rfl) hM), hm, fun j hj q a ha => ?_, h.inj, h.ng, h.ag, ?_, tab_keep h.tab fun g hg => hst g (.inr (.inr (.inr hg))) (hT g hg)⟩
  · rw [hft _ (.inr ⟨j, hj, .inl rfl⟩) (h.ng j hj)]; exact h.nd j hj
  · refine ⟨(h.row j hj).1, ?_⟩
    rcases (h.row j hj).2 with h0 | ⟨g, cap, cur, hv2, hb2, hg2, h3⟩
    · exact .inl h0
    · have ho : (av j).ownBlock = some g := by rw [hv2]; rfl
      exact .inr ⟨g, cap, cur, hv2, hb2, (hft g (.inr ⟨j, hj, .inr ho⟩) (h.ag j g hj ho).1).trans hg2, h3⟩
  · obtain ⟨h1, h2⟩ := h.refs j hj q a ha
    have hlen : 0 < (ruleN E j).refs.length := Nat.lt_of_le_of_lt (Nat.zero_le q) (List.getElem?_eq_some_iff.1 ha).1
    exact ⟨h1, by rw [World.cell?_of_block (w := W) (hst (L.rb j) (.inr (.inr (.inl ⟨j, hj, hlen, rfl⟩))) (hR j hj hlen))]; exact h2⟩
  · rintro k (rfl | hI | ⟨i, hi, hl, rfl⟩ | hT1)
    · obtain ⟨h1, h2⟩ := h.stat L.M (.inl rfl); exact ⟨h1, Nat.lt_of_lt_of_le h2 hs⟩
    · simp only [Option.some.injEq] at hI
      subst hI
      exact ⟨hfb, hbl⟩
    · obtain ⟨h1, h2⟩ := h.stat (L.rb i) (.inr (.inr (.inl ⟨i, hi, hl, rfl⟩))); exact ⟨h1, Nat.lt_of_lt_of_le h2 hs⟩
    · obtain ⟨h1, h2⟩ := h.stat k (.inr (.inr (.inr hT1))); exact ⟨h1, Nat.lt_of_lt_of_le h2 hs⟩
end Go.Proofs.YtjcaeoacgoklmaaDoor
