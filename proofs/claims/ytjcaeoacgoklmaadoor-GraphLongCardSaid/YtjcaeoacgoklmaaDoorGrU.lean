import Derived.Test.YtjcaeoacgoklmaaDoorGrT
namespace Go.Proofs.YtjcaeoacgoklmaaDoor
open Go.RowKit
def setC (E : Env) (n t : ByteArray) : Int := if (findR E n).isSome then 4 else if 262144 < t.size then 1 else 0
def setsE (E : Env) (n t : ByteArray) : Env := if setC E n t = 0 then setE E n t else E
def setsS (E : Env) (n t : ByteArray) (s : St) : St := if setC E n t = 0 then setS s else s
def SetPost (L : Lay) (E : Env) (s : St) (av : Nat → Value) (c : Nat) (W : World) (n t : ByteArray) : Ending → World → Prop := fun e W' => ∃ L', L'.G = L.G ∧ e = .returned (.int .i64 (setC E n t)) ∧ Gr L' (setsE E n t) (setsS E n t s) av (c + 1) W' ∧ Stp L E av L' (setsE E n t) av W W'
theorem Stp.refl (L : Lay) (E : Env) (av : Nat → Value) (W : World) : Stp L E av L E av W W := ⟨FI.refl _ _, fun _ _ h => h⟩
theorem set_bad {L : Lay} {E : Env} {s : St} {av : Nat → Value} {c : Nat} {W : World} {n t : ByteArray} (h : Gr L E s av c W) (hc : setC E n t ≠ 0) {v : Int} (hv : v = setC E n t) : SetPost L E s av c W n t (.returned (.int .i64 v)) W := by
  refine ⟨L, rfl, by rw [hv], ?_, ?_⟩
  · unfold setsE setsS; rw [if_neg hc, if_neg hc]; exact h.more (Nat.le_succ _)
  · unfold setsE; rw [if_neg hc]; exact Stp.refl _ _ _ _
theorem envok_set {E : Env} (h : EnvOk E) {n t : ByteArray} (ht : t.size ≤ 262144) : EnvOk (setE E n t) := ⟨h.len, h.rule, fun s t' hs => by
  unfold setE at hs
  simp only at hs
  split at hs
  · simp only [Option.some.injEq] at hs; rw [← hs]; exact ht
  · exact h.inp s t' hs⟩
theorem set_good {L : Lay} {E : Env} {s : St} {av : Nat → Value} {c : Nat} {W W' : World} {n t : ByteArray} (h : Gr L E s av c W) (hn : findR E n = none) (ht : t.size ≤ 262144) {b : Nat} (hb : L.I = some b ∨ L.I = none ∧ W.heap.size ≤ b) (hbl : b < W'.heap.size)
    (hg : W'.heap[L.G]? = some (.cells #[.map (some L.M), .map (some b), .int .i64 (s.sets + 1), .int .i64 s.runs] 48 (0, 0))) (hc : c ≤ 100000) (hm : MapIs outMK W' b (c + 1) (updF (fun a => (E.inp a).map fun t => ⟨t, 0⟩) n ⟨t, 0⟩))
    (hk : ∀ k, k < W.heap.size → k ≠ L.G → k ≠ b → W'.heap[k]? = W.heap[k]?) (hs : W.heap.size ≤ W'.heap.size) (ho : W'.os = W.os ∧ W'.tape = W.tape ∧ W'.output = W.output) : SetPost L E s av c W n t (.returned (.int .i64 0)) W' := by
  have h0 : setC E n t = 0 := by unfold setC; rw [hn, if_neg (by simp), if_neg (by omega)]
  have hF : (updF (fun a => (E.inp a).map fun t => (⟨t, 0⟩ : Out)) n ⟨t, 0⟩) = fun a => ((setE E n t).inp a).map fun t => ⟨t, 0⟩ := by
    funext a
    unfold updF setE
    simp only
    by_cases e : n = a
    · rw [if_pos e, if_pos e.symm]; rfl
    · rw [if_neg e, if_neg (fun e2 => e e2.symm)]
  rw [hF] at hm
  have hiso : L.M ≠ b ∧ (∀ i, i < E.rules.length → 0 < (ruleN E i).refs.length → L.rb i ≠ b) ∧ ∀ k, Table k → k ≠ b := by
    rcases hb with hb | ⟨_, hb⟩
    · exact h.iso b hb
    · exact ⟨fun e => by have := (h.mem.stat L.M (.inl rfl)).2; omega, fun i hi hl e => by have := (h.mem.stat (L.rb i) (.inr (.inr (.inl ⟨i, hi, hl, rfl⟩)))).2; omega, fun k hT e => by have := (h.mem.stat k (.inr (.inr (.inr hT)))).2; omega⟩
  have hM := h.mem.setIn hb hbl hg (hm.more (by omega)) hk hs hiso.1 hiso.2.1 hiso.2.2
  have hsE : setsE E n t = setE E n t := by unfold setsE; rw [if_pos h0]
  have hsS : setsS E n t s = setS s := by unfold setsS; rw [if_pos h0]
  refine ⟨{ L with I := some b }, rfl, by rw [h0], ?_, ?_⟩
  · rw [hsE, hsS]
    have := h.sets
    have := h.sets0
    have := h.runs
    refine ⟨hM, good_set h.good n t, h.hyg, envok_set h.ok ht, h.dist, h.runs0, by show s.runs ≤ _; omega, by show 0 ≤ s.sets + 1; omega, by show s.sets + 1 ≤ _; omega, fun b' hb' => ?_, fun b' hb' => ?_⟩
    · simp only [Option.some.injEq] at hb'; subst hb'; exact hm
    · simp only [Option.some.injEq] at hb'; subst hb'; exact hiso
  · rw [hsE]
    refine ⟨⟨ho.1, ho.2.1, ho.2.2, hs, fun k hk1 hf => ⟨hk k hk1 (fun e => hf (.inl (.inl e))) (fun e => ?_), fun h2 => ?_⟩⟩, fun k hk1 h1 h2 => ?_⟩
    · rcases hb with hb | ⟨_, hb⟩
      · exact hf (.inr (e ▸ hb))
      · omega
    · rcases h2 with h2 | h2
      · exact hf (.inl h2)
      · simp only [Option.some.injEq] at h2
        rcases hb with hb | ⟨_, hb⟩
        · exact hf (.inr (h2 ▸ hb))
        · omega
    · rcases h2 with h2 | h2 | h2 | h2
      · exact h1 (.inl h2)
      · exact h1 (.inr (.inl h2))
      · simp only [Option.some.injEq] at h2
        rcases hb with hb | ⟨_, hb⟩
        · exact h1 (.inr (.inr (.inl (h2 ▸ hb))))
        · omega
      · exact h1 (.inr (.inr (.inr h2)))
theorem w64_add {n : Int} (h : 0 ≤ n) (h' : n ≤ 1000000) : wrap64 (n + 1) = n + 1 := by rw [← w64_eq]; exact w64_in (by omega) (by omega)
set_option maxRecDepth 100000 in
set_option maxHeartbeats 4000000 in
theorem Set_any {L : Lay} {E : Env} {s : St} {av : Nat → Value} {c : Nat} {W : World} (h : Gr L E s av c W) (hc : c ≤ 100000) {n t : ByteArray} (hn : n.size ≤ 1000000000000000) :
    Calls Tryd.prog 8 #[.pointer (some ⟨L.G, 0, none⟩), .string n, .string t] W (SetPost L E s av c W n t) := by
  have nn : ∀ w : World, (binOp .eql 27 (.pointer (some ⟨L.G, 0, none⟩)) (.pointer none)).run Tryd.prog w = .ok (.bool false) w := fun w => by kernel_rfl
  have nq : ∀ (p : Option Addr) (w : World), (binOp .neq 49 (.pointer p) (.pointer none)).run Tryd.prog w = .ok (.bool p.isSome) w := fun p w => by cases p <;> kernel_rfl
  have mq : ∀ (p : Option Nat) (w : World), (binOp .eql 46 (.map p) (.map none)).run Tryd.prog w = .ok (.bool p.isNone) w := fun p w => by cases p <;> kernel_rfl
  have hnm : n.size ≤ maxLen := Nat.le_trans hn (by decide)
  have lo := h.mem.nm.look1 n hnm
  have g0 : W.cell? ⟨L.G, 0, none⟩ = some (.map (some L.M)) := h.mem.cellG 0
  have g1 : W.cell? ⟨L.G, 1, none⟩ = some (.map L.I) := h.mem.cellG 1
  have g2 : W.cell? ⟨L.G, 2, none⟩ = some (.int .i64 s.sets) := h.mem.cellG 2
  have zg := h.mem.freeG
  have HG := Lib.hid h
  cases hf : findR E n with
  | some i =>
    rw [hf] at lo
    have lo : (Instr.lookup 45 (.map (some L.M)) (.string n) false).run Tryd.prog W = .ok (.pointer (some ⟨L.nb i, 0, none⟩)) W := lo
    have nq1 := nq (some ⟨L.nb i, 0, none⟩)
    have hC : setC E n t = 4 := by unfold setC; rw [hf]; rfl
    have HC := Lib.hid hC
    clear h hf hnm hC
    go_enter Tryd.func8, Tryd.ntmps8
    go_wp2_with fail
    go_ret
    exact set_bad HG.out (by rw [HC.out]; decide) HC.out.symm
  | none =>
    rw [hf] at lo
    have lo : (Instr.lookup 45 (.map (some L.M)) (.string n) false).run Tryd.prog W = .ok (.pointer none) W := lo
    have nq1 := nq none
    by_cases hbig : 262144 < t.size
    · have tb : decide ((262144 : Int) < (t.size : Int)) = true := by simp; omega
      have hC : setC E n t = 1 := by unfold setC; rw [hf, if_neg (by simp), if_pos hbig]
      have HC := Lib.hid hC
      clear h hf hnm hC hbig
      go_enter Tryd.func8, Tryd.ntmps8
      go_wp2_with fail
      go_ret
      exact set_bad HG.out (by rw [HC.out]; decide) HC.out.symm
    · have tb : decide ((262144 : Int) < (t.size : Int)) = false := by simp; omega
      have HF := Lib.hid hf
      have HT := Lib.hid (show t.size ≤ 262144 by omega)
      have HCc := Lib.hid hc
      have wr1 := w64_add h.sets0 (by have := h.sets; omega)
      have gl := blk_lt h.mem.g
      have hgb := h.mem.g
      cases hI : L.I with
      | none =>
        rw [hI] at g1
        have mq1 := mq none
        have hE : ∀ a, E.inp a = none := by have := h.mem.im; rw [hI] at this; exact this
        obtain ⟨w3, hrun, hmap, hgr⟩ := MapIs.put (M := outMK) (W := (W.setCell ⟨L.G, 1, none⟩ (.map (some W.heap.size))).alloc (.map #[] 0)) (b := W.heap.size) (by have := MapIs.new outMK (W.setCell ⟨L.G, 1, none⟩ (.map (some W.heap.size))); rw [set_size] at this; exact this) (by decide) n hnm ⟨t, 0⟩
        have hrun : (Instr.mapUpdate 46 (.map (some W.heap.size)) (.string n) (.agg #[.string t, .int .i64 0])).run Tryd.prog ((W.setCell ⟨L.G, 1, none⟩ (.map (some W.heap.size))).alloc (.map #[] 0)) = .ok () w3 := hrun
        have hg3 : w3.heap[L.G]? = some (.cells #[.map (some L.M), .map (some W.heap.size), .int .i64 s.sets, .int .i64 s.runs] 48 (0, 0)) := by
          rw [hgr.block _ (by simp; omega) (fun e => by injection e; omega)]
          rw [((Below.refl (W.setCell ⟨L.G, 1, none⟩ (.map (some W.heap.size))).heap.size (W.setCell ⟨L.G, 1, none⟩ (.map (some W.heap.size)))).alloc (Nat.le_refl _) (.map #[] 0)).block _ (by rw [set_size]; exact gl), set_block hgb]
          rfl
        have x2 : w3.cell? ⟨L.G, 2, none⟩ = some (.int .i64 s.sets) := Lib.cell_of_heap hg3 2
        have x2z := Lib.frozen_of_heap hg3
        have m1 : ((W.setCell ⟨L.G, 1, none⟩ (.map (some W.heap.size))).alloc (.map #[] 0)).cell? ⟨L.G, 1, none⟩ = some (.map (some W.heap.size)) := cell_alloc_of _ (World.cell?_setCell_same _ _ _ g1)
        have gm : (W.alloc (.map #[] 0)).cell? ⟨L.G, 1, none⟩ = some (.map none) := cell_alloc_of _ g1
        have gmz : ∀ o, (W.alloc (.map #[] 0)).frozen? ⟨L.G, o, none⟩ = false := fun o => by
          have h1 : (W.alloc (.map #[] 0)).heap[L.G]? = some (.cells #[.map (some L.M), .map L.I, .int .i64 s.sets, .int .i64 s.runs] 48 (0, 0)) := by
            rw [((Below.refl W.heap.size W).alloc (Nat.le_refl _) (.map #[] 0)).block _ gl]; exact hgb
          exact Lib.frozen_of_heap h1 o
        have hmm := @run_makeMap Tryd.prog
        have HX := Lib.hid (And.intro hg3 (And.intro hmap hgr))
        have HI := Lib.hid hI
        have HE := Lib.hid hE
        clear h hf hnm hbig hc hg3 hmap hgr hI hE hgb
        go_enter Tryd.func8, Tryd.ntmps8
        go_wp2_with fail
        go_ret
        obtain ⟨hg3, hmap, hgr⟩ := HX.out
        have hge : W.heap.size ≤ w3.heap.size := by have := hgr.size; simp at this; omega
        refine set_good HG.out HF.out HT.out (b := W.heap.size) (.inr ⟨HI.out, Nat.le_refl _⟩) ?_ ?_ HCc.out ?_ (fun k hk h1 h2 => ?_) ?_ ?_
        · rw [set_size]; have := hgr.size; simp at this; omega
        · rw [set_block hg3]; rfl
        · have hm2 : MapIs outMK w3 W.heap.size (c + 1) (updF (fun a => (E.inp a).map fun t => ⟨t, 0⟩) n ⟨t, 0⟩) := by
            have e : (fun a => (E.inp a).map fun t => (⟨t, 0⟩ : Out)) = fun _ => none := by funext a; rw [HE.out a]; rfl
            rw [e]
            exact hmap.more (by omega)
          exact hm2.keep (set_else _ (by omega))
        · rw [set_else _ h1, hgr.block k (by simp; omega) (fun e => by injection e; omega)]
          exact (((Below.refl (W.setCell ⟨L.G, 1, none⟩ (.map (some W.heap.size))).heap.size (W.setCell ⟨L.G, 1, none⟩ (.map (some W.heap.size)))).alloc (Nat.le_refl _) (.map #[] 0)).block _ (by rw [set_size]; exact hk)).trans (set_else _ h1)
        · rw [set_size]; exact hge
        · exact ⟨hgr.os, hgr.tape, hgr.output⟩
      | some b =>
        rw [hI] at g1
        have mq1 := mq (some b)
        have hmp := h.map b hI
        obtain ⟨w3, hrun, hmap, hgr⟩ := MapIs.put hmp (by omega) n hnm ⟨t, 0⟩
        have hrun : (Instr.mapUpdate 46 (.map (some b)) (.string n) (.agg #[.string t, .int .i64 0])).run Tryd.prog W = .ok () w3 := hrun
        have hbG : L.G ≠ b := fun e => (h.mem.stat b (.inr (.inl hI))).1 (.inl e.symm)
        have hg3 : w3.heap[L.G]? = some (.cells #[.map (some L.M), .map (some b), .int .i64 s.sets, .int .i64 s.runs] 48 (0, 0)) := by
          rw [hgr.block _ gl (fun e => by injection e with e; exact hbG e), hgb, hI]
        have x2 : w3.cell? ⟨L.G, 2, none⟩ = some (.int .i64 s.sets) := Lib.cell_of_heap hg3 2
        have x2z := Lib.frozen_of_heap hg3
        have HX := Lib.hid (And.intro hg3 (And.intro hmap hgr))
        have HI := Lib.hid hI
        have HB := Lib.hid (And.intro hbG hmp.lt)
        clear h hf hnm hbig hc hg3 hmap hgr hI hgb hmp hbG
        go_enter Tryd.func8, Tryd.ntmps8
        go_wp2_with fail
        go_ret
        obtain ⟨hg3, hmap, hgr⟩ := HX.out
        refine set_good HG.out HF.out HT.out (b := b) (.inl HI.out) ?_ ?_ HCc.out ?_ (fun k hk h1 h2 => ?_) ?_ ?_
        · rw [set_size]; exact Nat.lt_of_lt_of_le HB.out.2 hgr.size
        · rw [set_block hg3]; rfl
        · exact hmap.keep (set_else _ (fun e => HB.out.1 e.symm))
        · rw [set_else _ h1, hgr.block k hk (fun e => by injection e with e; exact h2 e)]
        · rw [set_size]; exact hgr.size
        · exact ⟨hgr.os, hgr.tape, hgr.output⟩
end Go.Proofs.YtjcaeoacgoklmaaDoor
