import Derived.Test.YtjcaeoacgoklmaaDoorGrM
import Derived.Deep.CutBlock
import Derived.Deep.RegionHeld3
import Derived.Test.YtjcaeoacgoklmaaDoorAp
namespace Go.Proofs.YtjcaeoacgoklmaaDoor
open Go.RowKit
theorem cell_keepG {w w' : World} {p : Addr} {v : Value} (hb : Below w.heap.size w w') (h : w.cell? p = some v) : w'.cell? p = some v := (hb.cell (World.block_lt_of_cell? _ _ h)).trans h
structure Pre (L : Lay) (E : Env) (s : St) (av : Nat → Value) (B : List Nat) (f : Nat) (W : World) : Prop where
  mem : Mem L E s av W
  hyg : Hyg s
  ok : EnvOk E
  busy : ∀ i, (s.nd i).busy = true ↔ i ∈ B
  okk : Okk E B
  fuel : E.rules.length < f + B.length
def OutPost (L : Lay) (E : Env) (Z : Nat → Prop) (av : Nat → Value) (W : World) (o : Out) (s' : St) : Ending → World → Prop := fun e W' => ∃ av', e = .returned (.agg #[.string o.t, .int .i64 o.e]) ∧ Mem L E s' av' W' ∧ FK L E.rules.length av av' W W' ∧ ∀ k, Z k → av' k = av k
structure AskC (f : Nat) : Prop where
  ok : ∀ (L : Lay) (E : Env) (s : St) (av : Nat → Value) (B : List Nat) (W : World) (a : ByteArray), Pre L E s av B f W → a.size ≤ 1000000000000000 →
    Calls Tryd.prog 18 #[.pointer (some ⟨L.G, 0, none⟩), .string a] W (OutPost L E (fun k => k ∈ B) av W (askM itoaG E f s a).1 (askM itoaG E f s a).2)
theorem Pre.later {L : Lay} {E : Env} {s : St} {av : Nat → Value} {B : List Nat} {f : Nat} {W W' : World} (h : Pre L E s av B f W) (hb : Below W.heap.size W W') : Pre L E s av B f W' := ⟨h.mem.later hb, h.hyg, h.ok, h.busy, h.okk, h.fuel⟩
/-- A node's cells. -/
theorem Mem.cell {L : Lay} {E : Env} {s : St} {av : Nat → Value} {W : World} (h : Mem L E s av W) {i : Nat} (hi : i < E.rules.length) (o : Nat) : W.cell? ⟨L.nb i, o, none⟩ = (ndCells (ruleN E i) (L.rA i) (L.rC i) (s.nd i) (av i))[o]? := Lib.cell_of_heap (h.nd i hi) o
theorem Mem.free {L : Lay} {E : Env} {s : St} {av : Nat → Value} {W : World} (h : Mem L E s av W) {i : Nat} (hi : i < E.rules.length) (o : Nat) : W.frozen? ⟨L.nb i, o, none⟩ = false := Lib.frozen_of_heap (h.nd i hi) o
theorem Mem.cellG {L : Lay} {E : Env} {s : St} {av : Nat → Value} {W : World} (h : Mem L E s av W) (o : Nat) : W.cell? ⟨L.G, o, none⟩ = (#[.map (some L.M), .map L.I, .int .i64 s.sets, .int .i64 s.runs] : Array Value)[o]? := Lib.cell_of_heap h.g o
theorem Mem.freeG {L : Lay} {E : Env} {s : St} {av : Nat → Value} {W : World} (h : Mem L E s av W) (o : Nat) : W.frozen? ⟨L.G, o, none⟩ = false := Lib.frozen_of_heap h.g o
theorem cell_alloc_of {W : World} {p : Addr} {v : Value} (o : Obj) (h : W.cell? p = some v) : (W.alloc o).cell? p = some v := cell_keepG ((Below.refl _ _).alloc (Nat.le_refl _) o) h
theorem getD_of {l : List ByteArray} {j : Nat} (h : j < l.length) : l[j]? = some (l.getD j noneB) := by
  rw [List.getD_eq_getElem?_getD, List.getElem?_eq_getElem h]
  rfl
theorem own_slice {w : World} {base : Nat} {e : TypeId} {size n : Nat} {v : Value} {xs : List Value} (h : w.ownsRow base e size v n xs) : ∃ A c, v = .slice A n c ∧ (A = none → n = 0 ∧ c = 0) := by
  rcases h.2 with ⟨hv, hn⟩ | ⟨g, cap, cur, hv, _⟩
  · exact ⟨none, 0, by rw [hv, hn], fun _ => ⟨hn, rfl⟩⟩
  · exact ⟨_, cap, hv, fun h => by cases h⟩
theorem Mem.box {L : Lay} {E : Env} {s : St} {av : Nat → Value} {W : World} (h : Mem L E s av W) {p : Addr} (hf : ¬ Foot L E.rules.length av p.block) (hs : ¬ Stat L E p.block) (v : Value) : Mem L E s av (W.setCell p v) := by
  have hk : ∀ k, k ≠ p.block → (W.setCell p v).heap[k]? = W.heap[k]? := fun k hk => Below.heap_setCell _ _ _ _ hk
  have hst : ∀ k, Stat L E k → (W.setCell p v).heap[k]? = W.heap[k]? := fun k hk1 => hk k (fun e => hs (e ▸ hk1))
  refine ⟨?_, fun j hj => ?_, fun j hj => ?_, h.nm.keep (hst _ (.inl rfl)), ?_, fun j hj q a ha => ?_, h.inj, h.ng, h.ag, fun k hk1 => ⟨(h.stat k hk1).1, by rw [set_size]; exact (h.stat k hk1).2⟩, tab_keep h.tab fun g hg => hst g (.inr (.inr (.inr hg)))⟩
  · rw [hk _ (fun e => hf (e ▸ .inl rfl))]; exact h.g
  · rw [hk _ (fun e => hf (e ▸ .inr ⟨j, hj, .inl rfl⟩))]; exact h.nd j hj
  · refine ⟨(h.row j hj).1, ?_⟩
    rcases (h.row j hj).2 with h0 | ⟨g, cap, cur, hv2, hb2, hg2, h3⟩
    · exact .inl h0
    · exact .inr ⟨g, cap, cur, hv2, hb2, (hk g (fun e => hf (e ▸ .inr ⟨j, hj, .inr (by rw [hv2]; rfl)⟩))).trans hg2, h3⟩
  · have := h.im
    cases hI : L.I with
    | none => rw [hI] at this; exact this
    | some b => rw [hI] at this; exact this.keep (hst _ (.inr (.inl hI)))
  · obtain ⟨h1, h2⟩ := h.refs j hj q a ha
    have hlen : 0 < (ruleN E j).refs.length := by have := (List.getElem?_eq_some_iff.1 ha).1; omega
    exact ⟨h1, by rw [World.cell?_of_block (w := W) (hst (L.rb j) (.inr (.inr (.inl ⟨j, hj, hlen, rfl⟩))))]; exact h2⟩
theorem FK.box {L : Lay} {n : Nat} {av av' : Nat → Value} {W W' : World} (h : FK L n av av' W W') {p : Addr} (hp : W.heap.size ≤ p.block) (v : Value) : FK L n av av' W (W'.setCell p v) :=
  ⟨h.os, h.tape, h.output, by rw [set_size]; exact h.size, fun k hk hf => ⟨(Below.heap_setCell _ _ _ _ (by omega)).trans (h.block k hk hf).1, (h.block k hk hf).2⟩⟩
theorem infoA : (Tryd.prog.info? 74).map (fun i => (i.zero, i.size, i.bytes)) = some (some (.agg #[.string ⟨#[]⟩, .string ⟨#[]⟩, .int .i64 0]), 3, 40) := by kernel_rfl
theorem parts3 {P : Program} {t : TypeId} {z : Option Value} {s b : Nat} (h : (P.info? t).map (fun i => (i.zero, i.size, i.bytes)) = some (z, s, b)) : ∃ i, P.info? t = some i ∧ i.zero = z ∧ i.size = s ∧ i.bytes = b := by
  cases hi : P.info? t with
  | none => rw [hi] at h; cases h
  | some i => rw [hi] at h; simp at h; exact ⟨i, rfl, h.1, h.2.1, h.2.2⟩
theorem cells_new (w : World) (cs : List Value) (T : TypeId) : ∀ j u, cs[j]? = some u → (w.alloc (.cells cs.toArray T)).cell? ((⟨w.heap.size, 0, none⟩ : Addr).add j) = some u := by
  intro j u hj
  have e : ((⟨w.heap.size, 0, none⟩ : Addr).add j) = ⟨w.heap.size, j, none⟩ := by
    unfold Addr.add
    by_cases h2 : j = 0 <;> simp [h2]
  rw [e, Lib.cell_of_heap (heap_alloc_new w _)]
  simpa using hj
theorem asked_snoc (l : List (ByteArray × Out)) (x : ByteArray × Out) : askedCells (l ++ [x]) = askedCells l ++ [.string x.1, .string x.2.t, .int .i64 x.2.e] := by simp [askedCells]
/-- What is behind an append to a node's row, and its store. -/
theorem need_step {L : Lay} {E : Env} {s : St} {av : Nat → Value} {W Y W5 : World} (h : Mem L E s av W) {i : Nat} (hi : i < E.rules.length) (hb : Below W.heap.size W Y) {v : Value} {x : ByteArray × Out}
    (hown : W5.ownsRow 0 74 3 v ((s.nd i).asked.length + 1) (askedCells (s.nd i).asked ++ [.string x.1, .string x.2.t, .int .i64 x.2.e])) (hg : Y.grownBy W5 (av i).ownBlock) (ho : v.ownBlock = (av i).ownBlock ∨ v.ownBlock = some Y.heap.size) :
    Mem L E (s.put i { s.nd i with asked := (s.nd i).asked ++ [x] }) (fun j => if j = i then v else av j) (W5.setCell ⟨L.nb i, 8, none⟩ v) ∧ FK L E.rules.length av (fun j => if j = i then v else av j) W (W5.setCell ⟨L.nb i, 8, none⟩ v) := by
  have hsz : W.heap.size ≤ W5.heap.size := Nat.le_trans hb.size hg.size
  have hne : ∀ k, (av i).ownBlock = some k → k ≠ L.nb i := fun k hk => ((h.ag i k hi hk).2 i hi).1
  have hk : ∀ k, k < W.heap.size → k ≠ L.nb i → (av i).ownBlock ≠ some k → (W5.setCell ⟨L.nb i, 8, none⟩ v).heap[k]? = W.heap[k]? := fun k h1 h2 h3 => by
    rw [set_else v h2, hg.block k (Nat.lt_of_lt_of_le h1 hb.size) (fun e => h3 e.symm), hb.block k h1]
  have hn5 : W5.heap[L.nb i]? = some (.cells (ndCells (ruleN E i) (L.rA i) (L.rC i) (s.nd i) (av i)) 55 (0, 0)) := by
    rw [hg.block _ (Nat.lt_of_lt_of_le (blk_lt (h.nd i hi)) hb.size) (fun e => hne _ e.symm rfl), hb.block _ (blk_lt (h.nd i hi))]
    exact h.nd i hi
  have hvk : ∀ k, v.ownBlock = some k → (av i).ownBlock = some k ∨ W.heap.size ≤ k := fun k hk => by
    rcases ho with e | e
    · exact .inl (e ▸ hk)
    · rw [e] at hk; injection hk with hk; subst hk; exact .inr hb.size
  have hnv : v.ownBlock ≠ some (L.nb i) := fun e => by
    rcases hvk _ e with h1 | h1
    · exact hne _ h1 rfl
    · have := blk_lt (h.nd i hi); omega
  have hrow : (W5.setCell ⟨L.nb i, 8, none⟩ v).ownsRow 0 74 3 v ((s.nd i).asked ++ [x]).length (askedCells ((s.nd i).asked ++ [x])) := by
    rw [asked_snoc, List.length_append]
    exact hown.kept (row := some (L.nb i)) ⟨rfl, rfl, rfl, by rw [set_size]; exact Nat.le_refl _, fun k _ hk => set_else v (fun e => hk (by rw [e]))⟩ (Or.inr (fun e => hnv e))
  refine ⟨h.upd hi (by rw [set_block hn5]; rfl) hk hrow hvk (by rw [set_size]; exact hsz), h.updFK hi hk hvk (by rw [set_size]; exact hsz) (hg.os.trans hb.os) (hg.tape.trans hb.tape) (hg.output.trans hb.output)⟩
theorem itoaG_size (n : Nat) (hn : n ≤ 262144) : (itoaG n).size ≤ 262144 := by
  have := Lib.itoa_length_le (n : Int) (by omega) (by omega)
  show (Lib.itoa (n : Int)).toArray.size ≤ _
  rw [List.size_toArray]
  omega
theorem need_cell {L : Lay} {E : Env} {s : St} {av : Nat → Value} {W Y W5 : World} (h : Mem L E s av W) {i : Nat} (hi : i < E.rules.length) (hb : Below W.heap.size W Y) (hg : Y.grownBy W5 (av i).ownBlock) : W5.cell? ⟨L.nb i, 8, none⟩ = some (av i) ∧ W5.frozen? ⟨L.nb i, 8, none⟩ = false := by
  have hne : ∀ k, (av i).ownBlock = some k → k ≠ L.nb i := fun k hk => ((h.ag i k hi hk).2 i hi).1
  have hn5 : W5.heap[L.nb i]? = some (.cells (ndCells (ruleN E i) (L.rA i) (L.rC i) (s.nd i) (av i)) 55 (0, 0)) := by
    rw [hg.block _ (Nat.lt_of_lt_of_le (blk_lt (h.nd i hi)) hb.size) (fun e => hne _ e.symm rfl), hb.block _ (blk_lt (h.nd i hi))]
    exact h.nd i hi
  exact ⟨Lib.cell_of_heap hn5 8, Lib.frozen_of_heap hn5 8⟩
theorem after_set {W : World} {b d o : Nat} {u v : Value} (h0 : W.cell? ⟨b, 0, none⟩ = some u) (h1 : W.cell? ⟨b, 1, none⟩ = some v) (hne : b ≠ d) (x : Value) : (W.setCell ⟨d, o, none⟩ x).cell? ⟨b, 0, none⟩ = some u ∧ (W.setCell ⟨d, o, none⟩ x).cell? ⟨b, 1, none⟩ = some v :=
  ⟨(World.cell?_of_block (w := W) (a := ⟨b, 0, none⟩) (set_else x hne)).trans h0, (World.cell?_of_block (w := W) (a := ⟨b, 1, none⟩) (set_else x hne)).trans h1⟩
theorem two_set {W : World} {b : Nat} {u v : Value} (h0 : W.cell? ⟨b, 0, none⟩ = some u) (h1 : W.cell? ⟨b, 1, none⟩ = some v) (x y : Value) : ((W.setCell ⟨b, 0, none⟩ x).setCell ⟨b, 1, none⟩ y).cell? ⟨b, 0, none⟩ = some x ∧ ((W.setCell ⟨b, 0, none⟩ x).setCell ⟨b, 1, none⟩ y).cell? ⟨b, 1, none⟩ = some y := by
  have e1 : (⟨b, 1, none⟩ : Addr) ≠ ⟨b, 0, none⟩ := fun e => by injection e with _ e2; cases e2
  refine ⟨?_, World.cell?_setCell_same _ _ _ ((World.cell?_setCell_other _ _ _ _ e1.symm).trans h1)⟩
  rw [World.cell?_setCell_other _ _ _ _ e1]
  exact World.cell?_setCell_same _ _ _ h0
/-- A new box, behind a step of the graph. -/
theorem res_box {L : Lay} {E : Env} {s : St} {av av' : Nat → Value} {W W' : World} {o : Obj} (h : Mem L E s av W) (hf : FK L E.rules.length av av' (W.alloc o) W') : W'.heap[W.heap.size]? = some o ∧ ¬ Foot L E.rules.length av' W.heap.size ∧ ¬ Stat L E W.heap.size := by
  have h1 : ¬ Foot L E.rules.length av W.heap.size := fun h1 => by have := h.lt h1; omega
  obtain ⟨h2, h3⟩ := hf.block W.heap.size (by simp) h1
  exact ⟨h2.trans (heap_alloc_new W o), h3, fun hs => by have := (h.stat _ hs).2; omega⟩
/-- A box behind an append elsewhere. -/
theorem after_app {W2 Y W5 : World} {r : Option Nat} {u v : Value} (_hb : Below W2.heap.size W2 Y) (hg : Y.grownBy W5 r) (hr : ∀ k, r = some k → k < W2.heap.size) (h0 : Y.cell? ⟨W2.heap.size, 0, none⟩ = some u) (h1 : Y.cell? ⟨W2.heap.size, 1, none⟩ = some v) : W5.cell? ⟨W2.heap.size, 0, none⟩ = some u ∧ W5.cell? ⟨W2.heap.size, 1, none⟩ = some v := by
  have hlt : W2.heap.size < Y.heap.size := World.block_lt_of_cell? _ _ h0
  have key : ∀ o, W5.cell? ⟨W2.heap.size, o, none⟩ = Y.cell? ⟨W2.heap.size, o, none⟩ := fun o => World.cell?_of_block (w := Y) (a := ⟨W2.heap.size, o, none⟩) (hg.block _ hlt (fun e => by have h3 : W2.heap.size < W2.heap.size := hr _ e.symm; omega))
  exact ⟨(key 0).trans h0, (key 1).trans h1⟩
set_option maxRecDepth 100000 in
set_option maxHeartbeats 4000000 in
theorem need_any {f : Nat} (hA : AskC f) {L : Lay} {E : Env} {s : St} {av : Nat → Value} {B : List Nat} {W : World} (h : Pre L E s av B f W) {i j : Nat} (hi : i < E.rules.length) (hb : (s.nd i).busy = true) (hj : j < (ruleN E i).refs.length) (hl : (s.nd i).asked.length < 200000)
    (o : Out) (s1 : St) (hq : askM itoaG E f s ((ruleN E i).refs.getD j noneB) = (o, s1)) :
    Calls Tryd.prog 29 #[.pointer (some ⟨L.G, 0, none⟩), .pointer (some ⟨L.nb i, 0, none⟩), .int .i64 j] W (OutPost L E (fun k => k ∈ B ∧ k ≠ i) av W o (s1.put i { s1.nd i with asked := (s1.nd i).asked ++ [((ruleN E i).refs.getD j noneB, o)] })) := by
  have hro := ruleN_ok h.ok i hi
  have c2 := h.mem.cell hi 2
  simp only [ndCells] at c2
  obtain ⟨hrA, cr⟩ := h.mem.refs i hi j _ (getD_of hj)
  have HP := Lib.hid h
  have K := Lib.hid (fun w (hw : Below W.heap.size W w) => hq ▸ hA.ok L E s av B w ((ruleN E i).refs.getD j noneB) (h.later hw) (ref_size hro j))
  have hjl : (j : Int) < ((ruleN E i).refs.length : Int) := by omega
  generalize ha : (ruleN E i).refs.getD j noneB = a at cr K
  have HAa := Lib.hid ha
  clear h ha
  rw [hrA] at c2
  have c2a : ∀ o, (W.alloc o).cell? ⟨L.nb i, 2, none⟩ = some (.slice (some ⟨L.rb i, L.ro i, none⟩) (ruleN E i).refs.length (L.rC i)) := fun o => cell_alloc_of o c2
  have cra : ∀ o, (W.alloc o).cell? ⟨L.rb i, L.ro i + j, none⟩ = some (.string a) := fun o => cell_alloc_of o cr
  have K1 := K.out _ ((Below.refl _ _).alloc (Nat.le_refl _) (.cells #[.string ⟨#[]⟩, .int .i64 0] 53))
  clear c2 cr
  go_enter Tryd.func29, Tryd.ntmps29
  go_wp2_with fail
  refine K1.mono ?_
  rintro e W2 ⟨av2, rfl, hM2, hF2, hz2⟩
  have HZ2 := Lib.hid hz2
  clear hz2
  go_wp2_with fail
  have hi8 : (W2.alloc (.cells #[.string o.t, .int .i64 o.e] 53)).cell? ⟨L.nb i, 8, none⟩ = some (av2 i) := cell_alloc_of _ (hM2.cell hi 8)
  have hi9 : ∀ o', ((W2.alloc (.cells #[.string o.t, .int .i64 o.e] 53)).alloc o').cell? ⟨L.nb i, 8, none⟩ = some (av2 i) := fun o' => cell_alloc_of o' hi8
  have HM2 := Lib.hid hM2
  have HF2 := Lib.hid hF2
  clear hM2 hF2
  have hB0 : (W2.alloc (.cells #[.string o.t, .int .i64 o.e] 53)).drew.cell? ⟨W2.heap.size, 0, none⟩ = some (.string o.t) := by simp
  have hB1 : (W2.alloc (.cells #[.string o.t, .int .i64 o.e] 53)).drew.cell? ⟨W2.heap.size, 1, none⟩ = some (.int .i64 o.e) := by simp
  have HRow := Lib.hid (HM2.out.row i hi)
  obtain ⟨i0, hi0, hz0, hz1, hz2⟩ := parts3 infoA
  have HYb : Hid (Below W2.heap.size W2 ((W2.alloc (.cells #[.string o.t, .int .i64 o.e] 53)).alloc (.cells #[.string a, .string o.t, .int .i64 o.e] 74)).drew) := Lib.hid (((Below.refl _ _).alloc (Nat.le_refl _) _).alloc (by simp) _).drew
  have CN : Hid (∀ j u, [Value.string a, .string o.t, .int .i64 o.e][j]? = some u → ((W2.alloc (.cells #[.string o.t, .int .i64 o.e] 53)).alloc (.cells #[.string a, .string o.t, .int .i64 o.e] 74)).drew.cell? ((⟨W2.heap.size + 1, 0, none⟩ : Addr).add j) = some u) := Lib.hid (by
    have := cells_new (W2.alloc (.cells #[.string o.t, .int .i64 o.e] 53)) [.string a, .string o.t, .int .i64 o.e] 74
    rw [World.size_alloc] at this
    exact this)
  have hY0 : ((W2.alloc (.cells #[.string o.t, .int .i64 o.e] 53)).alloc (.cells #[.string a, .string o.t, .int .i64 o.e] 74)).drew.cell? ⟨W2.heap.size, 0, none⟩ = some (.string o.t) := cell_alloc_of _ hB0
  have hY1 : ((W2.alloc (.cells #[.string o.t, .int .i64 o.e] 53)).alloc (.cells #[.string a, .string o.t, .int .i64 o.e] 74)).drew.cell? ⟨W2.heap.size, 1, none⟩ = some (.int .i64 o.e) := cell_alloc_of _ hB1
  have HY := Lib.hid (And.intro hY0 hY1)
  clear hY0 hY1
  have HNe : Hid (∀ k, (av2 i).ownBlock = some k → k < W2.heap.size) := Lib.hid fun k hk => HM2.out.lt (.inr ⟨i, hi, .inr hk⟩)
  have hl1 : (s1.nd i).asked.length = (s.nd i).asked.length := by
    have := (pres_ask (itoaB := itoaG) itoaG_size HP.out.ok f s ((ruleN E i).refs.getD j noneB) HP.out.hyg).2.2.nd i hb
    rw [hq] at this
    rw [this]
  have HL : Hid ((s1.nd i).asked.length + 1 ≤ maxLen ∧ ((s1.nd i).asked.length + 1) * 40 ≤ 140737488355328) := Lib.hid ⟨by rw [hl1]; unfold maxLen; omega, by rw [hl1]; omega⟩
  have HNb : Hid (W2.heap.size ≠ L.nb i) := Lib.hid (fun e => by have := blk_lt (HM2.out.nd i hi); omega)
  clear hl1
  refine wp_region_held_drew (S := (fun w' => w'.cell? ⟨W2.heap.size, 0, none⟩ = some (.string o.t) ∧ w'.cell? ⟨W2.heap.size, 1, none⟩ = some (.int .i64 o.e))) (by kernel_rfl) ⟨hB0, hB1⟩ (fun hHeld => ?_)
  refine wpAnyH_take (i := 0) (v := ?_) (show _ = some { dst := some 20, op := _, type := _, pos := _, after := _, guard := _ } from rfl) (by kernel_rfl) (by kernel_rfl) (by kernel_rfl) (fun _ _ _ h => h) (Or.inl ⟨by rfl, ?_⟩) hHeld ?_
  rotate_left
  · intro w' hSw
    (try dsimp only at hSw)
    go_simp
    try with_reducible rfl
  try simp only [Act.put, List.setIfInBounds_toArray, List.set_cons_zero, List.set_cons_succ]
  refine wpAnyH_take (i := 1) (v := ?_) (show _ = some { dst := some 21, op := _, type := _, pos := _, after := _, guard := _ } from rfl) (by kernel_rfl) (by kernel_rfl) (by kernel_rfl) (fun _ _ _ h => h) (Or.inl ⟨by rfl, ?_⟩) hHeld ?_
  rotate_left
  · intro w' hSw
    (try dsimp only at hSw)
    go_simp
    try with_reducible rfl
  try simp only [Act.put, List.setIfInBounds_toArray, List.set_cons_zero, List.set_cons_succ]
  refine wpAnyH_take (i := 2) (v := ?_) (show _ = some { dst := some 22, op := _, type := _, pos := _, after := _, guard := _ } from rfl) (by kernel_rfl) (by kernel_rfl) (by kernel_rfl) (fun _ _ _ h => h) (Or.inl ⟨by rfl, ?_⟩) hHeld ?_
  rotate_left
  · intro w' hSw
    (try dsimp only at hSw)
    go_simp
    try with_reducible rfl
  try simp only [Act.put, List.setIfInBounds_toArray, List.set_cons_zero, List.set_cons_succ]
  refine wpAnyH_take (i := 3) (v := ?_) (show _ = some { dst := some 23, op := _, type := _, pos := _, after := _, guard := _ } from rfl) (by kernel_rfl) (by kernel_rfl) (by kernel_rfl) (fun _ _ _ h => h) (Or.inl ⟨by rfl, ?_⟩) hHeld ?_
  rotate_left
  · intro w' hSw
    (try dsimp only at hSw)
    go_simp
    try with_reducible rfl
  try simp only [Act.put, List.setIfInBounds_toArray, List.set_cons_zero, List.set_cons_succ]
  refine wpAnyH_take (i := 5) (v := ?_) (show _ = some { dst := some 25, op := _, type := _, pos := _, after := _, guard := _ } from rfl) (by kernel_rfl) (by kernel_rfl) (by kernel_rfl) (fun _ _ _ h => h) (Or.inl ⟨by rfl, ?_⟩) hHeld ?_
  rotate_left
  · intro w' hSw
    (try dsimp only at hSw)
    go_simp
    try with_reducible rfl
  try simp only [Act.put, List.setIfInBounds_toArray, List.set_cons_zero, List.set_cons_succ]
  refine wpAnyH_take (i := 6) (v := ?_) (show _ = some { dst := some 26, op := _, type := _, pos := _, after := _, guard := _ } from rfl) (by kernel_rfl) (by kernel_rfl) (by kernel_rfl) (fun _ _ _ h => h) (Or.inl ⟨by rfl, ?_⟩) hHeld ?_
  rotate_left
  · intro w' hSw
    (try dsimp only at hSw)
    go_simp
    try with_reducible rfl
  try simp only [Act.put, List.setIfInBounds_toArray, List.set_cons_zero, List.set_cons_succ]
  refine wpAnyH_take (i := 7) (v := ?_) (show _ = some { dst := some 27, op := _, type := _, pos := _, after := _, guard := _ } from rfl) (by kernel_rfl) (by kernel_rfl) (by kernel_rfl) (fun _ _ _ h => h) (Or.inl ⟨by rfl, ?_⟩) hHeld ?_
  rotate_left
  · intro w' hSw
    (try dsimp only at hSw)
    go_simp
    try with_reducible rfl
  try simp only [Act.put, List.setIfInBounds_toArray, List.set_cons_zero, List.set_cons_succ]
  refine wpAnyH_ready (rs := [4, 8]) (by kernel_rfl) (by simp) ?_
  refine AllReadyH.cons (show _ = some { dst := some 24, op := _, type := _, pos := _, after := _, guard := _ } from rfl) (fun K hK => ?_) (AllReadyH.cons (show _ = some { dst := some 28, op := _, type := _, pos := _, after := _, guard := _ } from rfl) (fun K hK => ?_) AllReadyH.nil)
  · go_simp
    refine hK.out _ _ (hHeld) (fun hHeld => ?_)
    clear hK K
    try simp only [Act.put, List.setIfInBounds_toArray, List.set_cons_zero, List.set_cons_succ]
    refine wpAnyH_ready (rs := [8]) (by kernel_rfl) (by simp) ?_
    refine AllReadyH.cons (show _ = some { dst := some 28, op := _, type := _, pos := _, after := _, guard := _ } from rfl) (fun K hK => ?_) AllReadyH.nil
    go_simp
    refine hK.out _ _ (HY.out) (fun hHeld => ?_)
    clear hK K
    try simp only [Act.put, List.setIfInBounds_toArray, List.set_cons_zero, List.set_cons_succ]
    refine wpAnyH_ready (rs := [9]) (by kernel_rfl) (by simp) ?_
    refine AllReadyH.cons (show _ = some { dst := some 29, op := _, type := _, pos := _, after := _, guard := _ } from rfl) (fun K hK => ?_) AllReadyH.nil
    rw [if_pos (by rfl)]
    refine wp_append_own_at _ _ 51 rfl 0 74 i0 (.agg #[.string ⟨#[]⟩, .string ⟨#[]⟩, .int .i64 0]) 3 40 Tryd.underlying51 hi0 hz0 hz1 hz2 rfl (by decide) _ _ _ rfl ((HRow.out.alloc _).alloc _) ⟨W2.heap.size + 1, 0, none⟩ 1 1 [.string a, .string o.t, .int .i64 o.e] rfl rfl ?_ ?_ ?_ ?_ (Nat.zero_le _) ?_
    · exact CN.out
    · intro u hu
      simp only [List.mem_cons, List.not_mem_nil, or_false] at hu
      rcases hu with rfl | rfl | rfl <;> rfl
    · exact HL.out.1
    · exact HL.out.2
    intro v5 W5 hown5 hg5 _ ho5
    obtain ⟨A5, c5, rfl, _⟩ := own_slice hown5
    have HS5 := Lib.hid (need_step (x := (a, o)) HM2.out hi HYb.out hown5 hg5 ho5)
    have HC5 := Lib.hid (after_app HYb.out hg5 HNe.out HY.out.1 HY.out.2)
    obtain ⟨n8, z8⟩ := need_cell HM2.out hi HYb.out hg5
    clear hown5 hg5 ho5
    refine hK.out _ _ (HC5.out) (fun hHeld => ?_)
    clear hK K
    try simp only [Act.put, List.setIfInBounds_toArray, List.set_cons_zero, List.set_cons_succ]
    refine wpAnyH_take (i := 10) (v := ?_) (show _ = some { dst := some 30, op := _, type := _, pos := _, after := _, guard := _ } from rfl) (by kernel_rfl) (by kernel_rfl) (by kernel_rfl) (fun _ _ _ h => h) (Or.inl ⟨by rfl, ?_⟩) hHeld ?_
    rotate_left
    · intro w' hSw
      (try dsimp only at hSw)
      go_simp
      try with_reducible rfl
    try simp only [Act.put, List.setIfInBounds_toArray, List.set_cons_zero, List.set_cons_succ]
    refine wpAnyH_take (i := 11) (v := ?_) (show _ = some { dst := some 31, op := _, type := _, pos := _, after := _, guard := _ } from rfl) (by kernel_rfl) (by kernel_rfl) (by kernel_rfl) (fun _ _ _ h => h) (Or.inl ⟨by rfl, ?_⟩) hHeld ?_
    rotate_left
    · intro w' hSw
      (try dsimp only at hSw)
      go_simp
      try with_reducible rfl
    try simp only [Act.put, List.setIfInBounds_toArray, List.set_cons_zero, List.set_cons_succ]
    refine wpAnyH_ready (rs := [12]) (by kernel_rfl) (by simp) ?_
    refine AllReadyH.cons (show _ = some { dst := none, op := _, type := _, pos := _, after := _, guard := _ } from rfl) (fun K hK => ?_) AllReadyH.nil
    go_simp
    have HC6 := Lib.hid (after_set (o := 8) HC5.out.1 HC5.out.2 HNb.out (.slice A5 ((s1.nd i).asked.length + 1) c5))
    refine hK.out _ _ (HC6.out) (fun hHeld => ?_)
    clear hK K
    try simp only [Act.put, List.setIfInBounds_toArray, List.set_cons_zero, List.set_cons_succ]
    refine wpAnyH_done (by kernel_rfl) ?_ _
    clear hHeld
    obtain ⟨hM6, hF6⟩ := HS5.out
    have hF6' := HF2.out.trans hF6
    obtain ⟨rb, nf, ns⟩ := res_box HP.out.mem hF6'
    have HM6 := Lib.hid hM6
    have HF6 := Lib.hid ((FK.below ((Below.refl _ _).alloc (Nat.le_refl _) _)).trans hF6')
    have q0 := Lib.cell_of_heap rb 0
    have q1 := Lib.cell_of_heap rb 1
    have z0 := Lib.frozen_of_heap rb 0
    have z1 := Lib.frozen_of_heap rb 1
    obtain ⟨b0, b1⟩ := HC6.out
    clear hM6 hF6 hF6' rb
    generalize W5.setCell ⟨L.nb i, 8, none⟩ (.slice A5 ((s1.nd i).asked.length + 1) c5) = W6 at HM6 HF6 q0 q1 z0 z1 b0 b1 ⊢
    obtain ⟨r0, r1⟩ := two_set q0 q1 (.string o.t) (.int .i64 o.e)
    go_wp2_with fail
    exact bodyPost_ret (v := .agg #[.string o.t, .int .i64 o.e]) (by simp [results, Tryd.results29, go_sem, r0, r1]) rfl ⟨_, rfl, (HM6.out.box nf ns _).box nf ns _, (HF6.out.box (Nat.le_refl _) _).box (Nat.le_refl _) _, fun k hk => (if_neg hk.2).trans (HZ2.out k hk.1)⟩
  · go_simp
    refine hK.out _ _ (HY.out) (fun hHeld => ?_)
    clear hK K
    try simp only [Act.put, List.setIfInBounds_toArray, List.set_cons_zero, List.set_cons_succ]
    refine wpAnyH_ready (rs := [4]) (by kernel_rfl) (by simp) ?_
    refine AllReadyH.cons (show _ = some { dst := some 24, op := _, type := _, pos := _, after := _, guard := _ } from rfl) (fun K hK => ?_) AllReadyH.nil
    go_simp
    refine hK.out _ _ (hHeld) (fun hHeld => ?_)
    clear hK K
    try simp only [Act.put, List.setIfInBounds_toArray, List.set_cons_zero, List.set_cons_succ]
    refine wpAnyH_ready (rs := [9]) (by kernel_rfl) (by simp) ?_
    refine AllReadyH.cons (show _ = some { dst := some 29, op := _, type := _, pos := _, after := _, guard := _ } from rfl) (fun K hK => ?_) AllReadyH.nil
    rw [if_pos (by rfl)]
    refine wp_append_own_at _ _ 51 rfl 0 74 i0 (.agg #[.string ⟨#[]⟩, .string ⟨#[]⟩, .int .i64 0]) 3 40 Tryd.underlying51 hi0 hz0 hz1 hz2 rfl (by decide) _ _ _ rfl ((HRow.out.alloc _).alloc _) ⟨W2.heap.size + 1, 0, none⟩ 1 1 [.string a, .string o.t, .int .i64 o.e] rfl rfl ?_ ?_ ?_ ?_ (Nat.zero_le _) ?_
    · exact CN.out
    · intro u hu
      simp only [List.mem_cons, List.not_mem_nil, or_false] at hu
      rcases hu with rfl | rfl | rfl <;> rfl
    · exact HL.out.1
    · exact HL.out.2
    intro v5 W5 hown5 hg5 _ ho5
    obtain ⟨A5, c5, rfl, _⟩ := own_slice hown5
    have HS5 := Lib.hid (need_step (x := (a, o)) HM2.out hi HYb.out hown5 hg5 ho5)
    have HC5 := Lib.hid (after_app HYb.out hg5 HNe.out HY.out.1 HY.out.2)
    obtain ⟨n8, z8⟩ := need_cell HM2.out hi HYb.out hg5
    clear hown5 hg5 ho5
    refine hK.out _ _ (HC5.out) (fun hHeld => ?_)
    clear hK K
    try simp only [Act.put, List.setIfInBounds_toArray, List.set_cons_zero, List.set_cons_succ]
    refine wpAnyH_take (i := 10) (v := ?_) (show _ = some { dst := some 30, op := _, type := _, pos := _, after := _, guard := _ } from rfl) (by kernel_rfl) (by kernel_rfl) (by kernel_rfl) (fun _ _ _ h => h) (Or.inl ⟨by rfl, ?_⟩) hHeld ?_
    rotate_left
    · intro w' hSw
      (try dsimp only at hSw)
      go_simp
      try with_reducible rfl
    try simp only [Act.put, List.setIfInBounds_toArray, List.set_cons_zero, List.set_cons_succ]
    refine wpAnyH_take (i := 11) (v := ?_) (show _ = some { dst := some 31, op := _, type := _, pos := _, after := _, guard := _ } from rfl) (by kernel_rfl) (by kernel_rfl) (by kernel_rfl) (fun _ _ _ h => h) (Or.inl ⟨by rfl, ?_⟩) hHeld ?_
    rotate_left
    · intro w' hSw
      (try dsimp only at hSw)
      go_simp
      try with_reducible rfl
    try simp only [Act.put, List.setIfInBounds_toArray, List.set_cons_zero, List.set_cons_succ]
    refine wpAnyH_ready (rs := [12]) (by kernel_rfl) (by simp) ?_
    refine AllReadyH.cons (show _ = some { dst := none, op := _, type := _, pos := _, after := _, guard := _ } from rfl) (fun K hK => ?_) AllReadyH.nil
    go_simp
    have HC6 := Lib.hid (after_set (o := 8) HC5.out.1 HC5.out.2 HNb.out (.slice A5 ((s1.nd i).asked.length + 1) c5))
    refine hK.out _ _ (HC6.out) (fun hHeld => ?_)
    clear hK K
    try simp only [Act.put, List.setIfInBounds_toArray, List.set_cons_zero, List.set_cons_succ]
    refine wpAnyH_done (by kernel_rfl) ?_ _
    clear hHeld
    obtain ⟨hM6, hF6⟩ := HS5.out
    have hF6' := HF2.out.trans hF6
    obtain ⟨rb, nf, ns⟩ := res_box HP.out.mem hF6'
    have HM6 := Lib.hid hM6
    have HF6 := Lib.hid ((FK.below ((Below.refl _ _).alloc (Nat.le_refl _) _)).trans hF6')
    have q0 := Lib.cell_of_heap rb 0
    have q1 := Lib.cell_of_heap rb 1
    have z0 := Lib.frozen_of_heap rb 0
    have z1 := Lib.frozen_of_heap rb 1
    obtain ⟨b0, b1⟩ := HC6.out
    clear hM6 hF6 hF6' rb
    generalize W5.setCell ⟨L.nb i, 8, none⟩ (.slice A5 ((s1.nd i).asked.length + 1) c5) = W6 at HM6 HF6 q0 q1 z0 z1 b0 b1 ⊢
    obtain ⟨r0, r1⟩ := two_set q0 q1 (.string o.t) (.int .i64 o.e)
    go_wp2_with fail
    exact bodyPost_ret (v := .agg #[.string o.t, .int .i64 o.e]) (by simp [results, Tryd.results29, go_sem, r0, r1]) rfl ⟨_, rfl, (HM6.out.box nf ns _).box nf ns _, (HF6.out.box (Nat.le_refl _) _).box (Nat.le_refl _) _, fun k hk => (if_neg hk.2).trans (HZ2.out k hk.1)⟩
end Go.Proofs.YtjcaeoacgoklmaaDoor
