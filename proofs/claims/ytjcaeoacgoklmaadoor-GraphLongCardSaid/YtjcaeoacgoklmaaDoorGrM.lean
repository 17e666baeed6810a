import Derived.Test.YtjcaeoacgoklmaaDoorGrH
import Derived.Test.YtjcaeoacgoklmaaDoorMp
import Derived.Test.YtjcaeoacgoklmaaDoorProg
import Derived.WalkKit
import Derived.WalkLawsBesides
import Derived.WalkSpells
import Derived.WalkSmall
import Derived.LoopTactic
import Derived.OwnWalk
import Derived.Outline
import Derived.Below
import Derived.Handy
import Derived.Deep.QuietTactic
import Derived.BigQuiet
import Derived.Deep.Draws
import Derived.Lib.ItoaLen
import Derived.Test.YtjcaeoacgoklmaaDoorShelf
import Derived.Maps.AppendAt
namespace Go.Proofs.YtjcaeoacgoklmaaDoor
open Go.RowKit
def itoaG (n : Nat) : ByteArray := ⟨(Lib.itoa (n : Int)).toArray⟩
/-- How an element of the map of nodes reads: a pointer. -/
def ptrR : Value → Option (DataW Unit × List MemPlace)
  | .pointer none => some (.lit (.int .i64 (-1)), [])
  | .pointer (some ⟨b, 0, none⟩) => some (.lit (.int .i64 b), [])
  | _ => none
def ptrV : Option Nat → Value
  | none => .pointer none
  | some b => .pointer (some ⟨b, 0, none⟩)
def ptrD : Option Nat → DataW Unit
  | none => .lit (.int .i64 (-1))
  | some b => .lit (.int .i64 b)
def nodeMK : MK Tryd.prog (Option Nat) where
  T := 45
  S := 9
  E := 49
  val := ptrV
  dat := ptrD
  zero := none
  R := ptrR
  hR := fun a => by cases a <;> rfl
  inv := fun {v a ps} h => by
    unfold ptrR at h
    split at h
    · cases a with
      | none => rfl
      | some b =>
        simp only [ptrD, Option.some.injEq, Prod.mk.injEq, DataW.lit.injEq, Lit.int.injEq, true_and] at h
        omega
    · cases a with
      | none =>
        simp only [ptrD, Option.some.injEq, Prod.mk.injEq, DataW.lit.injEq, Lit.int.injEq, true_and] at h
        omega
      | some b =>
        simp only [ptrD, Option.some.injEq, Prod.mk.injEq, DataW.lit.injEq, Lit.int.injEq, true_and] at h
        have := h.1
        rename_i b'
        obtain rfl : b' = b := by omega
        rfl
    · cases h
  hS := Tryd.underlying9
  hT := Tryd.underlying45
  hz := fun _ => by kernel_rfl
def outR : Value → Option (DataW Unit × List MemPlace)
  | .agg ⟨[.string t, .int .i64 e]⟩ => some (.agg [.lit (.string t.data.toList), .lit (.int .i64 e)], [])
  | _ => none
def outMK : MK Tryd.prog Out where
  T := 46
  S := 9
  E := 53
  val := fun o => .agg #[.string o.t, .int .i64 o.e]
  dat := fun o => .agg [.lit (.string o.t.data.toList), .lit (.int .i64 o.e)]
  zero := ⟨noneB, 0⟩
  R := outR
  hR := fun a => rfl
  inv := fun {v a ps} h => by
    unfold outR at h
    split at h
    · rename_i t e
      simp only [Option.some.injEq, Prod.mk.injEq, DataW.agg.injEq, List.cons.injEq, DataW.lit.injEq, Lit.string.injEq, Lit.int.injEq, and_true, true_and] at h
      obtain ⟨⟨h1, h2⟩, -⟩ := h
      rw [list_inj h1, h2]
    · cases h
  hS := Tryd.underlying9
  hT := Tryd.underlying46
  hz := fun _ => by kernel_rfl
/-- Where a graph lies. -/
structure Lay where
  G : Nat
  M : Nat
  I : Option Nat
  nb : Nat → Nat
  rA : Nat → Option Addr
  rC : Nat → Nat
  rb : Nat → Nat
  ro : Nat → Nat
def ndCells (r : Rule) (A : Option Addr) (c : Nat) (x : Nd) (v : Value) : Array Value := #[.string r.name, .int .i64 r.kind, .slice A r.refs.length c, .string r.text, .int .i64 x.ran, .bool x.busy, .bool x.kept, .int .i64 x.sets, v, .string x.came.t, .int .i64 x.came.e]
def askedCells (l : List (ByteArray × Out)) : List Value := l.flatMap fun x => [.string x.1, .string x.2.t, .int .i64 x.2.e]
def Foot (L : Lay) (n : Nat) (av : Nat → Value) (k : Nat) : Prop := k = L.G ∨ ∃ i, i < n ∧ (k = L.nb i ∨ (av i).ownBlock = some k)
def Stat (L : Lay) (E : Env) (k : Nat) : Prop := k = L.M ∨ L.I = some k ∨ (∃ i, i < E.rules.length ∧ 0 < (ruleN E i).refs.length ∧ k = L.rb i) ∨ Tryd.prog.globalNamed "internal/strconv.uint64pow10" = some k
def TabG (w : World) : Prop := Lib.TabIs Tryd.prog w "internal/strconv.uint64pow10" .u64 Lib.pow10Tab
theorem tab_keep {w w' : World} (h : TabG w) (hb : ∀ g, Tryd.prog.globalNamed "internal/strconv.uint64pow10" = some g → w'.heap[g]? = w.heap[g]?) : TabG w' := by
  unfold TabG Lib.TabIs World.var? at h ⊢
  cases hg : Tryd.prog.globalNamed "internal/strconv.uint64pow10" with
  | none => rw [hg] at h; cases h
  | some g =>
    rw [hg] at h
    simp only [Option.bind_some] at h ⊢
    rw [hb g hg]
    exact h
/-- The graph E, in the state s, lies in the world. -/
structure Mem (L : Lay) (E : Env) (s : St) (av : Nat → Value) (W : World) : Prop where
  g : W.heap[L.G]? = some (.cells #[.map (some L.M), .map L.I, .int .i64 s.sets, .int .i64 s.runs] 48 (0, 0))
  nd : ∀ i, i < E.rules.length → W.heap[L.nb i]? = some (.cells (ndCells (ruleN E i) (L.rA i) (L.rC i) (s.nd i) (av i)) 55 (0, 0))
  row : ∀ i, i < E.rules.length → W.ownsRow 0 74 3 (av i) (s.nd i).asked.length (askedCells (s.nd i).asked)
  nm : MapIs nodeMK W L.M 1000000 (fun a => (findR E a).map fun i => some (L.nb i))
  im : match L.I with | none => ∀ a, E.inp a = none | some b => MapIs outMK W b 1000000 (fun a => (E.inp a).map fun t => ⟨t, 0⟩)
  refs : ∀ i, i < E.rules.length → ∀ j a, (ruleN E i).refs[j]? = some a → L.rA i = some ⟨L.rb i, L.ro i, none⟩ ∧ W.cell? ⟨L.rb i, L.ro i + j, none⟩ = some (.string a)
  inj : ∀ i j, i < E.rules.length → j < E.rules.length → L.nb i = L.nb j → i = j
  ng : ∀ i, i < E.rules.length → L.nb i ≠ L.G
  ag : ∀ i k, i < E.rules.length → (av i).ownBlock = some k → k ≠ L.G ∧ ∀ j, j < E.rules.length → k ≠ L.nb j ∧ ((av j).ownBlock = some k → j = i)
  stat : ∀ k, Stat L E k → ¬ Foot L E.rules.length av k ∧ k < W.heap.size
  tab : TabG W
/-- All but the graph's own blocks stays. -/
structure FK (L : Lay) (n : Nat) (av av' : Nat → Value) (W W' : World) : Prop where
  os : W'.os = W.os
  tape : W'.tape = W.tape
  output : W'.output = W.output
  size : W.heap.size ≤ W'.heap.size
  block : ∀ k, k < W.heap.size → ¬ Foot L n av k → W'.heap[k]? = W.heap[k]? ∧ ¬ Foot L n av' k
theorem FK.refl (L : Lay) (n : Nat) (av : Nat → Value) (W : World) : FK L n av av W W := ⟨rfl, rfl, rfl, Nat.le_refl _, fun _ _ h => ⟨rfl, h⟩⟩
theorem FK.trans {L : Lay} {n : Nat} {av av' av'' : Nat → Value} {a b c : World} (h : FK L n av av' a b) (h' : FK L n av' av'' b c) : FK L n av av'' a c :=
  ⟨h'.os.trans h.os, h'.tape.trans h.tape, h'.output.trans h.output, Nat.le_trans h.size h'.size, fun k hk hf => by
    obtain ⟨h1, h2⟩ := h.block k hk hf
    obtain ⟨h3, h4⟩ := h'.block k (Nat.lt_of_lt_of_le hk h.size) h2
    exact ⟨h3.trans h1, h4⟩⟩
theorem blk_lt {w : World} {b : Nat} {o : Obj} (h : w.heap[b]? = some o) : b < w.heap.size := (Array.getElem?_eq_some_iff.1 h).1
theorem FK.cell {L : Lay} {n : Nat} {av av' : Nat → Value} {W W' : World} (h : FK L n av av' W W') {p : Addr} {v : Value} (hp : ¬ Foot L n av p.block) (hc : W.cell? p = some v) : W'.cell? p = some v := by
  rw [World.cell?_of_block (w := W) (h.block p.block (World.block_lt_of_cell? _ _ hc) hp).1]
  exact hc
/-- What only grows. -/
theorem FK.below {L : Lay} {n : Nat} {av : Nat → Value} {W W' : World} (h : Below W.heap.size W W') : FK L n av av W W' := ⟨h.os, h.tape, h.output, h.size, fun k hk hf => ⟨h.block k hk, hf⟩⟩
theorem Mem.lt {L : Lay} {E : Env} {s : St} {av : Nat → Value} {W : World} (h : Mem L E s av W) {k : Nat} (hk : Foot L E.rules.length av k) : k < W.heap.size := by
  rcases hk with rfl | ⟨i, hi, rfl | ho⟩
  · exact blk_lt h.g
  · exact blk_lt (h.nd i hi)
  · rcases (h.row i hi).2 with ⟨hv, _⟩ | ⟨g, cap, cur, hv, _, hg, _⟩
    · rw [hv] at ho; simp [Value.ownBlock] at ho
    · rw [hv] at ho
      simp only [Value.ownBlock, Option.some.injEq] at ho
      subst ho
      exact blk_lt hg
/-- A step that writes in one node's block, or in its row, or lays new blocks. -/
theorem Mem.upd {L : Lay} {E : Env} {s : St} {av : Nat → Value} {W W' : World} (h : Mem L E s av W) {i : Nat} (hi : i < E.rules.length) {x : Nd} {v : Value} (hn : W'.heap[L.nb i]? = some (.cells (ndCells (ruleN E i) (L.rA i) (L.rC i) x v) 55 (0, 0)))
    (hk : ∀ k, k < W.heap.size → k ≠ L.nb i → (av i).ownBlock ≠ some k → W'.heap[k]? = W.heap[k]?) (hr : W'.ownsRow 0 74 3 v x.asked.length (askedCells x.asked)) (hv : ∀ k, v.ownBlock = some k → (av i).ownBlock = some k ∨ W.heap.size ≤ k) (hs : W.heap.size ≤ W'.heap.size) :
    Mem L E (s.put i x) (fun j => if j = i then v else av j) W' := by
  have hfoot : ∀ k, Foot L E.rules.length (fun j => if j = i then v else av j) k → Foot L E.rules.length av k ∨ W.heap.size ≤ k := by
    rintro k (rfl | ⟨j, hj, rfl | ho⟩)
    · exact .inl (.inl rfl)
    · exact .inl (.inr ⟨j, hj, .inl rfl⟩)
    · by_cases e : j = i
      · subst e
        simp only [if_true] at ho
        rcases hv k ho with h1 | h1
        · exact .inl (.inr ⟨j, hj, .inr h1⟩)
        · exact .inr h1
      · simp only [if_neg e] at ho
        exact .inl (.inr ⟨j, hj, .inr ho⟩)
  have hst : ∀ k, Stat L E k → W'.heap[k]? = W.heap[k]? := fun k hk1 => by
    obtain ⟨h1, h2⟩ := h.stat k hk1
    exact hk k h2 (fun e => h1 (.inr ⟨i, hi, .inl e⟩)) (fun e => h1 (.inr ⟨i, hi, .inr e⟩))
  refine ⟨?_, fun j hj => ?_, fun j hj => ?_, h.nm.keep (hst _ (.inl rfl)), ?_, fun j hj q a ha => ?_, h.inj, h.ng, fun j k hj ho => ?_, fun k hk1 => ?_, tab_keep h.tab fun g hg => hst g (.inr (.inr (.inr hg)))⟩
  · rw [hk _ (blk_lt h.g) (fun e => h.ng i hi e.symm) (fun e => (h.ag i _ hi e).1 rfl)]
    exact h.g
  · by_cases e : j = i
    · subst e
      simp only [St.put_same, if_true]
      exact hn
    · simp only [St.put_other _ _ e, if_neg e]
      rw [hk _ (blk_lt (h.nd j hj)) (fun e2 => e (h.inj j i hj hi e2)) (fun e2 => ((h.ag i _ hi e2).2 j hj).1 rfl)]
      exact h.nd j hj
  · by_cases e : j = i
    · subst e
      simp only [St.put_same, if_true]
      exact hr
    · simp only [St.put_other _ _ e, if_neg e]
      refine ⟨(h.row j hj).1, ?_⟩
      rcases (h.row j hj).2 with h0 | ⟨g, cap, cur, hv2, hb, hg, h3⟩
      · exact .inl h0
      · refine .inr ⟨g, cap, cur, hv2, hb, ?_, h3⟩
        have ho : (av j).ownBlock = some g := by rw [hv2]; rfl
        rw [hk g (blk_lt hg) (fun e2 => ((h.ag j g hj ho).2 i hi).1 e2) (fun e2 => e (((h.ag j g hj ho).2 i hi).2 e2).symm)]
        exact hg
  · have := h.im
    cases hI : L.I with
    | none => rw [hI] at this; exact this
    | some b => rw [hI] at this; exact this.keep (hst _ (.inr (.inl hI)))
  · obtain ⟨h1, h2⟩ := h.refs j hj q a ha
    refine ⟨h1, ?_⟩
    have hlen : 0 < (ruleN E j).refs.length := by have := (List.getElem?_eq_some_iff.1 ha).1; omega
    rw [World.cell?_of_block (w := W) (hst (L.rb j) (.inr (.inr (.inl ⟨j, hj, hlen, rfl⟩))))]
    exact h2
  · by_cases e : j = i
    · subst e
      simp only [if_true] at ho
      rcases hv k ho with h1 | h1
      · obtain ⟨h2, h3⟩ := h.ag j k hj h1
        refine ⟨h2, fun q hq => ⟨(h3 q hq).1, fun h4 => ?_⟩⟩
        by_cases e2 : q = j
        · exact e2
        · simp only [if_neg e2] at h4
          exact (h3 q hq).2 h4
      · refine ⟨fun e2 => by have := blk_lt h.g; omega, fun q hq => ⟨fun e2 => by have := blk_lt (h.nd q hq); omega, fun h4 => ?_⟩⟩
        by_cases e2 : q = j
        · exact e2
        · simp only [if_neg e2] at h4
          have := h.lt (.inr ⟨q, hq, .inr h4⟩)
          omega
    · simp only [if_neg e] at ho
      obtain ⟨h2, h3⟩ := h.ag j k hj ho
      refine ⟨h2, fun q hq => ⟨(h3 q hq).1, fun h4 => ?_⟩⟩
      by_cases e2 : q = i
      · subst e2
        simp only [if_true] at h4
        rcases hv k h4 with h5 | h5
        · exact (h3 q hq).2 h5
        · have := h.lt (.inr ⟨j, hj, .inr ho⟩)
          omega
      · simp only [if_neg e2] at h4
        exact (h3 q hq).2 h4
  · obtain ⟨h1, h2⟩ := h.stat k hk1
    refine ⟨fun hf => ?_, Nat.lt_of_lt_of_le h2 hs⟩
    rcases hfoot k hf with h3 | h3
    · exact h1 h3
    · omega
theorem Mem.updFK {L : Lay} {E : Env} {s : St} {av : Nat → Value} {W W' : World} (_h : Mem L E s av W) {i : Nat} (hi : i < E.rules.length) {v : Value}
    (hk : ∀ k, k < W.heap.size → k ≠ L.nb i → (av i).ownBlock ≠ some k → W'.heap[k]? = W.heap[k]?) (hv : ∀ k, v.ownBlock = some k → (av i).ownBlock = some k ∨ W.heap.size ≤ k) (hs : W.heap.size ≤ W'.heap.size) (h1 : W'.os = W.os) (h2 : W'.tape = W.tape) (h3 : W'.output = W.output) :
    FK L E.rules.length av (fun j => if j = i then v else av j) W W' := by
  refine ⟨h1, h2, h3, hs, fun k hk1 hf => ⟨hk k hk1 (fun e => hf (.inr ⟨i, hi, .inl e⟩)) (fun e => hf (.inr ⟨i, hi, .inr e⟩)), ?_⟩⟩
  rintro (rfl | ⟨j, hj, rfl | ho⟩)
  · exact hf (.inl rfl)
  · exact hf (.inr ⟨j, hj, .inl rfl⟩)
  · by_cases e : j = i
    · subst e
      simp only [if_true] at ho
      rcases hv k ho with h4 | h4
      · exact hf (.inr ⟨j, hj, .inr h4⟩)
      · omega
    · simp only [if_neg e] at ho
      exact hf (.inr ⟨j, hj, .inr ho⟩)
/-- A step that only lays new blocks. -/
theorem Mem.later {L : Lay} {E : Env} {s : St} {av : Nat → Value} {W W' : World} (h : Mem L E s av W) (hb : Below W.heap.size W W') : Mem L E s av W' := by
  have hst : ∀ k, Stat L E k → W'.heap[k]? = W.heap[k]? := fun k hk1 => hb.block k (h.stat k hk1).2
  refine ⟨?_, fun j hj => ?_, fun j hj => ?_, h.nm.keep (hst _ (.inl rfl)), ?_, fun j hj q a ha => ?_, h.inj, h.ng, h.ag, fun k hk1 => ⟨(h.stat k hk1).1, Nat.lt_of_lt_of_le (h.stat k hk1).2 hb.size⟩, tab_keep h.tab fun g hg => hst g (.inr (.inr (.inr hg)))⟩
  · rw [hb.block _ (blk_lt h.g)]; exact h.g
  · rw [hb.block _ (blk_lt (h.nd j hj))]; exact h.nd j hj
  · refine ⟨(h.row j hj).1, ?_⟩
    rcases (h.row j hj).2 with h0 | ⟨g, cap, cur, hv2, hb2, hg, h3⟩
    · exact .inl h0
    · exact .inr ⟨g, cap, cur, hv2, hb2, (hb.block g (blk_lt hg)).trans hg, h3⟩
  · have := h.im
    cases hI : L.I with
    | none => rw [hI] at this; exact this
    | some b => rw [hI] at this; exact this.keep (hst _ (.inr (.inl hI)))
  · obtain ⟨h1, h2⟩ := h.refs j hj q a ha
    exact ⟨h1, (hb.cell (World.block_lt_of_cell? _ _ h2)).trans h2⟩
/-- The graph's own block written. -/
theorem Mem.updG {L : Lay} {E : Env} {s s' : St} {av : Nat → Value} {W W' : World} (h : Mem L E s av W) (hn : s'.nd = s.nd) (hg : W'.heap[L.G]? = some (.cells #[.map (some L.M), .map L.I, .int .i64 s'.sets, .int .i64 s'.runs] 48 (0, 0))) (hk : ∀ k, k ≠ L.G → W'.heap[k]? = W.heap[k]?) (hs : W'.heap.size = W.heap.size) : Mem L E s' av W' := by
  have hst : ∀ k, Stat L E k → W'.heap[k]? = W.heap[k]? := fun k hk1 => hk k (fun e => (h.stat k hk1).1 (.inl e))
  refine ⟨hg, fun j hj => ?_, fun j hj => ?_, h.nm.keep (hst _ (.inl rfl)), ?_, fun j hj q a ha => ?_, h.inj, h.ng, h.ag, fun k hk1 => ⟨(h.stat k hk1).1, by rw [hs]; exact (h.stat k hk1).2⟩, tab_keep h.tab fun g hg => hst g (.inr (.inr (.inr hg)))⟩
  · rw [hk _ (h.ng j hj), hn]; exact h.nd j hj
  · rw [hn]
    refine ⟨(h.row j hj).1, ?_⟩
    rcases (h.row j hj).2 with h0 | ⟨g, cap, cur, hv2, hb2, hg2, h3⟩
    · exact .inl h0
    · exact .inr ⟨g, cap, cur, hv2, hb2, (hk g (h.ag j g hj (by rw [hv2]; rfl)).1).trans hg2, h3⟩
  · have := h.im
    cases hI : L.I with
    | none => rw [hI] at this; exact this
    | some b => rw [hI] at this; exact this.keep (hst _ (.inr (.inl hI)))
  · obtain ⟨h1, h2⟩ := h.refs j hj q a ha
    have hlen : 0 < (ruleN E j).refs.length := by have := (List.getElem?_eq_some_iff.1 ha).1; omega
    exact ⟨h1, by rw [World.cell?_of_block (w := W) (hst (L.rb j) (.inr (.inr (.inl ⟨j, hj, hlen, rfl⟩))))]; exact h2⟩
theorem set_block {W : World} {b o : Nat} {cs : Array Value} {T : TypeId} {z : Nat × Nat} (h : W.heap[b]? = some (.cells cs T z)) (v : Value) : (W.setCell ⟨b, o, none⟩ v).heap[b]? = some (.cells (cs.setIfInBounds o v) T z) := by
  simp [World.setCell, Array.getElem?_modify, h]
theorem set_else {W : World} {b o k : Nat} (v : Value) (h : k ≠ b) : (W.setCell ⟨b, o, none⟩ v).heap[k]? = W.heap[k]? := Below.heap_setCell _ _ _ _ h
theorem set_size (W : World) (p : Addr) (v : Value) : (W.setCell p v).heap.size = W.heap.size := by simp
end Go.Proofs.YtjcaeoacgoklmaaDoor
