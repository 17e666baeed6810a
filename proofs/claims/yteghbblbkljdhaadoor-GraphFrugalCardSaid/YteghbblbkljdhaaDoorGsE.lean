import Derived.Test.YteghbblbkljdhaaDoorGsB
import Derived.LoopTactic
import Derived.BigQuiet
import Derived.Maps.AppendAt
namespace Go.Proofs.YteghbblbkljdhaaDoor
open Go.RowKit
def strCells (l : List ByteArray) : List Value := l.map .string
theorem info9 : (Tryd.prog.info? 9).map (fun i => (i.zero, i.size, i.bytes)) = some (some (.string ⟨#[]⟩), 1, 16) := by kernel_rfl
/-- Rows of one's own, of names and of texts; A: the blocks of a graph. -/
structure Rows2 (W w : World) (A : Nat → Prop) (nv tv : Value) (ns ts : List ByteArray) : Prop where
  n : w.ownsRow W.heap.size 9 1 nv ns.length (strCells ns)
  t : w.ownsRow W.heap.size 9 1 tv ts.length (strCells ts)
  nF : ∀ k, nv.ownBlock = some k → ¬ A k
  tF : ∀ k, tv.ownBlock = some k → ¬ A k
  nt : ∀ k, nv.ownBlock = some k → tv.ownBlock ≠ some k
theorem own_lt {w : World} {base : Nat} {e : TypeId} {size n : Nat} {v : Value} {xs : List Value} (h : w.ownsRow base e size v n xs) {k : Nat} (hk : v.ownBlock = some k) : base ≤ k ∧ k < w.heap.size := by
  rcases h.2 with ⟨hv, _⟩ | ⟨g, cap, cur, hv, hb, hg, _⟩
  · rw [hv] at hk; cases hk
  · rw [hv] at hk
    simp only [Value.ownBlock, Option.some.injEq] at hk
    subst hk
    exact ⟨hb, blk_lt hg⟩
theorem own_keepG {w w' : World} {base : Nat} {e : TypeId} {size n : Nat} {v : Value} {xs : List Value} (h : w.ownsRow base e size v n xs) (hb : ∀ k, v.ownBlock = some k → w'.heap[k]? = w.heap[k]?) : w'.ownsRow base e size v n xs := by
  refine ⟨h.1, ?_⟩
  rcases h.2 with h0 | ⟨g, cap, cur, hv, hg, hgg, h3⟩
  · exact .inl h0
  · exact .inr ⟨g, cap, cur, hv, hg, (hb g (by rw [hv]; rfl)).trans hgg, h3⟩
theorem Rows2.step {W w w' : World} {L : Lay} {E : Env} {av : Nat → Value} {L' : Lay} {E' : Env} {av' : Nat → Value} {nv tv : Value} {ns ts : List ByteArray} (h : Rows2 W w (AllB L E av) nv tv ns ts) (hs : Stp L E av L' E' av' w w') : Rows2 W w' (AllB L' E' av') nv tv ns ts := by
  have key : ∀ k, ¬ AllB L E av k → ¬ FootI L E.rules.length av k := fun k hk hf => hk (hf.elim .inl (fun h1 => .inr (.inr (.inl h1))))
  exact ⟨own_keepG h.n fun k hk => (hs.fi.block k (own_lt h.n hk).2 (key k (h.nF k hk))).1, own_keepG h.t fun k hk => (hs.fi.block k (own_lt h.t hk).2 (key k (h.tF k hk))).1, fun k hk => hs.all k (own_lt h.n hk).2 (h.nF k hk), fun k hk => hs.all k (own_lt h.t hk).2 (h.tF k hk), h.nt⟩
theorem Rows2.later {W w w' : World} {A : Nat → Prop} {nv tv : Value} {ns ts : List ByteArray} (h : Rows2 W w A nv tv ns ts) (hb : Below w.heap.size w w') : Rows2 W w' A nv tv ns ts :=
  ⟨own_keepG h.n fun k hk => hb.block k (own_lt h.n hk).2, own_keepG h.t fun k hk => hb.block k (own_lt h.t hk).2, h.nF, h.tF, h.nt⟩
theorem Rows2.pushN {W w Y w' : World} {A : Nat → Prop} {nv tv v : Value} {ns ts : List ByteArray} {a : ByteArray} (h : Rows2 W w A nv tv ns ts) (hA : ∀ k, A k → k < w.heap.size) (hb : Below w.heap.size w Y) (hown : w'.ownsRow W.heap.size 9 1 v (ns.length + 1) (strCells ns ++ [.string a])) (hg : Y.grownBy w' nv.ownBlock) (ho : v.ownBlock = nv.ownBlock ∨ v.ownBlock = some Y.heap.size) : Rows2 W w' A v tv (ns ++ [a]) ts := by
  refine ⟨by simpa [strCells] using hown, own_keepG h.t fun k hk => ?_, fun k hk => ?_, h.tF, fun k hk hk2 => ?_⟩
  · have h1 := (own_lt h.t hk).2
    rw [hg.block k (Nat.lt_of_lt_of_le h1 hb.size) (fun e => h.nt k e.symm hk), hb.block k h1]
  · rcases ho with e | e
    · exact h.nF k (e ▸ hk)
    · rw [e] at hk; injection hk with hk; subst hk
      intro hx; have := hA _ hx; have := hb.size; omega
  · rcases ho with e | e
    · exact h.nt k (e ▸ hk) hk2
    · rw [e] at hk; injection hk with hk; subst hk
      have := (own_lt h.t hk2).2; have := hb.size; omega
theorem Rows2.flip {W w : World} {A : Nat → Prop} {nv tv : Value} {ns ts : List ByteArray} (h : Rows2 W w A nv tv ns ts) : Rows2 W w A tv nv ts ns := ⟨h.t, h.n, h.tF, h.nF, fun k h1 h2 => h.nt k h2 h1⟩
theorem push_gr {W w Y w' : World} {nv tv : Value} {ns ts : List ByteArray} {L : Lay} {E : Env} {s : St} {av : Nat → Value} {c : Nat} (h : Rows2 W w (AllB L E av) nv tv ns ts) (hg : Gr L E s av c w) (hw : Own W (FootI L E.rules.length av) w) (hb : Below w.heap.size w Y) (hgr : Y.grownBy w' nv.ownBlock) : Gr L E s av c w' ∧ Own W (FootI L E.rules.length av) w' := by
  refine ⟨hg.keep (Nat.le_trans hb.size hgr.size) fun k hk => ?_, ⟨⟨(hgr.os.trans hb.os).trans hw.below.os, (hgr.tape.trans hb.tape).trans hw.below.tape, (hgr.output.trans hb.output).trans hw.below.output, Nat.le_trans hw.below.size (Nat.le_trans hb.size hgr.size), fun k hk => ?_⟩, hw.own⟩⟩
  · have h1 := hg.lt2 hk
    rw [hgr.block k (Nat.lt_of_lt_of_le h1 hb.size) (fun e => h.nF k e.symm hk), hb.block k h1]
  · have h1 := Nat.lt_of_lt_of_le hk hw.below.size
    rw [hgr.block k (Nat.lt_of_lt_of_le h1 hb.size) (fun e => by have := (own_lt h.n e.symm).1; omega), hb.block k h1]
    exact hw.below.block k hk
/-- What was set last. -/
def Last (E : Env) (ns ts : List ByteArray) : Prop := ns = [] ∧ ts = [] ∨ ∃ ns' n ts' t, ns = ns' ++ [n] ∧ ts = ts' ++ [t] ∧ ns'.length = ts'.length ∧ E.inp n = some t ∧ findR E n = none ∧ t.size ≤ 262144 ∧ n.size ≤ 1000000000000000
theorem last_set {E : Env} {n t : ByteArray} (h : E.inp n = some t) (hf : findR E n = none) (ht : t.size ≤ 262144) : setC E n t = 0 ∧ setsE E n t = E := by
  have h0 : setC E n t = 0 := by unfold setC; rw [hf, if_neg (by simp), if_neg (by omega)]
  exact ⟨h0, by unfold setsE; rw [if_pos h0]; exact setE_same h⟩
theorem last_new {E : Env} {n t : ByteArray} (h0 : setC E n t = 0) (hn : n.size ≤ 1000000000000000) {ns ts : List ByteArray} (hl : ns.length = ts.length) : Last (setsE E n t) (ns ++ [n]) (ts ++ [t]) := by
  have hf : findR E n = none := by
    unfold setC at h0
    cases hf : findR E n with
    | none => rfl
    | some i => rw [hf] at h0; simp at h0
  have ht : t.size ≤ 262144 := by
    unfold setC at h0
    rw [hf, if_neg (by simp)] at h0
    split at h0
    · cases h0
    · omega
  have hE : setsE E n t = setE E n t := by unfold setsE; rw [if_pos h0]
  rw [hE]
  refine .inr ⟨ns, n, ts, t, rfl, rfl, hl, ?_, hf, ht, hn⟩
  unfold setE
  simp
theorem Last.len {E : Env} {ns ts : List ByteArray} (h : Last E ns ts) : ns.length = ts.length := by
  rcases h with ⟨rfl, rfl⟩ | ⟨ns', n, ts', t, rfl, rfl, hl, _⟩
  · rfl
  · simp [hl]
theorem sets_no {E : Env} {n t : ByteArray} (h : setC E n t ≠ 0) : setsE E n t = E ∧ ∀ s, setsS E n t s = s := ⟨by unfold setsE; rw [if_neg h], fun s => by unfold setsS; rw [if_neg h]⟩
/-- The last one of a row. -/
theorem row_last {W w : World} {v : Value} {l : List ByteArray} {a : ByteArray} (h : w.ownsRow W.heap.size 9 1 v (l ++ [a]).length (strCells (l ++ [a]))) : ∃ g c, v = .slice (some ⟨g, 0, none⟩) (l.length + 1) c ∧ w.cell? ⟨g, l.length, none⟩ = some (.string a) ∧ v.ownBlock = some g := by
  rcases h.2 with ⟨_, h0⟩ | ⟨g, cap, cur, hv, _⟩
  · simp at h0
  · subst hv
    have h1 := h.cells (g := g) rfl l.length (.string a) (by simp [strCells])
    rw [add0] at h1
    exact ⟨g, cap, by rw [List.length_append]; rfl, h1, rfl⟩
/-- What is so between two rounds. -/
structure Fru (l : List Rule) (W w : World) (G c : Nat) (L : Lay) (E : Env) (s : St) (av : Nat → Value) (nv tv : Value) (ns ts : List ByteArray) : Prop where
  G : L.G = G
  gr : Gr L E s av c w
  own : Own W (FootI L E.rules.length av) w
  rules : E.rules = l
  rows : Rows2 W w (AllB L E av) nv tv ns ts
  last : Last E ns ts
theorem Fru.later {l : List Rule} {W w w' : World} {G c : Nat} {L : Lay} {E : Env} {s : St} {av : Nat → Value} {nv tv : Value} {ns ts : List ByteArray} (h : Fru l W w G c L E s av nv tv ns ts) (hb : Below w.heap.size w w') : Fru l W w' G c L E s av nv tv ns ts :=
  ⟨h.G, h.gr.later hb, h.own.later hb, h.rules, h.rows.later hb, h.last⟩
theorem Fru.step {l : List Rule} {W w w' : World} {G c : Nat} {L : Lay} {E : Env} {s : St} {av : Nat → Value} {nv tv : Value} {ns ts : List ByteArray} (h : Fru l W w G c L E s av nv tv ns ts) {L' : Lay} {s' : St} {av' : Nat → Value} {c' : Nat} (hG : L'.G = L.G) (hg : Gr L' E s' av' c' w') (hs : Stp L E av L' E av' w w') : Fru l W w' G c' L' E s' av' nv tv ns ts :=
  ⟨hG.trans h.G, hg, h.own.step hs.fi, h.rules, h.rows.step hs, h.last⟩
end Go.Proofs.YteghbblbkljdhaaDoor
