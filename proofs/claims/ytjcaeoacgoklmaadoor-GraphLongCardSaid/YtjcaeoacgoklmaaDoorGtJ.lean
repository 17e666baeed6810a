import Derived.Test.YtjcaeoacgoklmaaDoorGtI
import Derived.Lib.AppendStr
import Derived.Laws.IdiomStrings
import Derived.Lib.BufferRead
namespace Go.Proofs.YtjcaeoacgoklmaaDoor
open Go.RowKit
theorem row_bytes {w : World} {base n : Nat} {v : Value} {l : List UInt8} (h : w.ownsRow base 5 1 v n (Lib.byteCells l)) :
    (convert 76 9 v).run Tryd.prog w = .ok (.string ⟨l.toArray⟩) w := by
  have hn : l.length = n := by have := h.1; simpa [Lib.byteCells] using this
  rcases h.2 with ⟨rfl, h0⟩ | ⟨g, cap, cur, rfl, _, hg, _⟩
  · obtain rfl : l = [] := List.eq_nil_of_length_eq_zero (by omega)
    exact Lib.run_convert_nil_bytes w 76 9 5 0 Tryd.underlying76 Tryd.underlying5 Tryd.underlying9
  · have hc := h.cells (g := g) rfl
    subst hn
    exact run_convert_bytes_back (P := Tryd.prog) w 76 9 5 ⟨g, 0, none⟩ cap l Tryd.underlying76 Tryd.underlying5 Tryd.underlying9 (fun j hj => hc j _ (by simp [Lib.byteCells, List.getElem?_eq_getElem hj]))
def repB (ti : ByteArray) : Nat → List UInt8
  | 0 => []
  | n + 1 => repB ti n ++ ti.data.toList
theorem data_len (s : ByteArray) : s.data.toList.length = s.size := by rw [Array.length_toList]; rfl
theorem repB_len (ti : ByteArray) : ∀ n, (repB ti n).length = n * ti.size
  | 0 => by simp [repB]
  | n + 1 => by simp only [repB, List.length_append, repB_len ti n, data_len]; rw [Nat.add_mul]; omega
def JoinP (L : RL) (k : Nat) (t : ByteArray) (i : Nat) (xs : Nat → RC) (us : List ByteArray) (uv : Value) (W : World) : Ending → World → Prop := fun e W' => ∃ xs' uv' md mw, e = .returned (.agg #[.string (valN t (i + 1)).t, .int .i64 (valN t (i + 1)).e]) ∧ RG L k t xs' us uv' W' ∧ XR L k uv' (xs' i) md mw W' ∧ (∀ a, a < i → DoneC t a (xs' a)) ∧ (∀ a, i < a → xs' a = xs a) ∧ FI (RFx L uv (xs i)) (RFx L uv' (xs' i)) W W'
theorem join_end {L : RL} {k : Nat} {t : ByteArray} {i : Nat} {xs xs8 : Nat → RC} {us : List ByteArray} {uv uv8 : Value} {md mw : Nat} {W W1 W8 : World} {o : Out} {u v : Value} (h0 : RG L k t xs us uv W) (hb : Below W.heap.size W W1) (hf8 : FI (RFx L uv (xs i)) (RFx L uv8 (xs8 i)) W1 W8)
    (hr : RG L k t xs8 us uv8 W8) (hx : XR L k uv8 (xs8 i) md mw W8) (hd : ∀ a, a < i → DoneC t a (xs8 a)) (hs : ∀ a, i < a → xs8 a = xs a) (hq : ¬ RFx L uv8 (xs8 i) W.heap.size) (ho : valN t (i + 1) = o) :
    JoinP L k t i xs us uv W (.returned (.agg #[.string o.t, .int .i64 o.e])) ((W8.setCell ⟨W.heap.size, 0, none⟩ u).setCell ⟨W.heap.size, 1, none⟩ v) := by
  have hk : ∀ b, b ≠ W.heap.size → ((W8.setCell ⟨W.heap.size, 0, none⟩ u).setCell ⟨W.heap.size, 1, none⟩ v).heap[b]? = W8.heap[b]? := fun b hb => by
    rw [set_elseR _ _ hb, set_elseR _ _ hb]
  refine ⟨xs8, uv8, md, mw, by rw [ho], hr.keep fun b hb' => hk b (fun e => ?_), hx.keep fun b hb' => ⟨hk b (fun e => hq (.inr (e ▸ hb'))), hb'.elim (fun e => (hx.dn b e).1) (fun e => (hx.wn b e).1)⟩, hd, hs, ?_⟩
  · rcases hb' with hb' | hb'
    · have := h0.lt (.inl hb'); omega
    · exact hq (.inl (e ▸ hb'))
  · have h1 : FI (RFx L uv (xs i)) (RFx L uv (xs i)) W W1 := FI.below hb
    exact fi_set (fi_set (h1.trans hf8) (.inr (Nat.le_refl _)) u) (.inr (Nat.le_refl _)) v
theorem own_type {w : World} {base : Nat} {e : TypeId} {size n : Nat} {v : Value} {xs : List Value} (h : w.ownsRow base e size v n xs) {b : Nat} (hb : v.ownBlock = some b) : ∃ c, w.heap[b]? = some (.cells c e (0, 0)) := by
  rcases h.2 with ⟨rfl, _⟩ | ⟨g, cap, cur, rfl, _, hg, _⟩
  · cases hb
  · injection hb with hb
    exact ⟨cur, by rw [← hb]; exact hg⟩
theorem u8_out {L : RL} {k : Nat} {t : ByteArray} {xs : Nat → RC} {us : List ByteArray} {uv : Value} {x : RC} {md mw B n : Nat} {W : World} {bv : Value} {bs : List Value} (h : RG L k t xs us uv W) (hX : XR L k uv x md mw W) (ho : W.ownsRow B 5 1 bv n bs) {b : Nat} (hb : bv.ownBlock = some b) : ¬ RFx L uv x b := by
  obtain ⟨c, hc⟩ := own_type ho hb
  have key : ∀ {T : TypeId} {c' : Array Value}, T ≠ 5 → W.heap[b]? ≠ some (.cells c' T (0, 0)) := fun hT e => by
    rw [hc] at e
    injection e with e
    injection e with _ e
    exact hT e.symm
  rintro ((rfl | ⟨a, ha, rfl⟩ | hu) | hd | hw)
  · exact key (by decide) h.g
  · obtain ⟨c', hc'⟩ := own_type h.row (b := a.block) (by rw [ha]; rfl)
    exact key (by decide) hc'
  · obtain ⟨c', hc'⟩ := own_type h.und hu
    exact key (by decide) hc'
  · obtain ⟨ds, hds⟩ := hX.d
    obtain ⟨c', hc'⟩ := own_type hds hd
    exact key (by decide) hc'
  · obtain ⟨ws, hws⟩ := hX.w
    obtain ⟨c', hc'⟩ := own_type hws hw
    exact key (by decide) hc'
theorem FI.grown {F F' : Nat → Prop} {W1 Y W5 : World} {r : Option Nat} (h : FI F F' W1 Y) (hg : Y.grownBy W5 r) (hr : ∀ b, r = some b → W1.heap.size ≤ b) : FI F F' W1 W5 :=
  ⟨hg.os.trans h.os, hg.tape.trans h.tape, hg.output.trans h.output, Nat.le_trans h.size hg.size, fun b hb hf => ⟨(hg.block b (Nat.lt_of_lt_of_le hb h.size) (fun e => by have := hr b e.symm; omega)).trans (h.block b hb hf).1, (h.block b hb hf).2⟩⟩
/-- A row of bytes has grown: the graph stays. -/
theorem grow_keep {L : RL} {k : Nat} {t : ByteArray} {xs : Nat → RC} {us : List ByteArray} {uv : Value} {x : RC} {md mw B n : Nat} {Y W5 : World} {bv : Value} {bs : List Value} (h : RG L k t xs us uv Y) (hX : XR L k uv x md mw Y) (hB : ∀ b, Stt L k b → b < B) (ho : Y.ownsRow B 5 1 bv n bs) (hg : Y.grownBy W5 bv.ownBlock) :
    RG L k t xs us uv W5 ∧ XR L k uv x md mw W5 := by
  have hn : ∀ b, bv.ownBlock = some b → B ≤ b ∧ ¬ RFx L uv x b := fun b hb => ⟨(ho.lt b hb).1, u8_out h hX ho hb⟩
  refine ⟨h.keep fun b hb => hg.block b (h.lt hb) (fun e => ?_), hX.keep fun b hb => ⟨hg.block b (hX.lt hb) (fun e => (hn b e.symm).2 (.inr hb)), hb.elim (fun e => (hX.dn b e).1) (fun e => (hX.wn b e).1)⟩⟩
  rcases hb with hb | hb
  · have := hB b hb; have := (hn b e.symm).1; omega
  · exact (hn b e.symm).2 (.inl hb)
theorem own_below2 {w w' : World} {base : Nat} {e : TypeId} {size n : Nat} {v : Value} {xs : List Value} (h : w.ownsRow base e size v n xs) (hb : Below w.heap.size w w') : w'.ownsRow base e size v n xs := own_keepR h fun b e => hb.block b (h.lt b e).2
/-- What the loop of a join has come to. -/
structure JL (L : RL) (k : Nat) (t : ByteArray) (i : Nat) (xs : Nat → RC) (us : List ByteArray) (uv : Value) (W1 : World) (n : Nat) (bs : List UInt8) (xs' : Nat → RC) (uv' bv : Value) (wr : World) : Prop where
  n2 : n ≤ 2
  e0 : 0 < n → (valN t i).e = 0
  own : wr.ownsRow W1.heap.size 5 1 bv bs.length (Lib.byteCells bs)
  cont : ¬ 262144 < n * (valN t i).t.size → bs = repB (valN t i).t n
  len : bs.length ≤ 600000
  pre : AskPre L k t i xs' us uv' wr
  xr : XR L k uv' (xs' i) n n wr
  done : 0 < n → ∀ a, a < i → DoneC t a (xs' a)
  rest : ∀ a, i < a → xs' a = xs a
  fi : FI (RFx L uv (xs i)) (RFx L uv' (xs' i)) W1 wr
end Go.Proofs.YtjcaeoacgoklmaaDoor
