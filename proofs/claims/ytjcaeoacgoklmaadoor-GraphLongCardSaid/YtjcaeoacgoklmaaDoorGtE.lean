import Derived.Test.YtjcaeoacgoklmaaDoorGtD
import Derived.Test.YtjcaeoacgoklmaaDoorGrT
import Derived.Test.YtjcaeoacgoklmaaDoorKq
import Derived.Laws.OwnMore
namespace Go.Proofs.YtjcaeoacgoklmaaDoor
open Go.RowKit
/-! How the reference's graph of a chain lies. -/
structure RC where
  kept : Bool
  dv : Value
  wv : Value
  last : Out
  ran : Int
  seen : Int
def rc0 : RC := ⟨false, .slice none 0 0, .slice none 0 0, ⟨noneB, 0⟩, 0, -1⟩
def rcCells (i rb : Nat) (x : RC) : List Value := [.string (nmB i), .int .i64 1, .slice (some ⟨rb, 0, none⟩) 2 2, .string ⟨#[43]⟩, .bool x.kept, x.dv, x.wv, .string x.last.t, .int .i64 x.last.e, .int .i64 x.ran, .int .i64 x.seen]
def allC (rb : Nat → Nat) (xs : Nat → RC) : Nat → List Value
  | 0 => []
  | n + 1 => allC rb xs n ++ rcCells n (rb n) (xs n)
theorem rc_len (i rb : Nat) (x : RC) : (rcCells i rb x).length = 11 := rfl
theorem allC_len (rb : Nat → Nat) (xs : Nat → RC) : ∀ n, (allC rb xs n).length = n * 11
  | 0 => rfl
  | n + 1 => by simp only [allC, List.length_append, allC_len rb xs n, rc_len]; omega
theorem allC_at (rb : Nat → Nat) (xs : Nat → RC) : ∀ {n i o : Nat}, i < n → o < 11 → (allC rb xs n)[i * 11 + o]? = (rcCells i (rb i) (xs i))[o]?
  | 0, i, o, h, _ => by omega
  | n + 1, i, o, h, ho => by
    unfold allC
    rcases Nat.lt_or_ge i n with h1 | h1
    · rw [List.getElem?_append_left (by rw [allC_len]; omega)]
      exact allC_at rb xs h1 ho
    · obtain rfl : i = n := by omega
      rw [List.getElem?_append_right (by rw [allC_len]; omega), allC_len, Nat.add_sub_cancel_left]
theorem allC_ext (rb : Nat → Nat) {xs xs' : Nat → RC} : ∀ {n : Nat}, (∀ i, i < n → xs' i = xs i) → allC rb xs' n = allC rb xs n
  | 0, _ => rfl
  | n + 1, h => by unfold allC; rw [allC_ext rb (fun i hi => h i (by omega)), h n (by omega)]
def updC (xs : Nat → RC) (i : Nat) (x : RC) : Nat → RC := fun j => if j = i then x else xs j
theorem updC_same (xs : Nat → RC) (i : Nat) (x : RC) : updC xs i x i = x := by simp [updC]
theorem updC_else (xs : Nat → RC) {i j : Nat} (x : RC) (h : j ≠ i) : updC xs i x j = xs j := by simp [updC, h]
theorem updC_twice (xs : Nat → RC) (i : Nat) (x y : RC) : updC (updC xs i x) i y = updC xs i y := by
  funext j; unfold updC; split <;> rfl
theorem updC_self (xs : Nat → RC) (i : Nat) : updC xs i (xs i) = xs := by
  funext j; unfold updC; split
  · rename_i h; rw [h]
  · rfl
theorem allC_set (rb : Nat → Nat) (xs : Nat → RC) {x : RC} {o : Nat} {u : Value} : ∀ {n i : Nat}, i < n → o < 11 → (rcCells i (rb i) (xs i)).set o u = rcCells i (rb i) x → (allC rb xs n).set (i * 11 + o) u = allC rb (updC xs i x) n
  | 0, i, h, _, _ => by omega
  | n + 1, i, h, ho, he => by
    unfold allC
    rcases Nat.lt_or_ge i n with h1 | h1
    · rw [List.set_append_left _ _ (by rw [allC_len]; omega), allC_set rb xs h1 ho he, updC_else xs x (show n ≠ i by omega)]
    · obtain rfl : i = n := by omega
      rw [List.set_append_right _ _ (by rw [allC_len]; omega), allC_len, Nat.add_sub_cancel_left, he, updC_same, allC_ext rb (fun j hj => updC_else xs x (by omega))]
structure RL where
  G : Nat
  cA : Option Addr
  cc : Nat
  nb : Nat
  nc : Nat
  tb : Nat
  tc : Nat
  rb : Nat → Nat
def Stt (L : RL) (k b : Nat) : Prop := b = L.nb ∨ b = L.tb ∨ ∃ i, i < k ∧ b = L.rb i
def RF (L : RL) (uv : Value) (b : Nat) : Prop := b = L.G ∨ (∃ a, L.cA = some a ∧ a.block = b) ∨ uv.ownBlock = some b
structure RG (L : RL) (k : Nat) (t : ByteArray) (xs : Nat → RC) (us : List ByteArray) (uv : Value) (W : World) : Prop where
  g : W.heap[L.G]? = some (.cells #[.slice L.cA k L.cc, .slice (some ⟨L.nb, 0, none⟩) 1 L.nc, .slice (some ⟨L.tb, 0, none⟩) 1 L.tc, uv, .int .i64 1] 58 (0, 0))
  row : W.ownsRow 0 64 11 (.slice L.cA k L.cc) k (allC L.rb xs k)
  und : W.ownsRow 0 9 1 uv us.length (us.map .string)
  nm : W.cell? ⟨L.nb, 0, none⟩ = some (.string ⟨#[120]⟩)
  tx : W.cell? ⟨L.tb, 0, none⟩ = some (.string t)
  refs : ∀ i, i < k → ∀ j, j < 2 → W.cell? ⟨L.rb i, j, none⟩ = some (.string (lastN i))
  ne : ∀ b, Stt L k b → ¬ RF L uv b
  gne : ∀ a, L.cA = some a → a.block ≠ L.G
  ugne : uv.ownBlock ≠ some L.G
  ucne : ∀ a, L.cA = some a → uv.ownBlock ≠ some a.block
theorem RG.lt {L : RL} {k : Nat} {t : ByteArray} {xs : Nat → RC} {us : List ByteArray} {uv : Value} {W : World} (h : RG L k t xs us uv W) {b : Nat} (hb : Stt L k b ∨ RF L uv b) : b < W.heap.size := by
  rcases hb with (rfl | rfl | ⟨i, hi, rfl⟩) | (rfl | ⟨a, ha, rfl⟩ | hu)
  · exact World.block_lt_of_cell? _ _ h.nm
  · exact World.block_lt_of_cell? _ _ h.tx
  · exact World.block_lt_of_cell? _ _ (h.refs i hi 0 (by omega))
  · exact blk_lt h.g
  · exact (h.row.lt a.block (by rw [ha]; rfl)).2
  · exact (h.und.lt b hu).2
theorem own_keepR {w w' : World} {base : Nat} {e : TypeId} {size n : Nat} {v : Value} {xs : List Value} (h : w.ownsRow base e size v n xs) (hb : ∀ k, v.ownBlock = some k → w'.heap[k]? = w.heap[k]?) : w'.ownsRow base e size v n xs := by
  refine ⟨h.1, h.2.elim .inl fun ⟨g, cap, cur, hv, hg, hh, h1, h2, h3, h4⟩ => .inr ⟨g, cap, cur, hv, hg, ?_, h1, h2, h3, h4⟩⟩
  rw [hb g (by rw [hv]; rfl)]
  exact hh
theorem RG.keep {L : RL} {k : Nat} {t : ByteArray} {xs : Nat → RC} {us : List ByteArray} {uv : Value} {W W' : World} (h : RG L k t xs us uv W) (hk : ∀ b, Stt L k b ∨ RF L uv b → W'.heap[b]? = W.heap[b]?) : RG L k t xs us uv W' :=
  ⟨by rw [hk _ (.inr (.inl rfl))]; exact h.g, own_keepR h.row fun b hb => hk b (.inr (.inr (.inl (by
      cases hc : L.cA with
      | none => rw [hc] at hb; cases hb
      | some a => rw [hc] at hb; injection hb with hb; exact ⟨a, rfl, hb⟩)))), own_keepR h.und fun b hb => hk b (.inr (.inr (.inr hb))),
   by rw [World.cell?_of_block (w := W) (hk _ (.inl (.inl rfl)))]; exact h.nm, by rw [World.cell?_of_block (w := W) (hk _ (.inl (.inr (.inl rfl))))]; exact h.tx,
   fun i hi j hj => by rw [World.cell?_of_block (w := W) (hk _ (.inl (.inr (.inr ⟨i, hi, rfl⟩))))]; exact h.refs i hi j hj, h.ne, h.gne, h.ugne, h.ucne⟩
theorem RG.later {L : RL} {k : Nat} {t : ByteArray} {xs : Nat → RC} {us : List ByteArray} {uv : Value} {W W' : World} (h : RG L k t xs us uv W) (hb : Below W.heap.size W W') : RG L k t xs us uv W' :=
  h.keep fun b hb' => hb.block b (h.lt hb')
theorem RG.cA_some {L : RL} {k : Nat} {t : ByteArray} {xs : Nat → RC} {us : List ByteArray} {uv : Value} {W : World} (h : RG L k t xs us uv W) (hk : 0 < k) : ∃ cb, L.cA = some ⟨cb, 0, none⟩ := by
  rcases h.row.2 with ⟨_, h0⟩ | ⟨g, cap, cur, hv, _⟩
  · omega
  · injection hv with hv
    exact ⟨g, hv⟩
theorem RG.cell {L : RL} {k : Nat} {t : ByteArray} {xs : Nat → RC} {us : List ByteArray} {uv : Value} {W : World} (h : RG L k t xs us uv W) {cb : Nat} (hc : L.cA = some ⟨cb, 0, none⟩) {i o : Nat} (hi : i < k) (ho : o < 11) : W.cell? ⟨cb, i * 11 + o, none⟩ = (rcCells i (L.rb i) (xs i))[o]? := by
  have hr := h.row
  rw [hc] at hr
  rw [hr.cellAt _ (by omega), allC_at _ _ hi ho]
theorem RG.free {L : RL} {k : Nat} {t : ByteArray} {xs : Nat → RC} {us : List ByteArray} {uv : Value} {W : World} (h : RG L k t xs us uv W) {cb : Nat} (hc : L.cA = some ⟨cb, 0, none⟩) (o : Nat) : W.frozen? ⟨cb, o, none⟩ = false := by
  have hr := h.row
  rw [hc] at hr
  exact hr.frozenAt o
theorem RG.cellG {L : RL} {k : Nat} {t : ByteArray} {xs : Nat → RC} {us : List ByteArray} {uv : Value} {W : World} (h : RG L k t xs us uv W) (o : Nat) : W.cell? ⟨L.G, o, none⟩ = (#[.slice L.cA k L.cc, .slice (some ⟨L.nb, 0, none⟩) 1 L.nc, .slice (some ⟨L.tb, 0, none⟩) 1 L.tc, uv, .int .i64 1] : Array Value)[o]? := Lib.cell_of_heap h.g o
theorem RG.freeG {L : RL} {k : Nat} {t : ByteArray} {xs : Nat → RC} {us : List ByteArray} {uv : Value} {W : World} (h : RG L k t xs us uv W) (o : Nat) : W.frozen? ⟨L.G, o, none⟩ = false := Lib.frozen_of_heap h.g o
theorem set_elseR (W : World) {p : Addr} {b : Nat} (v : Value) (h : b ≠ p.block) : (W.setCell p v).heap[b]? = W.heap[b]? := Below.heap_setCell _ _ _ _ h
theorem RG.store {L : RL} {k : Nat} {t : ByteArray} {xs : Nat → RC} {us : List ByteArray} {uv : Value} {W : World} (h : RG L k t xs us uv W) {cb : Nat} (hc : L.cA = some ⟨cb, 0, none⟩) {i o : Nat} (hi : i < k) (ho : o < 11) {u : Value} {x : RC} (hx : (rcCells i (L.rb i) (xs i)).set o u = rcCells i (L.rb i) x) :
    RG L k t (updC xs i x) us uv (W.setCell ⟨cb, i * 11 + o, none⟩ u) := by
  have hne : ∀ b, b ≠ cb → (W.setCell ⟨cb, i * 11 + o, none⟩ u).heap[b]? = W.heap[b]? := fun b hb => set_elseR W u hb
  have hr := h.row
  rw [hc] at hr
  have hs := (hr.stored (i * 11 + o) u).1
  rw [allC_set L.rb xs hi ho hx, ← hc] at hs
  have hgn : L.G ≠ cb := fun e => h.gne _ hc e.symm
  have hst : ∀ b, Stt L k b → b ≠ cb := fun b hb e => h.ne b hb (.inr (.inl ⟨_, hc, e.symm⟩))
  exact ⟨by rw [hne _ hgn]; exact h.g, hs, own_keepR h.und fun b hb => hne b (fun e => h.ucne _ hc (by rw [hb, e])),
    by rw [World.cell?_of_block (w := W) (hne _ (hst _ (.inl rfl)))]; exact h.nm, by rw [World.cell?_of_block (w := W) (hne _ (hst _ (.inr (.inl rfl))))]; exact h.tx,
    fun a ha j hj => by rw [World.cell?_of_block (w := W) (hne _ (hst _ (.inr (.inr ⟨a, ha, rfl⟩))))]; exact h.refs a ha j hj, h.ne, h.gne, h.ugne, h.ucne⟩
theorem fi_set {F F' : Nat → Prop} {W W' : World} (h : FI F F' W W') {p : Addr} (hp : F' p.block ∨ W.heap.size ≤ p.block) (u : Value) : FI F F' W (W'.setCell p u) :=
  ⟨h.os, h.tape, h.output, by rw [set_size]; exact h.size, fun b hb hf => ⟨by
    rw [set_elseR W' u (fun e => by
      rcases hp with hp | hp
      · exact (h.block b hb hf).2 (e ▸ hp)
      · omega)]
    exact (h.block b hb hf).1, (h.block b hb hf).2⟩⟩
end Go.Proofs.YtjcaeoacgoklmaaDoor
