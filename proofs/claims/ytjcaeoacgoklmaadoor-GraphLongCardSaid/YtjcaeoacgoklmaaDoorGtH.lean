import Derived.Test.YtjcaeoacgoklmaaDoorGtG
namespace Go.Proofs.YtjcaeoacgoklmaaDoor
open Go.RowKit
/-! What a rule under way keeps: the names that it asked, what they came to. -/
structure XR (L : RL) (k : Nat) (uv : Value) (x : RC) (md mw : Nat) (W : World) : Prop where
  d : ∃ ds, W.ownsRow 0 9 1 x.dv md ds
  w : ∃ ws, W.ownsRow 0 40 2 x.wv mw ws
  dn : ∀ b, x.dv.ownBlock = some b → ¬ RF L uv b ∧ ¬ Stt L k b ∧ x.wv.ownBlock ≠ some b
  wn : ∀ b, x.wv.ownBlock = some b → ¬ RF L uv b ∧ ¬ Stt L k b
def RFx (L : RL) (uv : Value) (x : RC) (b : Nat) : Prop := RF L uv b ∨ x.dv.ownBlock = some b ∨ x.wv.ownBlock = some b
def DoneC (t : ByteArray) (i : Nat) (x : RC) : Prop := x.kept = true ∧ x.last = valN t (i + 1) ∧ x.seen = 1
def AskP (L : RL) (k : Nat) (t : ByteArray) (j : Nat) (xs : Nat → RC) (us : List ByteArray) (uv : Value) (W : World) : Ending → World → Prop := fun e W' => ∃ xs' uv', e = .returned (.agg #[.string (valN t j).t, .int .i64 (valN t j).e]) ∧ RG L k t xs' us uv' W' ∧ (∀ i, i < j → DoneC t i (xs' i)) ∧ (∀ i, j ≤ i → xs' i = xs i) ∧ FI (RF L uv) (RF L uv') W W'
structure AskPre (L : RL) (k : Nat) (t : ByteArray) (j : Nat) (xs : Nat → RC) (us : List ByteArray) (uv : Value) (W : World) : Prop where
  rg : RG L k t xs us uv W
  st : (∀ i, i < j → xs i = rc0) ∨ (∀ i, i < j → DoneC t i (xs i))
  un : ∀ i, i < j → nmB i ∉ us
  ul : us.length + j ≤ 100
  jk : j ≤ k
structure AskR (j : Nat) : Prop where
  ok : ∀ (L : RL) (k : Nat) (t : ByteArray) (xs : Nat → RC) (us : List ByteArray) (uv : Value) (W : World), k ≤ 24 → t.size ≤ 262144 → AskPre L k t j xs us uv W → Calls Tryd.prog 11 #[.pointer (some ⟨L.G, 0, none⟩), .string (lastN j)] W (AskP L k t j xs us uv W)
theorem XR.lt {L : RL} {k : Nat} {uv : Value} {x : RC} {md mw : Nat} {W : World} (h : XR L k uv x md mw W) {b : Nat} (hb : x.dv.ownBlock = some b ∨ x.wv.ownBlock = some b) : b < W.heap.size := by
  obtain ⟨ds, hd⟩ := h.d
  obtain ⟨ws, hw⟩ := h.w
  exact hb.elim (fun e => (hd.lt b e).2) (fun e => (hw.lt b e).2)
theorem XR.keep {L : RL} {k : Nat} {uv uv' : Value} {x : RC} {md mw : Nat} {W W' : World} (h : XR L k uv x md mw W) (hb : ∀ b, x.dv.ownBlock = some b ∨ x.wv.ownBlock = some b → W'.heap[b]? = W.heap[b]? ∧ ¬ RF L uv' b) : XR L k uv' x md mw W' := by
  obtain ⟨ds, hd⟩ := h.d
  obtain ⟨ws, hw⟩ := h.w
  exact ⟨⟨ds, own_keepR hd fun b e => (hb b (.inl e)).1⟩, ⟨ws, own_keepR hw fun b e => (hb b (.inr e)).1⟩, fun b e => ⟨(hb b (.inl e)).2, (h.dn b e).2⟩, fun b e => ⟨(hb b (.inr e)).2, (h.wn b e).2⟩⟩
theorem XR.step {L : RL} {k : Nat} {uv uv' : Value} {x : RC} {md mw : Nat} {W W' : World} (h : XR L k uv x md mw W) (hf : FI (RF L uv) (RF L uv') W W') : XR L k uv' x md mw W' :=
  h.keep fun b hb => hf.block b (h.lt hb) (hb.elim (fun e => (h.dn b e).1) (fun e => (h.wn b e).1))
theorem XR.later {L : RL} {k : Nat} {uv : Value} {x : RC} {md mw : Nat} {W W' : World} (h : XR L k uv x md mw W) (hf : Below W.heap.size W W') : XR L k uv x md mw W' := h.step (FI.below hf)
theorem FI.rfx {L : RL} {uv uv' : Value} {x : RC} {W W' : World} (h : FI (RF L uv) (RF L uv') W W') : FI (RFx L uv x) (RFx L uv' x) W W' :=
  ⟨h.os, h.tape, h.output, h.size, fun b hb hf => by
    obtain ⟨h1, h2⟩ := h.block b hb (fun e => hf (.inl e))
    exact ⟨h1, fun e => e.elim h2 (fun e => hf (.inr e))⟩⟩
/-- A row of the rule's own has grown, and is stored. -/
theorem d_step {L : RL} {k : Nat} {t : ByteArray} {xs : Nat → RC} {us : List ByteArray} {uv : Value} {W2 Y W5 : World} (h : RG L k t xs us uv W2) {cb i md mw : Nat} (hc : L.cA = some ⟨cb, 0, none⟩) (hi : i < k) (hX : XR L k uv (xs i) md mw W2) (hb : Below W2.heap.size W2 Y)
    {v : Value} {ds : List Value} (hown : W5.ownsRow 0 9 1 v (md + 1) ds) (hg : Y.grownBy W5 (xs i).dv.ownBlock) (ho : v.ownBlock = (xs i).dv.ownBlock ∨ v.ownBlock = some Y.heap.size) :
    RG L k t (updC xs i { xs i with dv := v }) us uv (W5.setCell ⟨cb, i * 11 + 5, none⟩ v) ∧ XR L k uv { xs i with dv := v } (md + 1) mw (W5.setCell ⟨cb, i * 11 + 5, none⟩ v) ∧ FI (RFx L uv (xs i)) (RFx L uv { xs i with dv := v }) W2 (W5.setCell ⟨cb, i * 11 + 5, none⟩ v) := by
  have hk : ∀ b, b < W2.heap.size → (xs i).dv.ownBlock ≠ some b → W5.heap[b]? = W2.heap[b]? := fun b hb1 hb2 => (hg.block b (Nat.lt_of_lt_of_le hb1 hb.size) (fun e => hb2 e.symm)).trans (hb.block b hb1)
  have h5 : RG L k t xs us uv W5 := h.keep fun b hb' => hk b (h.lt hb') (fun e => hb'.elim (hX.dn b e).2.1 (hX.dn b e).1)
  have h6 := h5.store hc hi (o := 5) (by omega) (u := v) (x := { xs i with dv := v }) rfl
  have hcb : RF L uv cb := .inr (.inl ⟨_, hc, rfl⟩)
  have hv : ∀ b, v.ownBlock = some b → ¬ RF L uv b ∧ ¬ Stt L k b ∧ (xs i).wv.ownBlock ≠ some b := fun b e => by
    rcases ho with ho | ho
    · exact hX.dn b (ho ▸ e)
    · rw [ho] at e
      injection e with e
      have hs := hb.size
      exact ⟨fun hr => by have := h.lt (.inr hr); omega, fun hr => by have := h.lt (.inl hr); omega, fun hr => by have := hX.lt (.inr hr); omega⟩
  have hne : ∀ b, b ≠ cb → (W5.setCell ⟨cb, i * 11 + 5, none⟩ v).heap[b]? = W5.heap[b]? := fun b hb => set_elseR W5 v hb
  obtain ⟨ws, hw⟩ := hX.w
  refine ⟨h6, ⟨⟨ds, own_keepR hown fun b e => hne b (fun e2 => (hv b e).1 (e2 ▸ hcb))⟩, ⟨ws, own_keepR (own_keepR hw fun b e => hk b (hX.lt (.inr e)) (fun e2 => (hX.dn b e2).2.2 e)) fun b e => hne b (fun e2 => (hX.wn b e).1 (e2 ▸ hcb))⟩, hv, fun b e => hX.wn b e⟩,
    ⟨hg.os.trans hb.os, hg.tape.trans hb.tape, hg.output.trans hb.output, by rw [set_size]; exact Nat.le_trans hb.size hg.size, fun b hb' hf => ⟨?_, fun hr => ?_⟩⟩⟩
  · rw [hne b (fun e => hf (.inl (e ▸ hcb)))]
    exact hk b hb' (fun e => hf (.inr (.inl e)))
  · rcases hr with hr | hr | hr
    · exact hf (.inl hr)
    · rcases ho with ho | ho
      · exact hf (.inr (.inl (ho ▸ hr)))
      · have hr : v.ownBlock = some b := hr
        rw [ho] at hr
        injection hr with hr
        have := hb.size
        omega
    · exact hf (.inr (.inr hr))
theorem w_step {L : RL} {k : Nat} {t : ByteArray} {xs : Nat → RC} {us : List ByteArray} {uv : Value} {W2 Y W5 : World} (h : RG L k t xs us uv W2) {cb i md mw : Nat} (hc : L.cA = some ⟨cb, 0, none⟩) (hi : i < k) (hX : XR L k uv (xs i) md mw W2) (hb : Below W2.heap.size W2 Y)
    {v : Value} {ws : List Value} (hown : W5.ownsRow 0 40 2 v (mw + 1) ws) (hg : Y.grownBy W5 (xs i).wv.ownBlock) (ho : v.ownBlock = (xs i).wv.ownBlock ∨ v.ownBlock = some Y.heap.size) :
    RG L k t (updC xs i { xs i with wv := v }) us uv (W5.setCell ⟨cb, i * 11 + 6, none⟩ v) ∧ XR L k uv { xs i with wv := v } md (mw + 1) (W5.setCell ⟨cb, i * 11 + 6, none⟩ v) ∧ FI (RFx L uv (xs i)) (RFx L uv { xs i with wv := v }) W2 (W5.setCell ⟨cb, i * 11 + 6, none⟩ v) := by
  have hk : ∀ b, b < W2.heap.size → (xs i).wv.ownBlock ≠ some b → W5.heap[b]? = W2.heap[b]? := fun b hb1 hb2 => (hg.block b (Nat.lt_of_lt_of_le hb1 hb.size) (fun e => hb2 e.symm)).trans (hb.block b hb1)
  have h5 : RG L k t xs us uv W5 := h.keep fun b hb' => hk b (h.lt hb') (fun e => hb'.elim (hX.wn b e).2 (hX.wn b e).1)
  have h6 := h5.store hc hi (o := 6) (by omega) (u := v) (x := { xs i with wv := v }) rfl
  have hcb : RF L uv cb := .inr (.inl ⟨_, hc, rfl⟩)
  have hv : ∀ b, v.ownBlock = some b → ¬ RF L uv b ∧ ¬ Stt L k b ∧ (xs i).dv.ownBlock ≠ some b := fun b e => by
    rcases ho with ho | ho
    · exact ⟨(hX.wn b (ho ▸ e)).1, (hX.wn b (ho ▸ e)).2, fun e2 => (hX.dn b e2).2.2 (ho ▸ e)⟩
    · rw [ho] at e
      injection e with e
      have hs := hb.size
      exact ⟨fun hr => by have := h.lt (.inr hr); omega, fun hr => by have := h.lt (.inl hr); omega, fun hr => by have := hX.lt (.inl hr); omega⟩
  have hne : ∀ b, b ≠ cb → (W5.setCell ⟨cb, i * 11 + 6, none⟩ v).heap[b]? = W5.heap[b]? := fun b hb => set_elseR W5 v hb
  obtain ⟨ds, hd⟩ := hX.d
  refine ⟨h6, ⟨⟨ds, own_keepR (own_keepR hd fun b e => hk b (hX.lt (.inl e)) (fun e2 => (hX.dn b e).2.2 e2)) fun b e => hne b (fun e2 => (hX.dn b e).1 (e2 ▸ hcb))⟩, ⟨ws, own_keepR hown fun b e => hne b (fun e2 => (hv b e).1 (e2 ▸ hcb))⟩, fun b e => ⟨(hX.dn b e).1, (hX.dn b e).2.1, fun e2 => (hv b e2).2.2 e⟩, fun b e => ⟨(hv b e).1, (hv b e).2.1⟩⟩,
    ⟨hg.os.trans hb.os, hg.tape.trans hb.tape, hg.output.trans hb.output, by rw [set_size]; exact Nat.le_trans hb.size hg.size, fun b hb' hf => ⟨?_, fun hr => ?_⟩⟩⟩
  · rw [hne b (fun e => hf (.inl (e ▸ hcb)))]
    exact hk b hb' (fun e => hf (.inr (.inr e)))
  · rcases hr with hr | hr | hr
    · exact hf (.inl hr)
    · exact hf (.inr (.inl hr))
    · rcases ho with ho | ho
      · exact hf (.inr (.inr (ho ▸ hr)))
      · have hr : v.ownBlock = some b := hr
        rw [ho] at hr
        injection hr with hr
        have := hb.size
        omega
end Go.Proofs.YtjcaeoacgoklmaaDoor
