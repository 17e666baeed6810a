import Derived.Test.YtjcaeoacgoklmaaDoorGtH
namespace Go.Proofs.YtjcaeoacgoklmaaDoor
open Go.RowKit
theorem infoS : (Tryd.prog.info? 9).map (fun i => (i.zero, i.size, i.bytes)) = some (some (.string ⟨#[]⟩), 1, 16) := by kernel_rfl
theorem infoAn : (Tryd.prog.info? 40).map (fun i => (i.zero, i.size, i.bytes)) = some (some (.agg #[.string ⟨#[]⟩, .int .i64 0]), 2, 24) := by kernel_rfl
def OfP (L : RL) (k : Nat) (t : ByteArray) (i : Nat) (xs : Nat → RC) (us : List ByteArray) (uv : Value) (md mw : Nat) (W : World) : Ending → World → Prop := fun e W' => ∃ xs' uv', e = .returned (.agg #[.string (valN t i).t, .int .i64 (valN t i).e]) ∧ RG L k t xs' us uv' W' ∧ XR L k uv' (xs' i) (md + 1) (mw + 1) W' ∧ (∀ a, a < i → DoneC t a (xs' a)) ∧ (∀ a, i < a → xs' a = xs a) ∧ FI (RFx L uv (xs i)) (RFx L uv' (xs' i)) W W'
theorem AskPre.later {L : RL} {k : Nat} {t : ByteArray} {j : Nat} {xs : Nat → RC} {us : List ByteArray} {uv : Value} {W W' : World} (h : AskPre L k t j xs us uv W) (hb : Below W.heap.size W W') : AskPre L k t j xs us uv W' := ⟨h.rg.later hb, h.st, h.un, h.ul, h.jk⟩
/-- A box that a call has laid, behind calls that change nothing but their foot. -/
theorem box_fi {F F' : Nat → Prop} {W W' : World} {b : Nat} {o : Obj} (hf : FI F F' W W') (h1 : W.heap[b]? = some o) (h2 : ¬ F b) : W'.heap[b]? = some o ∧ ¬ F' b :=
  ⟨(hf.block b (blk_lt h1) h2).1.trans h1, (hf.block b (blk_lt h1) h2).2⟩
theorem two_boxR {W : World} {b : Nat} {u v : Value} {T : TypeId} (h : W.heap[b]? = some (.cells #[u, v] T (0, 0))) : W.cell? ⟨b, 0, none⟩ = some u ∧ W.cell? ⟨b, 1, none⟩ = some v ∧ W.frozen? ⟨b, 0, none⟩ = false ∧ W.frozen? ⟨b, 1, none⟩ = false :=
  ⟨Lib.cell_of_heap h 0, Lib.cell_of_heap h 1, Lib.frozen_of_heap h 0, Lib.frozen_of_heap h 1⟩
theorem RG.out {L : RL} {k : Nat} {t : ByteArray} {xs : Nat → RC} {us : List ByteArray} {uv : Value} {W : World} (h : RG L k t xs us uv W) {b : Nat} (hb : W.heap.size ≤ b) : ¬ RF L uv b := fun e => by have := h.lt (.inr e); omega
theorem of_end {L : RL} {k : Nat} {t : ByteArray} {i : Nat} {xs xs2 : Nat → RC} {us : List ByteArray} {uv uv2 : Value} {md mw : Nat} {W W1 W2 W3 W8 : World} {x8 : RC} {o : Out} {u v : Value} (h0 : RG L k t xs us uv W) (hb : Below W.heap.size W W1) (hf2 : FI (RF L uv) (RF L uv2) W1 W2) (hb3 : Below W2.heap.size W2 W3) (hf8 : FI (RFx L uv2 (xs2 i)) (RFx L uv2 x8) W3 W8)
    (hr : RG L k t (updC xs2 i x8) us uv2 W8) (hx : XR L k uv2 x8 (md + 1) (mw + 1) W8) (hd : ∀ a, a < i → DoneC t a (xs2 a)) (hs : ∀ a, i ≤ a → xs2 a = xs a) (he : xs2 i = xs i) (hq : ¬ RFx L uv2 x8 W.heap.size) (ho : valN t i = o) :
    OfP L k t i xs us uv md mw W (.returned (.agg #[.string o.t, .int .i64 o.e])) ((W8.setCell ⟨W.heap.size, 0, none⟩ u).setCell ⟨W.heap.size, 1, none⟩ v) := by
  have hk : ∀ b, b ≠ W.heap.size → ((W8.setCell ⟨W.heap.size, 0, none⟩ u).setCell ⟨W.heap.size, 1, none⟩ v).heap[b]? = W8.heap[b]? := fun b hb => by
    rw [set_elseR _ _ hb, set_elseR _ _ hb]
  have hx' : XR L k uv2 (updC xs2 i x8 i) (md + 1) (mw + 1) ((W8.setCell ⟨W.heap.size, 0, none⟩ u).setCell ⟨W.heap.size, 1, none⟩ v) := by
    rw [updC_same]
    exact hx.keep fun b hb' => ⟨hk b (fun e => hq (.inr (e ▸ hb'))), hb'.elim (fun e => (hx.dn b e).1) (fun e => (hx.wn b e).1)⟩
  refine ⟨updC xs2 i x8, uv2, by rw [ho], hr.keep fun b hb' => hk b (fun e => ?_), hx', fun a ha => by rw [updC_else _ _ (by omega)]; exact hd a ha, fun a ha => by rw [updC_else _ _ (by omega)]; exact hs a (by omega), ?_⟩
  · rcases hb' with hb' | hb'
    · have := h0.lt (.inl hb'); omega
    · exact hq (.inl (e ▸ hb'))
  · rw [updC_same]
    have h1 : FI (RFx L uv (xs i)) (RFx L uv (xs i)) W W1 := FI.below hb
    have h2 : FI (RFx L uv (xs i)) (RFx L uv2 (xs i)) W1 W2 := hf2.rfx
    have h3 : FI (RFx L uv2 (xs i)) (RFx L uv2 (xs i)) W2 W3 := FI.below hb3
    rw [he] at hf8
    exact fi_set (fi_set (((h1.trans h2).trans h3).trans hf8) (.inr (Nat.le_refl _)) u) (.inr (Nat.le_refl _)) v
set_option maxRecDepth 100000 in
set_option maxHeartbeats 16000000 in
theorem of_any {i : Nat} (hA : AskR i) {L : RL} {k : Nat} {t : ByteArray} {xs : Nat → RC} {us : List ByteArray} {uv : Value} {W : World} (hk : k ≤ 24) (ht : t.size ≤ 262144) (h : AskPre L k t i xs us uv W) (hi : i < k) {md mw : Nat} (hX : XR L k uv (xs i) md mw W) (hmd : md ≤ 10) (hmw : mw ≤ 10) {j : Nat} (hj : j < 2) :
    Calls Tryd.prog 26 #[.pointer (some ⟨L.G, 0, none⟩), .int .i64 i, .int .i64 j] W (OfP L k t i xs us uv md mw W) := by
  obtain ⟨cb, hc⟩ := h.rg.cA_some (by omega)
  have HC := Lib.hid hc
  have g0 := h.rg.cellG 0
  have c2 := h.rg.cell hc (o := 2) hi (by omega)
  have cr := h.rg.refs i hi j hj
  rw [hc] at g0
  simp only [rcCells, List.getElem?_toArray, List.getElem?_cons_succ, List.getElem?_cons_zero] at g0 c2
  have g0a : ∀ o, (W.alloc o).cell? ⟨L.G, 0, none⟩ = some (.slice (some ⟨cb, 0, none⟩) k L.cc) := fun o => cell_alloc_of o g0
  have c2a : ∀ o, (W.alloc o).cell? ⟨cb, i * 11 + 2, none⟩ = some (.slice (some ⟨L.rb i, 0, none⟩) 2 2) := fun o => cell_alloc_of o c2
  have cra : ∀ o, (W.alloc o).cell? ⟨L.rb i, j, none⟩ = some (.string (lastN i)) := fun o => cell_alloc_of o cr
  have HW1 : Hid (Below W.heap.size W (W.alloc (.cells #[.string ⟨#[]⟩, .int .i64 0] 40))) := Lib.hid ((Below.refl _ _).alloc (Nat.le_refl _) _)
  have K1 := Lib.hid (hA.ok L k t xs us uv _ hk ht (h.later HW1.out))
  have HP := Lib.hid h
  have HX := Lib.hid hX
  have HI := Lib.hid hi
  have tk : (i : Int) < (k : Int) := by omega
  have tj : (j : Int) < 2 := by omega
  have HM := Lib.hid (And.intro hmd hmw)
  clear g0 c2 cr h hX hc hi hj hmd hmw hk ht
  go_enter Tryd.func26, Tryd.ntmps26
  go_wp2_with fail
  refine K1.out.mono ?_
  rintro e W2 ⟨xs2, uv2, rfl, hr2, hd2, hs2, hf2⟩
  clear g0a c2a cra
  have e2 : xs2 i = xs i := hs2 i (Nat.le_refl _)
  have HD2 := Lib.hid hd2
  have HS2 := Lib.hid hs2
  have HR2 := Lib.hid hr2
  have HF2 := Lib.hid hf2
  have HX2 : Hid (XR L k uv2 (xs2 i) md mw W2) := Lib.hid (by rw [e2]; exact (HX.out.later HW1.out).step hf2)
  have HE2 := Lib.hid e2
  -- the result's box
  have hq := box_fi hf2 (heap_alloc_new W _) (HP.out.rg.out (Nat.le_refl _))
  have HQ2 := Lib.hid hq
  have hwq : W.heap.size < W2.heap.size := blk_lt hq.1
  have HWQ := Lib.hid hwq
  clear hd2 hs2 hr2 hf2 e2 hq hwq K1
  generalize hov : valN t i = ov
  have HO := Lib.hid hov
  clear hov
  obtain ⟨ot, oe⟩ := ov
  have HB2 : Hid (Below W2.heap.size W2 (W2.alloc (.cells #[.string ot, .int .i64 oe] 40))) := Lib.hid ((Below.refl _ _).alloc (Nat.le_refl _) _)
  have HR3 := Lib.hid (HR2.out.later HB2.out)
  have HX3 := Lib.hid (HX2.out.later HB2.out)
  go_wp2_with fail
  generalize hW3 : W2.alloc (.cells #[.string ot, .int .i64 oe] 40) = W3 at HB2 HR3 HX3 ⊢
  have hbx : W3.heap[W2.heap.size]? = some (.cells #[.string ot, .int .i64 oe] 40 (0, 0)) := by rw [← hW3]; exact heap_alloc_new W2 _
  have HBx := Lib.hid (And.intro hbx (HR2.out.out (Nat.le_refl W2.heap.size)))
  have HNx : Hid (∀ b, (xs2 i).dv.ownBlock = some b ∨ (xs2 i).wv.ownBlock = some b → b < W.heap.size) := Lib.hid (fun b hb => HX.out.lt (by rw [← HE2.out]; exact hb))
  have hq3 : W3.heap[W.heap.size]? = some (.cells #[.string ⟨#[]⟩, .int .i64 0] 40 (0, 0)) := by
    rw [HB2.out.block _ HWQ.out]; exact HQ2.out.1
  have HQ3 := Lib.hid (And.intro hq3 HQ2.out.2)
  have hg0 := HR3.out.cellG 0
  have hc5 := HR3.out.cell HC.out (o := 5) HI.out (by omega)
  obtain ⟨ds, hds⟩ := HX3.out.d
  have HDs := Lib.hid hds
  obtain ⟨A5, cc5, hdv, _⟩ := own_slice hds
  rw [HC.out] at hg0
  simp only [rcCells, List.getElem?_toArray, List.getElem?_cons_succ, List.getElem?_cons_zero] at hg0 hc5
  rw [hdv] at hc5
  have HDv := Lib.hid hdv
  have hg0d : W3.drew.cell? ⟨L.G, 0, none⟩ = some (.slice (some ⟨cb, 0, none⟩) k L.cc) := hg0
  have HG0 := Lib.hid hg0
  have HY : Hid (Below W3.heap.size W3 (W3.alloc (.cells #[.string (lastN i)] 9)).drew) := Lib.hid (((Below.refl _ _).alloc (Nat.le_refl _) _).drew)
  have hgY : (W3.alloc (.cells #[.string (lastN i)] 9)).drew.cell? ⟨L.G, 0, none⟩ = some (.slice (some ⟨cb, 0, none⟩) k L.cc) := cell_alloc_of _ hg0
  have hc5Y : (W3.alloc (.cells #[.string (lastN i)] 9)).cell? ⟨cb, i * 11 + 5, none⟩ = some (.slice A5 md cc5) := cell_alloc_of _ hc5
  have HGY := Lib.hid hgY
  obtain ⟨i0, hi0, hz0, hz1, hz2⟩ := parts3 infoS
  have CN : Hid (∀ j u, [Value.string (lastN i)][j]? = some u → (W3.alloc (.cells #[.string (lastN i)] 9)).drew.cell? ((⟨W3.heap.size, 0, none⟩ : Addr).add j) = some u) := Lib.hid (cells_new W3 [.string (lastN i)] 9)
  have HL : Hid (md + 1 ≤ maxLen ∧ (md + 1) * 16 ≤ 140737488355328 ∧ mw + 1 ≤ maxLen ∧ (mw + 1) * 24 ≤ 140737488355328) := Lib.hid (by have := HM.out; exact ⟨by unfold maxLen; omega, by omega, by unfold maxLen; omega, by omega⟩)
  clear hds hdv hbx hq3 hW3 hg0 hgY
  refine wp_region_held_drew (S := (fun w' => w'.cell? ⟨L.G, 0, none⟩ = some (.slice (some ⟨cb, 0, none⟩) k L.cc))) (by kernel_rfl) hg0d (fun hHeld => ?_)
  refine wpAnyH_take (i := 0) (v := ?_) (show _ = some { dst := some 24, op := _, type := _, pos := _, after := _, guard := _ } from rfl) (by kernel_rfl) (by kernel_rfl) (by kernel_rfl) (fun _ _ _ h => h) (Or.inl ⟨by rfl, ?_⟩) hHeld ?_
  rotate_left
  · intro w' hSw
    (try dsimp only at hSw)
    go_simp
    try with_reducible rfl
  try simp only [Act.put, List.setIfInBounds_toArray, List.set_cons_zero, List.set_cons_succ]
  refine wpAnyH_take (i := 1) (v := ?_) (show _ = some { dst := some 25, op := _, type := _, pos := _, after := _, guard := _ } from rfl) (by kernel_rfl) (by kernel_rfl) (by kernel_rfl) (fun _ _ _ h => h) (Or.inl ⟨by rfl, ?_⟩) hHeld ?_
  rotate_left
  · intro w' hSw
    (try dsimp only at hSw)
    go_simp
    try with_reducible rfl
  try simp only [Act.put, List.setIfInBounds_toArray, List.set_cons_zero, List.set_cons_succ]
  refine wpAnyH_take (i := 2) (v := ?_) (show _ = some { dst := some 26, op := _, type := _, pos := _, after := _, guard := _ } from rfl) (by kernel_rfl) (by kernel_rfl) (by kernel_rfl) (fun _ _ _ h => h) (Or.inl ⟨by rfl, ?_⟩) hHeld ?_
  rotate_left
  · intro w' hSw
    (try dsimp only at hSw)
    go_simp
    try with_reducible rfl
  try simp only [Act.put, List.setIfInBounds_toArray, List.set_cons_zero, List.set_cons_succ]
  refine wpAnyH_take (i := 3) (v := ?_) (show _ = some { dst := some 27, op := _, type := _, pos := _, after := _, guard := _ } from rfl) (by kernel_rfl) (by kernel_rfl) (by kernel_rfl) (fun _ _ _ h => h) (Or.inl ⟨by rfl, ?_⟩) hHeld ?_
  rotate_left
  · intro w' hSw
    (try dsimp only at hSw)
    go_simp
    try with_reducible rfl
  try simp only [Act.put, List.setIfInBounds_toArray, List.set_cons_zero, List.set_cons_succ]
  refine wpAnyH_take (i := 4) (v := ?_) (show _ = some { dst := some 28, op := _, type := _, pos := _, after := _, guard := _ } from rfl) (by kernel_rfl) (by kernel_rfl) (by kernel_rfl) (fun _ _ _ h => h) (Or.inl ⟨by rfl, ?_⟩) hHeld ?_
  rotate_left
  · intro w' hSw
    (try dsimp only at hSw)
    go_simp
    try with_reducible rfl
  try simp only [Act.put, List.setIfInBounds_toArray, List.set_cons_zero, List.set_cons_succ]
  refine wpAnyH_take (i := 5) (v := ?_) (show _ = some { dst := some 29, op := _, type := _, pos := _, after := _, guard := _ } from rfl) (by kernel_rfl) (by kernel_rfl) (by kernel_rfl) (fun _ _ _ h => h) (Or.inl ⟨by rfl, ?_⟩) hHeld ?_
  rotate_left
  · intro w' hSw
    (try dsimp only at hSw)
    go_simp
    try with_reducible rfl
  try simp only [Act.put, List.setIfInBounds_toArray, List.set_cons_zero, List.set_cons_succ]
  refine wpAnyH_take (i := 6) (v := ?_) (show _ = some { dst := some 30, op := _, type := _, pos := _, after := _, guard := _ } from rfl) (by kernel_rfl) (by kernel_rfl) (by kernel_rfl) (fun _ _ _ h => h) (Or.inl ⟨by rfl, ?_⟩) hHeld ?_
  rotate_left
  · intro w' hSw
    (try dsimp only at hSw)
    go_simp
    try with_reducible rfl
  try simp only [Act.put, List.setIfInBounds_toArray, List.set_cons_zero, List.set_cons_succ]
  refine wpAnyH_take (i := 7) (v := ?_) (show _ = some { dst := some 31, op := _, type := _, pos := _, after := _, guard := _ } from rfl) (by kernel_rfl) (by kernel_rfl) (by kernel_rfl) (fun _ _ _ h => h) (Or.inl ⟨by rfl, ?_⟩) hHeld ?_
  rotate_left
  · intro w' hSw
    (try dsimp only at hSw)
    go_simp
    try with_reducible rfl
  try simp only [Act.put, List.setIfInBounds_toArray, List.set_cons_zero, List.set_cons_succ]
  refine wpAnyH_take (i := 8) (v := ?_) (show _ = some { dst := some 32, op := _, type := _, pos := _, after := _, guard := _ } from rfl) (by kernel_rfl) (by kernel_rfl) (by kernel_rfl) (fun _ _ _ h => h) (Or.inl ⟨by rfl, ?_⟩) hHeld ?_
  rotate_left
  · intro w' hSw
    (try dsimp only at hSw)
    go_simp
    try with_reducible rfl
  try simp only [Act.put, List.setIfInBounds_toArray, List.set_cons_zero, List.set_cons_succ]
  refine wpAnyH_take (i := 9) (v := ?_) (show _ = some { dst := some 33, op := _, type := _, pos := _, after := _, guard := _ } from rfl) (by kernel_rfl) (by kernel_rfl) (by kernel_rfl) (fun _ _ _ h => h) (Or.inl ⟨by rfl, ?_⟩) hHeld ?_
  rotate_left
  · intro w' hSw
    (try dsimp only at hSw)
    go_simp
    try with_reducible rfl
  try simp only [Act.put, List.setIfInBounds_toArray, List.set_cons_zero, List.set_cons_succ]
  refine wpAnyH_take (i := 10) (v := ?_) (show _ = some { dst := some 34, op := _, type := _, pos := _, after := _, guard := _ } from rfl) (by kernel_rfl) (by kernel_rfl) (by kernel_rfl) (fun _ _ _ h => h) (Or.inl ⟨by rfl, ?_⟩) hHeld ?_
  rotate_left
  · intro w' hSw
    (try dsimp only at hSw)
    go_simp
    try with_reducible rfl
  try simp only [Act.put, List.setIfInBounds_toArray, List.set_cons_zero, List.set_cons_succ]
  refine wpAnyH_take (i := 11) (v := ?_) (show _ = some { dst := some 35, op := _, type := _, pos := _, after := _, guard := _ } from rfl) (by kernel_rfl) (by kernel_rfl) (by kernel_rfl) (fun _ _ _ h => h) (Or.inl ⟨by rfl, ?_⟩) hHeld ?_
  rotate_left
  · intro w' hSw
    (try dsimp only at hSw)
    go_simp
    try with_reducible rfl
  try simp only [Act.put, List.setIfInBounds_toArray, List.set_cons_zero, List.set_cons_succ]
  refine wpAnyH_take (i := 13) (v := ?_) (show _ = some { dst := some 37, op := _, type := _, pos := _, after := _, guard := _ } from rfl) (by kernel_rfl) (by kernel_rfl) (by kernel_rfl) (fun _ _ _ h => h) (Or.inl ⟨by rfl, ?_⟩) hHeld ?_
  rotate_left
  · intro w' hSw
    (try dsimp only at hSw)
    go_simp
    try with_reducible rfl
  try simp only [Act.put, List.setIfInBounds_toArray, List.set_cons_zero, List.set_cons_succ]
  refine wpAnyH_ready (rs := [12, 14]) (by kernel_rfl) (by simp) ?_
  refine AllReadyH.cons (show _ = some { dst := some 36, op := _, type := _, pos := _, after := _, guard := _ } from rfl) (fun K hK => ?_) (AllReadyH.cons (show _ = some { dst := some 38, op := _, type := _, pos := _, after := _, guard := _ } from rfl) (fun K hK => ?_) AllReadyH.nil)
  · go_simp
    refine hK.out _ _ (hHeld) (fun hHeld => ?_)
    clear hK K
    try simp only [Act.put, List.setIfInBounds_toArray, List.set_cons_zero, List.set_cons_succ]
    refine wpAnyH_ready (rs := [14]) (by kernel_rfl) (by simp) ?_
    refine AllReadyH.cons (show _ = some { dst := some 38, op := _, type := _, pos := _, after := _, guard := _ } from rfl) (fun K hK => ?_) AllReadyH.nil
    go_simp
    refine hK.out _ _ (HGY.out) (fun hHeld => ?_)
    clear hK K
    try simp only [Act.put, List.setIfInBounds_toArray, List.set_cons_zero, List.set_cons_succ]
    refine wpAnyH_ready (rs := [15]) (by kernel_rfl) (by simp) ?_
    refine AllReadyH.cons (show _ = some { dst := some 39, op := _, type := _, pos := _, after := _, guard := _ } from rfl) (fun K hK => ?_) AllReadyH.nil
    rw [if_pos (by rfl)]
    refine wp_append_own_at _ _ 24 rfl 0 9 i0 (.string ⟨#[]⟩) 1 16 Tryd.underlying24 hi0 hz0 hz1 hz2 rfl (by decide) _ _ _ rfl (HDv.out ▸ (HDs.out.alloc _)) ⟨W3.heap.size, 0, none⟩ 1 1 [.string (lastN i)] rfl rfl ?_ ?_ ?_ ?_ (Nat.zero_le _) ?_
    · exact CN.out
    · intro u hu
      simp only [List.mem_cons, List.not_mem_nil, or_false] at hu
      rcases hu with rfl
      rfl
    · exact HL.out.1
    · exact HL.out.2.1
    intro v5 W5 hown5 hg5 _ ho5
    obtain ⟨A6, c6, rfl, _⟩ := own_slice hown5
    have hg5 : (W3.alloc (.cells #[.string (lastN i)] 9)).drew.grownBy W5 (xs2 i).dv.ownBlock := by rw [HDv.out]; exact hg5
    have ho5 : (Value.slice A6 (md + 1) c6).ownBlock = (xs2 i).dv.ownBlock ∨ (Value.slice A6 (md + 1) c6).ownBlock = some (W3.alloc (.cells #[.string (lastN i)] 9)).drew.heap.size := by rw [HDv.out]; exact ho5
    have HS5 := Lib.hid (d_step HR3.out HC.out HI.out HX3.out HY.out hown5 hg5 ho5)
    have hne5 : ∀ b, b < W3.heap.size → (xs2 i).dv.ownBlock ≠ some b → W5.heap[b]? = W3.heap[b]? := fun b hb1 hb2 => (hg5.block b (Nat.lt_of_lt_of_le hb1 HY.out.size) (fun e => hb2 e.symm)).trans (HY.out.block b hb1)
    have hG5 : W5.cell? ⟨L.G, 0, none⟩ = some (.slice (some ⟨cb, 0, none⟩) k L.cc) := by
      rw [World.cell?_of_block (w := W3) (hne5 L.G (HR3.out.lt (.inr (.inl rfl))) (fun e => (HX3.out.dn _ e).1 (.inl rfl)))]
      exact HG0.out
    have HG5 := Lib.hid hG5
    have z5 : W5.frozen? ⟨cb, i * 11 + 5, none⟩ = false := by
      rw [World.frozen?_of_block (w := W3) (hne5 cb (HR3.out.lt (.inr (.inr (.inl ⟨_, HC.out, rfl⟩)))) (fun e => (HX3.out.dn _ e).1 (.inr (.inl ⟨_, HC.out, rfl⟩))))]
      exact HR3.out.free HC.out _
    have hw5 : ∃ v, W5.cell? ⟨cb, i * 11 + 5, none⟩ = some v := ⟨(xs2 i).dv, by
      rw [World.cell?_of_block (w := W3) (hne5 cb (HR3.out.lt (.inr (.inr (.inl ⟨_, HC.out, rfl⟩)))) (fun e => (HX3.out.dn _ e).1 (.inr (.inl ⟨_, HC.out, rfl⟩))))]
      exact HR3.out.cell HC.out (o := 5) HI.out (by omega)⟩
    obtain ⟨w5, hw5⟩ := hw5
    clear hown5 hg5 ho5 hne5 hG5
    refine hK.out _ _ (HG5.out) (fun hHeld => ?_)
    clear hK K
    try simp only [Act.put, List.setIfInBounds_toArray, List.set_cons_zero, List.set_cons_succ]
    refine wpAnyH_take (i := 16) (v := ?_) (show _ = some { dst := some 40, op := _, type := _, pos := _, after := _, guard := _ } from rfl) (by kernel_rfl) (by kernel_rfl) (by kernel_rfl) (fun _ _ _ h => h) (Or.inl ⟨by rfl, ?_⟩) hHeld ?_
    rotate_left
    · intro w' hSw
      (try dsimp only at hSw)
      go_simp
      try with_reducible rfl
    try simp only [Act.put, List.setIfInBounds_toArray, List.set_cons_zero, List.set_cons_succ]
    refine wpAnyH_take (i := 17) (v := ?_) (show _ = some { dst := some 41, op := _, type := _, pos := _, after := _, guard := _ } from rfl) (by kernel_rfl) (by kernel_rfl) (by kernel_rfl) (fun _ _ _ h => h) (Or.inl ⟨by rfl, ?_⟩) hHeld ?_
    rotate_left
    · intro w' hSw
      (try dsimp only at hSw)
      go_simp
      try with_reducible rfl
    try simp only [Act.put, List.setIfInBounds_toArray, List.set_cons_zero, List.set_cons_succ]
    refine wpAnyH_ready (rs := [18]) (by kernel_rfl) (by simp) ?_
    refine AllReadyH.cons (show _ = some { dst := none, op := _, type := _, pos := _, after := _, guard := _ } from rfl) (fun K hK => ?_) AllReadyH.nil
    go_simp
    have HG6 : Hid ((W5.setCell ⟨cb, i * 11 + 5, none⟩ (.slice A6 (md + 1) c6)).cell? ⟨L.G, 0, none⟩ = some (.slice (some ⟨cb, 0, none⟩) k L.cc)) := Lib.hid (by
      rw [World.cell?_setCell_other _ _ _ _ (fun e => HR3.out.gne _ HC.out (by injection e))]
      exact HG5.out)
    refine hK.out _ _ (HG6.out) (fun hHeld => ?_)
    clear hK K
    try simp only [Act.put, List.setIfInBounds_toArray, List.set_cons_zero, List.set_cons_succ]
    refine wpAnyH_done (by kernel_rfl) ?_ _
    clear hHeld
    obtain ⟨hR6, hX6, hF6⟩ := HS5.out
    have HR6 := Lib.hid hR6
    have HX6 := Lib.hid hX6
    have HF6 := Lib.hid hF6
    have hG6 := HG6.out
    clear z5 hw5 hg0d hc5 hc5Y hR6 hX6 hF6 HS5 HG5 HG6 HGY CN HY
    generalize hW6 : W5.setCell ⟨cb, i * 11 + 5, none⟩ (.slice A6 (md + 1) c6) = W6 at HR6 HX6 HF6 hG6 ⊢
    clear hW6
    have hQ6 := box_fi HF6.out HQ3.out.1 (fun e => e.elim HQ3.out.2 (fun e => absurd (HNx.out _ e) (Nat.lt_irrefl _)))
    have hB6 := box_fi HF6.out HBx.out.1 (fun e => e.elim HBx.out.2 (fun e => by have := HNx.out _ e; have := HWQ.out; omega))
    have HQ6 := Lib.hid hQ6
    have HB6 := Lib.hid hB6
    generalize hx3 : ({ xs2 i with dv := .slice A6 (md + 1) c6 } : RC) = x3 at HR6 HX6 HF6 HQ6 HB6 hQ6 hB6
    have HX6' : Hid (XR L k uv2 (updC xs2 i x3 i) (md + 1) mw W6) := Lib.hid (by rw [updC_same]; exact HX6.out)
    have hw3 : x3.wv = (xs2 i).wv := by rw [← hx3]
    have hc6 := HR6.out.cell HC.out (o := 6) HI.out (by omega)
    rw [updC_same] at hc6
    obtain ⟨wsl, hws⟩ := HX6.out.w
    have HWs := Lib.hid hws
    obtain ⟨A7, cc7, hwv, _⟩ := own_slice hws
    simp only [rcCells, List.getElem?_cons_succ, List.getElem?_cons_zero] at hc6
    rw [hwv] at hc6
    have HWv := Lib.hid hwv
    have HG6 := Lib.hid hG6
    obtain ⟨b0, b1, -, -⟩ := two_boxR hB6.1
    have HBc := Lib.hid (And.intro b0 b1)
    have b0d : W6.drew.cell? ⟨W2.heap.size, 0, none⟩ = some (.string ot) := b0
    have b1d : W6.drew.cell? ⟨W2.heap.size, 1, none⟩ = some (.int .i64 oe) := b1
    have hg6d : W6.drew.cell? ⟨L.G, 0, none⟩ = some (.slice (some ⟨cb, 0, none⟩) k L.cc) := hG6
    have HY2 : Hid (Below W6.heap.size W6 (W6.alloc (.cells #[.string ot, .int .i64 oe] 40)).drew) := Lib.hid (((Below.refl _ _).alloc (Nat.le_refl _) _).drew)
    have hsY : (W6.alloc (.cells #[.string ot, .int .i64 oe] 40)).drew.cell? ⟨L.G, 0, none⟩ = some (.slice (some ⟨cb, 0, none⟩) k L.cc) ∧ (W6.alloc (.cells #[.string ot, .int .i64 oe] 40)).drew.cell? ⟨W2.heap.size, 0, none⟩ = some (.string ot) ∧ (W6.alloc (.cells #[.string ot, .int .i64 oe] 40)).drew.cell? ⟨W2.heap.size, 1, none⟩ = some (.int .i64 oe) := ⟨cell_alloc_of _ hG6, cell_alloc_of _ b0, cell_alloc_of _ b1⟩
    have HSY := Lib.hid hsY
    have hc6Y : (W6.alloc (.cells #[.string ot, .int .i64 oe] 40)).cell? ⟨cb, i * 11 + 6, none⟩ = some (.slice A7 mw cc7) := cell_alloc_of _ hc6
    obtain ⟨j0, hj0, hy0, hy1, hy2⟩ := parts3 infoAn
    have CN2 : Hid (∀ j u, [Value.string ot, .int .i64 oe][j]? = some u → (W6.alloc (.cells #[.string ot, .int .i64 oe] 40)).drew.cell? ((⟨W6.heap.size, 0, none⟩ : Addr).add j) = some u) := Lib.hid (cells_new W6 [.string ot, .int .i64 oe] 40)
    clear hws hwv hQ6 hB6 hG6 hsY b0 b1
    go_wp2_with fail
    refine wp_region_held_drew (S := (fun w' => w'.cell? ⟨L.G, 0, none⟩ = some (.slice (some ⟨cb, 0, none⟩) k L.cc) ∧ w'.cell? ⟨W2.heap.size, 0, none⟩ = some (.string ot) ∧ w'.cell? ⟨W2.heap.size, 1, none⟩ = some (.int .i64 oe))) (by kernel_rfl) ⟨hg6d, b0d, b1d⟩ (fun hHeld => ?_)
    refine wpAnyH_take (i := 0) (v := ?_) (show _ = some { dst := some 42, op := _, type := _, pos := _, after := _, guard := _ } from rfl) (by kernel_rfl) (by kernel_rfl) (by kernel_rfl) (fun _ _ _ h => h) (Or.inl ⟨by rfl, ?_⟩) hHeld ?_
    rotate_left
    · intro w' hSw
      (try dsimp only at hSw)
      go_simp
      try with_reducible rfl
    try simp only [Act.put, List.setIfInBounds_toArray, List.set_cons_zero, List.set_cons_succ]
    refine wpAnyH_take (i := 1) (v := ?_) (show _ = some { dst := some 43, op := _, type := _, pos := _, after := _, guard := _ } from rfl) (by kernel_rfl) (by kernel_rfl) (by kernel_rfl) (fun _ _ _ h => h) (Or.inl ⟨by rfl, ?_⟩) hHeld ?_
    rotate_left
    · intro w' hSw
      (try dsimp only at hSw)
      go_simp
      try with_reducible rfl
    try simp only [Act.put, List.setIfInBounds_toArray, List.set_cons_zero, List.set_cons_succ]
    refine wpAnyH_take (i := 2) (v := ?_) (show _ = some { dst := some 44, op := _, type := _, pos := _, after := _, guard := _ } from rfl) (by kernel_rfl) (by kernel_rfl) (by kernel_rfl) (fun _ _ _ h => h) (Or.inl ⟨by rfl, ?_⟩) hHeld ?_
    rotate_left
    · intro w' hSw
      (try dsimp only at hSw)
      go_simp
      try with_reducible rfl
    try simp only [Act.put, List.setIfInBounds_toArray, List.set_cons_zero, List.set_cons_succ]
    refine wpAnyH_take (i := 3) (v := ?_) (show _ = some { dst := some 45, op := _, type := _, pos := _, after := _, guard := _ } from rfl) (by kernel_rfl) (by kernel_rfl) (by kernel_rfl) (fun _ _ _ h => h) (Or.inl ⟨by rfl, ?_⟩) hHeld ?_
    rotate_left
    · intro w' hSw
      (try dsimp only at hSw)
      go_simp
      try with_reducible rfl
    try simp only [Act.put, List.setIfInBounds_toArray, List.set_cons_zero, List.set_cons_succ]
    refine wpAnyH_take (i := 4) (v := ?_) (show _ = some { dst := some 46, op := _, type := _, pos := _, after := _, guard := _ } from rfl) (by kernel_rfl) (by kernel_rfl) (by kernel_rfl) (fun _ _ _ h => h) (Or.inl ⟨by rfl, ?_⟩) hHeld ?_
    rotate_left
    · intro w' hSw
      (try dsimp only at hSw)
      go_simp
      try with_reducible rfl
    try simp only [Act.put, List.setIfInBounds_toArray, List.set_cons_zero, List.set_cons_succ]
    refine wpAnyH_take (i := 5) (v := ?_) (show _ = some { dst := some 47, op := _, type := _, pos := _, after := _, guard := _ } from rfl) (by kernel_rfl) (by kernel_rfl) (by kernel_rfl) (fun _ _ _ h => h) (Or.inl ⟨by rfl, ?_⟩) hHeld ?_
    rotate_left
    · intro w' hSw
      (try dsimp only at hSw)
      go_simp
      try with_reducible rfl
    try simp only [Act.put, List.setIfInBounds_toArray, List.set_cons_zero, List.set_cons_succ]
    refine wpAnyH_take (i := 6) (v := ?_) (show _ = some { dst := some 48, op := _, type := _, pos := _, after := _, guard := _ } from rfl) (by kernel_rfl) (by kernel_rfl) (by kernel_rfl) (fun _ _ _ h => h) (Or.inl ⟨by rfl, ?_⟩) hHeld ?_
    rotate_left
    · intro w' hSw
      (try dsimp only at hSw)
      go_simp
      try with_reducible rfl
    try simp only [Act.put, List.setIfInBounds_toArray, List.set_cons_zero, List.set_cons_succ]
    refine wpAnyH_take (i := 7) (v := ?_) (show _ = some { dst := some 49, op := _, type := _, pos := _, after := _, guard := _ } from rfl) (by kernel_rfl) (by kernel_rfl) (by kernel_rfl) (fun _ _ _ h => h) (Or.inl ⟨by rfl, ?_⟩) hHeld ?_
    rotate_left
    · intro w' hSw
      (try dsimp only at hSw)
      go_simp
      try with_reducible rfl
    try simp only [Act.put, List.setIfInBounds_toArray, List.set_cons_zero, List.set_cons_succ]
    refine wpAnyH_take (i := 8) (v := ?_) (show _ = some { dst := some 50, op := _, type := _, pos := _, after := _, guard := _ } from rfl) (by kernel_rfl) (by kernel_rfl) (by kernel_rfl) (fun _ _ _ h => h) (Or.inl ⟨by rfl, ?_⟩) hHeld ?_
    rotate_left
    · intro w' hSw
      (try dsimp only at hSw)
      go_simp
      try with_reducible rfl
    try simp only [Act.put, List.setIfInBounds_toArray, List.set_cons_zero, List.set_cons_succ]
    refine wpAnyH_take (i := 9) (v := ?_) (show _ = some { dst := some 51, op := _, type := _, pos := _, after := _, guard := _ } from rfl) (by kernel_rfl) (by kernel_rfl) (by kernel_rfl) (fun _ _ _ h => h) (Or.inl ⟨by rfl, ?_⟩) hHeld ?_
    rotate_left
    · intro w' hSw
      (try dsimp only at hSw)
      go_simp
      try with_reducible rfl
    try simp only [Act.put, List.setIfInBounds_toArray, List.set_cons_zero, List.set_cons_succ]
    refine wpAnyH_take (i := 10) (v := ?_) (show _ = some { dst := some 52, op := _, type := _, pos := _, after := _, guard := _ } from rfl) (by kernel_rfl) (by kernel_rfl) (by kernel_rfl) (fun _ _ _ h => h) (Or.inl ⟨by rfl, ?_⟩) hHeld ?_
    rotate_left
    · intro w' hSw
      (try dsimp only at hSw)
      go_simp
      try with_reducible rfl
    try simp only [Act.put, List.setIfInBounds_toArray, List.set_cons_zero, List.set_cons_succ]
    refine wpAnyH_take (i := 11) (v := ?_) (show _ = some { dst := some 53, op := _, type := _, pos := _, after := _, guard := _ } from rfl) (by kernel_rfl) (by kernel_rfl) (by kernel_rfl) (fun _ _ _ h => h) (Or.inl ⟨by rfl, ?_⟩) hHeld ?_
    rotate_left
    · intro w' hSw
      (try dsimp only at hSw)
      go_simp
      try with_reducible rfl
    try simp only [Act.put, List.setIfInBounds_toArray, List.set_cons_zero, List.set_cons_succ]
    refine wpAnyH_take (i := 13) (v := ?_) (show _ = some { dst := some 55, op := _, type := _, pos := _, after := _, guard := _ } from rfl) (by kernel_rfl) (by kernel_rfl) (by kernel_rfl) (fun _ _ _ h => h) (Or.inl ⟨by rfl, ?_⟩) hHeld ?_
    rotate_left
    · intro w' hSw
      (try dsimp only at hSw)
      go_simp
      try with_reducible rfl
    try simp only [Act.put, List.setIfInBounds_toArray, List.set_cons_zero, List.set_cons_succ]
    refine wpAnyH_ready (rs := [12, 14]) (by kernel_rfl) (by simp) ?_
    refine AllReadyH.cons (show _ = some { dst := some 54, op := _, type := _, pos := _, after := _, guard := _ } from rfl) (fun K hK => ?_) (AllReadyH.cons (show _ = some { dst := some 56, op := _, type := _, pos := _, after := _, guard := _ } from rfl) (fun K hK => ?_) AllReadyH.nil)
    · go_simp
      refine hK.out _ _ (hHeld) (fun hHeld => ?_)
      clear hK K
      try simp only [Act.put, List.setIfInBounds_toArray, List.set_cons_zero, List.set_cons_succ]
      refine wpAnyH_ready (rs := [14]) (by kernel_rfl) (by simp) ?_
      refine AllReadyH.cons (show _ = some { dst := some 56, op := _, type := _, pos := _, after := _, guard := _ } from rfl) (fun K hK => ?_) AllReadyH.nil
      go_simp
      refine hK.out _ _ (HSY.out) (fun hHeld => ?_)
      clear hK K
      try simp only [Act.put, List.setIfInBounds_toArray, List.set_cons_zero, List.set_cons_succ]
      refine wpAnyH_ready (rs := [15]) (by kernel_rfl) (by simp) ?_
      refine AllReadyH.cons (show _ = some { dst := some 57, op := _, type := _, pos := _, after := _, guard := _ } from rfl) (fun K hK => ?_) AllReadyH.nil
      rw [if_pos (by rfl)]
      refine wp_append_own_at _ _ 62 rfl 0 40 j0 (.agg #[.string ⟨#[]⟩, .int .i64 0]) 2 24 Tryd.underlying62 hj0 hy0 hy1 hy2 rfl (by decide) _ _ _ rfl (HWv.out ▸ (HWs.out.alloc _)) ⟨W6.heap.size, 0, none⟩ 1 1 [.string ot, .int .i64 oe] rfl rfl ?_ ?_ ?_ ?_ (Nat.zero_le _) ?_
      · exact CN2.out
      · intro u hu
        simp only [List.mem_cons, List.not_mem_nil, or_false] at hu
        rcases hu with rfl | rfl <;> rfl
      · exact HL.out.2.2.1
      · exact HL.out.2.2.2
      intro v7 W7 hown7 hg7 _ ho7
      obtain ⟨A8, c8, rfl, _⟩ := own_slice hown7
      have hg7 : (W6.alloc (.cells #[.string ot, .int .i64 oe] 40)).drew.grownBy W7 (updC xs2 i x3 i).wv.ownBlock := by rw [updC_same, HWv.out]; exact hg7
      have ho7 : (Value.slice A8 (mw + 1) c8).ownBlock = (updC xs2 i x3 i).wv.ownBlock ∨ (Value.slice A8 (mw + 1) c8).ownBlock = some (W6.alloc (.cells #[.string ot, .int .i64 oe] 40)).drew.heap.size := by rw [updC_same, HWv.out]; exact ho7
      have HS7 := Lib.hid (w_step HR6.out HC.out HI.out HX6'.out HY2.out hown7 hg7 ho7)
      have hwb : ∀ b, (updC xs2 i x3 i).wv.ownBlock = some b → b < W.heap.size := fun b hb => HNx.out b (.inr (by rw [updC_same, hw3] at hb; exact hb))
      have hne7 : ∀ b, b < W6.heap.size → (updC xs2 i x3 i).wv.ownBlock ≠ some b → W7.heap[b]? = W6.heap[b]? := fun b hb1 hb2 => (hg7.block b (Nat.lt_of_lt_of_le hb1 HY2.out.size) (fun e => hb2 e.symm)).trans (HY2.out.block b hb1)
      have hG7 : W7.cell? ⟨L.G, 0, none⟩ = some (.slice (some ⟨cb, 0, none⟩) k L.cc) := by
        rw [World.cell?_of_block (w := W6) (hne7 L.G (HR6.out.lt (.inr (.inl rfl))) (fun e => (HX6'.out.wn _ e).1 (.inl rfl)))]
        exact HG6.out
      have hB7 : W7.cell? ⟨W2.heap.size, 0, none⟩ = some (.string ot) ∧ W7.cell? ⟨W2.heap.size, 1, none⟩ = some (.int .i64 oe) := by
        have hbb := hne7 W2.heap.size (blk_lt HB6.out.1) (fun e => by have := hwb _ e; have := HWQ.out; omega)
        exact ⟨(World.cell?_of_block (w := W6) (a := ⟨W2.heap.size, 0, none⟩) hbb).trans HBc.out.1, (World.cell?_of_block (w := W6) (a := ⟨W2.heap.size, 1, none⟩) hbb).trans HBc.out.2⟩
      have HG7 := Lib.hid (And.intro hG7 hB7)
      have z7 : W7.frozen? ⟨cb, i * 11 + 6, none⟩ = false := by
        rw [World.frozen?_of_block (w := W6) (hne7 cb (HR6.out.lt (.inr (.inr (.inl ⟨_, HC.out, rfl⟩)))) (fun e => (HX6'.out.wn _ e).1 (.inr (.inl ⟨_, HC.out, rfl⟩))))]
        exact HR6.out.free HC.out _
      have hw7 : ∃ v, W7.cell? ⟨cb, i * 11 + 6, none⟩ = some v := ⟨x3.wv, by
        rw [World.cell?_of_block (w := W6) (hne7 cb (HR6.out.lt (.inr (.inr (.inl ⟨_, HC.out, rfl⟩)))) (fun e => (HX6'.out.wn _ e).1 (.inr (.inl ⟨_, HC.out, rfl⟩))))]
        have := HR6.out.cell HC.out (o := 6) HI.out (by omega)
        rw [updC_same] at this
        exact this⟩
      obtain ⟨w7, hw7⟩ := hw7
      clear hown7 hg7 ho7 hne7 hG7 hB7 hwb
      refine hK.out _ _ (HG7.out) (fun hHeld => ?_)
      clear hK K
      try simp only [Act.put, List.setIfInBounds_toArray, List.set_cons_zero, List.set_cons_succ]
      refine wpAnyH_take (i := 16) (v := ?_) (show _ = some { dst := some 58, op := _, type := _, pos := _, after := _, guard := _ } from rfl) (by kernel_rfl) (by kernel_rfl) (by kernel_rfl) (fun _ _ _ h => h) (Or.inl ⟨by rfl, ?_⟩) hHeld ?_
      rotate_left
      · intro w' hSw
        (try dsimp only at hSw)
        go_simp
        try with_reducible rfl
      try simp only [Act.put, List.setIfInBounds_toArray, List.set_cons_zero, List.set_cons_succ]
      refine wpAnyH_take (i := 17) (v := ?_) (show _ = some { dst := some 59, op := _, type := _, pos := _, after := _, guard := _ } from rfl) (by kernel_rfl) (by kernel_rfl) (by kernel_rfl) (fun _ _ _ h => h) (Or.inl ⟨by rfl, ?_⟩) hHeld ?_
      rotate_left
      · intro w' hSw
        (try dsimp only at hSw)
        go_simp
        try with_reducible rfl
      try simp only [Act.put, List.setIfInBounds_toArray, List.set_cons_zero, List.set_cons_succ]
      refine wpAnyH_ready (rs := [18]) (by kernel_rfl) (by simp) ?_
      refine AllReadyH.cons (show _ = some { dst := none, op := _, type := _, pos := _, after := _, guard := _ } from rfl) (fun K hK => ?_) AllReadyH.nil
      go_simp
      have HG8 : Hid ((W7.setCell ⟨cb, i * 11 + 6, none⟩ (.slice A8 (mw + 1) c8)).cell? ⟨L.G, 0, none⟩ = some (.slice (some ⟨cb, 0, none⟩) k L.cc) ∧ (W7.setCell ⟨cb, i * 11 + 6, none⟩ (.slice A8 (mw + 1) c8)).cell? ⟨W2.heap.size, 0, none⟩ = some (.string ot) ∧ (W7.setCell ⟨cb, i * 11 + 6, none⟩ (.slice A8 (mw + 1) c8)).cell? ⟨W2.heap.size, 1, none⟩ = some (.int .i64 oe)) := Lib.hid (by
        have hn : ¬ cb = W2.heap.size := fun e => HB6.out.2 (.inl (.inr (.inl ⟨_, HC.out, e⟩)))
        refine ⟨?_, ?_, ?_⟩
        · rw [World.cell?_setCell_other _ _ _ _ (fun e => HR6.out.gne _ HC.out (by injection e))]
          exact HG7.out.1
        · rw [World.cell?_setCell_other _ _ _ _ (fun e => by injection e with e1 e2; exact hn e1)]
          exact HG7.out.2.1
        · rw [World.cell?_setCell_other _ _ _ _ (fun e => by injection e with e1 e2; exact hn e1)]
          exact HG7.out.2.2)
      refine hK.out _ _ (HG8.out) (fun hHeld => ?_)
      clear hK K
      try simp only [Act.put, List.setIfInBounds_toArray, List.set_cons_zero, List.set_cons_succ]
      refine wpAnyH_done (by kernel_rfl) ?_ _
      clear hHeld
      obtain ⟨hR8, hX8, hF8⟩ := HS7.out
      rw [updC_twice] at hR8
      rw [updC_same] at hR8 hX8 hF8
      have HR8 := Lib.hid hR8
      have HX8 := Lib.hid hX8
      have hF68 := HF6.out.trans hF8
      have HF8 := Lib.hid hF68
      obtain ⟨-, b0, b1⟩ := HG8.out
      clear z7 hw7 hR8 hX8 hF8 HS7 HG7 HG8 hc6 hc6Y b0d b1d hg6d
      generalize hW8 : W7.setCell ⟨cb, i * 11 + 6, none⟩ (.slice A8 (mw + 1) c8) = W8 at HR8 HX8 HF8 hF68 b0 b1 ⊢
      clear hW8
      have hQ8 := box_fi hF68 HQ3.out.1 (fun e => e.elim HQ3.out.2 (fun e => absurd (HNx.out _ e) (Nat.lt_irrefl _)))
      clear hF68
      obtain ⟨q0, q1, z0, z1⟩ := two_boxR hQ8.1
      have HQn := Lib.hid hQ8.2
      have HQl := Lib.hid (blk_lt hQ8.1)
      clear hQ8
      obtain ⟨r0, r1⟩ := two_set q0 q1 (.string ot) (.int .i64 oe)
      go_wp2_with fail
      refine bodyPost_ret (v := .agg #[.string ot, .int .i64 oe]) (by simp [results, Tryd.results26, go_sem, r0, r1]) rfl ?_
      exact (of_end (o := ⟨ot, oe⟩) HP.out.rg HW1.out HF2.out HB2.out HF8.out HR8.out HX8.out HD2.out HS2.out HE2.out HQn.out HO.out)
    · go_simp
      refine hK.out _ _ (HSY.out) (fun hHeld => ?_)
      clear hK K
      try simp only [Act.put, List.setIfInBounds_toArray, List.set_cons_zero, List.set_cons_succ]
      refine wpAnyH_ready (rs := [12]) (by kernel_rfl) (by simp) ?_
      refine AllReadyH.cons (show _ = some { dst := some 54, op := _, type := _, pos := _, after := _, guard := _ } from rfl) (fun K hK => ?_) AllReadyH.nil
      go_simp
      refine hK.out _ _ (hHeld) (fun hHeld => ?_)
      clear hK K
      try simp only [Act.put, List.setIfInBounds_toArray, List.set_cons_zero, List.set_cons_succ]
      refine wpAnyH_ready (rs := [15]) (by kernel_rfl) (by simp) ?_
      refine AllReadyH.cons (show _ = some { dst := some 57, op := _, type := _, pos := _, after := _, guard := _ } from rfl) (fun K hK => ?_) AllReadyH.nil
      rw [if_pos (by rfl)]
      refine wp_append_own_at _ _ 62 rfl 0 40 j0 (.agg #[.string ⟨#[]⟩, .int .i64 0]) 2 24 Tryd.underlying62 hj0 hy0 hy1 hy2 rfl (by decide) _ _ _ rfl (HWv.out ▸ (HWs.out.alloc _)) ⟨W6.heap.size, 0, none⟩ 1 1 [.string ot, .int .i64 oe] rfl rfl ?_ ?_ ?_ ?_ (Nat.zero_le _) ?_
      · exact CN2.out
      · intro u hu
        simp only [List.mem_cons, List.not_mem_nil, or_false] at hu
        rcases hu with rfl | rfl <;> rfl
      · exact HL.out.2.2.1
      · exact HL.out.2.2.2
      intro v7 W7 hown7 hg7 _ ho7
      obtain ⟨A8, c8, rfl, _⟩ := own_slice hown7
      have hg7 : (W6.alloc (.cells #[.string ot, .int .i64 oe] 40)).drew.grownBy W7 (updC xs2 i x3 i).wv.ownBlock := by rw [updC_same, HWv.out]; exact hg7
      have ho7 : (Value.slice A8 (mw + 1) c8).ownBlock = (updC xs2 i x3 i).wv.ownBlock ∨ (Value.slice A8 (mw + 1) c8).ownBlock = some (W6.alloc (.cells #[.string ot, .int .i64 oe] 40)).drew.heap.size := by rw [updC_same, HWv.out]; exact ho7
      have HS7 := Lib.hid (w_step HR6.out HC.out HI.out HX6'.out HY2.out hown7 hg7 ho7)
      have hwb : ∀ b, (updC xs2 i x3 i).wv.ownBlock = some b → b < W.heap.size := fun b hb => HNx.out b (.inr (by rw [updC_same, hw3] at hb; exact hb))
      have hne7 : ∀ b, b < W6.heap.size → (updC xs2 i x3 i).wv.ownBlock ≠ some b → W7.heap[b]? = W6.heap[b]? := fun b hb1 hb2 => (hg7.block b (Nat.lt_of_lt_of_le hb1 HY2.out.size) (fun e => hb2 e.symm)).trans (HY2.out.block b hb1)
      have hG7 : W7.cell? ⟨L.G, 0, none⟩ = some (.slice (some ⟨cb, 0, none⟩) k L.cc) := by
        rw [World.cell?_of_block (w := W6) (hne7 L.G (HR6.out.lt (.inr (.inl rfl))) (fun e => (HX6'.out.wn _ e).1 (.inl rfl)))]
        exact HG6.out
      have hB7 : W7.cell? ⟨W2.heap.size, 0, none⟩ = some (.string ot) ∧ W7.cell? ⟨W2.heap.size, 1, none⟩ = some (.int .i64 oe) := by
        have hbb := hne7 W2.heap.size (blk_lt HB6.out.1) (fun e => by have := hwb _ e; have := HWQ.out; omega)
        exact ⟨(World.cell?_of_block (w := W6) (a := ⟨W2.heap.size, 0, none⟩) hbb).trans HBc.out.1, (World.cell?_of_block (w := W6) (a := ⟨W2.heap.size, 1, none⟩) hbb).trans HBc.out.2⟩
      have HG7 := Lib.hid (And.intro hG7 hB7)
      have z7 : W7.frozen? ⟨cb, i * 11 + 6, none⟩ = false := by
        rw [World.frozen?_of_block (w := W6) (hne7 cb (HR6.out.lt (.inr (.inr (.inl ⟨_, HC.out, rfl⟩)))) (fun e => (HX6'.out.wn _ e).1 (.inr (.inl ⟨_, HC.out, rfl⟩))))]
        exact HR6.out.free HC.out _
      have hw7 : ∃ v, W7.cell? ⟨cb, i * 11 + 6, none⟩ = some v := ⟨x3.wv, by
        rw [World.cell?_of_block (w := W6) (hne7 cb (HR6.out.lt (.inr (.inr (.inl ⟨_, HC.out, rfl⟩)))) (fun e => (HX6'.out.wn _ e).1 (.inr (.inl ⟨_, HC.out, rfl⟩))))]
        have := HR6.out.cell HC.out (o := 6) HI.out (by omega)
        rw [updC_same] at this
        exact this⟩
      obtain ⟨w7, hw7⟩ := hw7
      clear hown7 hg7 ho7 hne7 hG7 hB7 hwb
      refine hK.out _ _ (HG7.out) (fun hHeld => ?_)
      clear hK K
      try simp only [Act.put, List.setIfInBounds_toArray, List.set_cons_zero, List.set_cons_succ]
      refine wpAnyH_take (i := 16) (v := ?_) (show _ = some { dst := some 58, op := _, type := _, pos := _, after := _, guard := _ } from rfl) (by kernel_rfl) (by kernel_rfl) (by kernel_rfl) (fun _ _ _ h => h) (Or.inl ⟨by rfl, ?_⟩) hHeld ?_
      rotate_left
      · intro w' hSw
        (try dsimp only at hSw)
        go_simp
        try with_reducible rfl
      try simp only [Act.put, List.setIfInBounds_toArray, List.set_cons_zero, List.set_cons_succ]
      refine wpAnyH_take (i := 17) (v := ?_) (show _ = some { dst := some 59, op := _, type := _, pos := _, after := _, guard := _ } from rfl) (by kernel_rfl) (by kernel_rfl) (by kernel_rfl) (fun _ _ _ h => h) (Or.inl ⟨by rfl, ?_⟩) hHeld ?_
      rotate_left
      · intro w' hSw
        (try dsimp only at hSw)
        go_simp
        try with_reducible rfl
      try simp only [Act.put, List.setIfInBounds_toArray, List.set_cons_zero, List.set_cons_succ]
      refine wpAnyH_ready (rs := [18]) (by kernel_rfl) (by simp) ?_
      refine AllReadyH.cons (show _ = some { dst := none, op := _, type := _, pos := _, after := _, guard := _ } from rfl) (fun K hK => ?_) AllReadyH.nil
      go_simp
      have HG8 : Hid ((W7.setCell ⟨cb, i * 11 + 6, none⟩ (.slice A8 (mw + 1) c8)).cell? ⟨L.G, 0, none⟩ = some (.slice (some ⟨cb, 0, none⟩) k L.cc) ∧ (W7.setCell ⟨cb, i * 11 + 6, none⟩ (.slice A8 (mw + 1) c8)).cell? ⟨W2.heap.size, 0, none⟩ = some (.string ot) ∧ (W7.setCell ⟨cb, i * 11 + 6, none⟩ (.slice A8 (mw + 1) c8)).cell? ⟨W2.heap.size, 1, none⟩ = some (.int .i64 oe)) := Lib.hid (by
        have hn : ¬ cb = W2.heap.size := fun e => HB6.out.2 (.inl (.inr (.inl ⟨_, HC.out, e⟩)))
        refine ⟨?_, ?_, ?_⟩
        · rw [World.cell?_setCell_other _ _ _ _ (fun e => HR6.out.gne _ HC.out (by injection e))]
          exact HG7.out.1
        · rw [World.cell?_setCell_other _ _ _ _ (fun e => by injection e with e1 e2; exact hn e1)]
          exact HG7.out.2.1
        · rw [World.cell?_setCell_other _ _ _ _ (fun e => by injection e with e1 e2; exact hn e1)]
          exact HG7.out.2.2)
      refine hK.out _ _ (HG8.out) (fun hHeld => ?_)
      clear hK K
      try simp only [Act.put, List.setIfInBounds_toArray, List.set_cons_zero, List.set_cons_succ]
      refine wpAnyH_done (by kernel_rfl) ?_ _
      clear hHeld
      obtain ⟨hR8, hX8, hF8⟩ := HS7.out
      rw [updC_twice] at hR8
      rw [updC_same] at hR8 hX8 hF8
      have HR8 := Lib.hid hR8
      have HX8 := Lib.hid hX8
      have hF68 := HF6.out.trans hF8
      have HF8 := Lib.hid hF68
      obtain ⟨-, b0, b1⟩ := HG8.out
      clear z7 hw7 hR8 hX8 hF8 HS7 HG7 HG8 hc6 hc6Y b0d b1d hg6d
      generalize hW8 : W7.setCell ⟨cb, i * 11 + 6, none⟩ (.slice A8 (mw + 1) c8) = W8 at HR8 HX8 HF8 hF68 b0 b1 ⊢
      clear hW8
      have hQ8 := box_fi hF68 HQ3.out.1 (fun e => e.elim HQ3.out.2 (fun e => absurd (HNx.out _ e) (Nat.lt_irrefl _)))
      clear hF68
      obtain ⟨q0, q1, z0, z1⟩ := two_boxR hQ8.1
      have HQn := Lib.hid hQ8.2
      have HQl := Lib.hid (blk_lt hQ8.1)
      clear hQ8
      obtain ⟨r0, r1⟩ := two_set q0 q1 (.string ot) (.int .i64 oe)
      go_wp2_with fail
      refine bodyPost_ret (v := .agg #[.string ot, .int .i64 oe]) (by simp [results, Tryd.results26, go_sem, r0, r1]) rfl ?_
      exact (of_end (o := ⟨ot, oe⟩) HP.out.rg HW1.out HF2.out HB2.out HF8.out HR8.out HX8.out HD2.out HS2.out HE2.out HQn.out HO.out)
  · go_simp
    refine hK.out _ _ (HGY.out) (fun hHeld => ?_)
    clear hK K
    try simp only [Act.put, List.setIfInBounds_toArray, List.set_cons_zero, List.set_cons_succ]
    refine wpAnyH_ready (rs := [12]) (by kernel_rfl) (by simp) ?_
    refine AllReadyH.cons (show _ = some { dst := some 36, op := _, type := _, pos := _, after := _, guard := _ } from rfl) (fun K hK => ?_) AllReadyH.nil
    go_simp
    refine hK.out _ _ (hHeld) (fun hHeld => ?_)
    clear hK K
    try simp only [Act.put, List.setIfInBounds_toArray, List.set_cons_zero, List.set_cons_succ]
    refine wpAnyH_ready (rs := [15]) (by kernel_rfl) (by simp) ?_
    refine AllReadyH.cons (show _ = some { dst := some 39, op := _, type := _, pos := _, after := _, guard := _ } from rfl) (fun K hK => ?_) AllReadyH.nil
    rw [if_pos (by rfl)]
    refine wp_append_own_at _ _ 24 rfl 0 9 i0 (.string ⟨#[]⟩) 1 16 Tryd.underlying24 hi0 hz0 hz1 hz2 rfl (by decide) _ _ _ rfl (HDv.out ▸ (HDs.out.alloc _)) ⟨W3.heap.size, 0, none⟩ 1 1 [.string (lastN i)] rfl rfl ?_ ?_ ?_ ?_ (Nat.zero_le _) ?_
    · exact CN.out
    · intro u hu
      simp only [List.mem_cons, List.not_mem_nil, or_false] at hu
      rcases hu with rfl
      rfl
    · exact HL.out.1
    · exact HL.out.2.1
    intro v5 W5 hown5 hg5 _ ho5
    obtain ⟨A6, c6, rfl, _⟩ := own_slice hown5
    have hg5 : (W3.alloc (.cells #[.string (lastN i)] 9)).drew.grownBy W5 (xs2 i).dv.ownBlock := by rw [HDv.out]; exact hg5
    have ho5 : (Value.slice A6 (md + 1) c6).ownBlock = (xs2 i).dv.ownBlock ∨ (Value.slice A6 (md + 1) c6).ownBlock = some (W3.alloc (.cells #[.string (lastN i)] 9)).drew.heap.size := by rw [HDv.out]; exact ho5
    have HS5 := Lib.hid (d_step HR3.out HC.out HI.out HX3.out HY.out hown5 hg5 ho5)
    have hne5 : ∀ b, b < W3.heap.size → (xs2 i).dv.ownBlock ≠ some b → W5.heap[b]? = W3.heap[b]? := fun b hb1 hb2 => (hg5.block b (Nat.lt_of_lt_of_le hb1 HY.out.size) (fun e => hb2 e.symm)).trans (HY.out.block b hb1)
    have hG5 : W5.cell? ⟨L.G, 0, none⟩ = some (.slice (some ⟨cb, 0, none⟩) k L.cc) := by
      rw [World.cell?_of_block (w := W3) (hne5 L.G (HR3.out.lt (.inr (.inl rfl))) (fun e => (HX3.out.dn _ e).1 (.inl rfl)))]
      exact HG0.out
    have HG5 := Lib.hid hG5
    have z5 : W5.frozen? ⟨cb, i * 11 + 5, none⟩ = false := by
      rw [World.frozen?_of_block (w := W3) (hne5 cb (HR3.out.lt (.inr (.inr (.inl ⟨_, HC.out, rfl⟩)))) (fun e => (HX3.out.dn _ e).1 (.inr (.inl ⟨_, HC.out, rfl⟩))))]
      exact HR3.out.free HC.out _
    have hw5 : ∃ v, W5.cell? ⟨cb, i * 11 + 5, none⟩ = some v := ⟨(xs2 i).dv, by
      rw [World.cell?_of_block (w := W3) (hne5 cb (HR3.out.lt (.inr (.inr (.inl ⟨_, HC.out, rfl⟩)))) (fun e => (HX3.out.dn _ e).1 (.inr (.inl ⟨_, HC.out, rfl⟩))))]
      exact HR3.out.cell HC.out (o := 5) HI.out (by omega)⟩
    obtain ⟨w5, hw5⟩ := hw5
    clear hown5 hg5 ho5 hne5 hG5
    refine hK.out _ _ (HG5.out) (fun hHeld => ?_)
    clear hK K
    try simp only [Act.put, List.setIfInBounds_toArray, List.set_cons_zero, List.set_cons_succ]
    refine wpAnyH_take (i := 16) (v := ?_) (show _ = some { dst := some 40, op := _, type := _, pos := _, after := _, guard := _ } from rfl) (by kernel_rfl) (by kernel_rfl) (by kernel_rfl) (fun _ _ _ h => h) (Or.inl ⟨by rfl, ?_⟩) hHeld ?_
    rotate_left
    · intro w' hSw
      (try dsimp only at hSw)
      go_simp
      try with_reducible rfl
    try simp only [Act.put, List.setIfInBounds_toArray, List.set_cons_zero, List.set_cons_succ]
    refine wpAnyH_take (i := 17) (v := ?_) (show _ = some { dst := some 41, op := _, type := _, pos := _, after := _, guard := _ } from rfl) (by kernel_rfl) (by kernel_rfl) (by kernel_rfl) (fun _ _ _ h => h) (Or.inl ⟨by rfl, ?_⟩) hHeld ?_
    rotate_left
    · intro w' hSw
      (try dsimp only at hSw)
      go_simp
      try with_reducible rfl
    try simp only [Act.put, List.setIfInBounds_toArray, List.set_cons_zero, List.set_cons_succ]
    refine wpAnyH_ready (rs := [18]) (by kernel_rfl) (by simp) ?_
    refine AllReadyH.cons (show _ = some { dst := none, op := _, type := _, pos := _, after := _, guard := _ } from rfl) (fun K hK => ?_) AllReadyH.nil
    go_simp
    have HG6 : Hid ((W5.setCell ⟨cb, i * 11 + 5, none⟩ (.slice A6 (md + 1) c6)).cell? ⟨L.G, 0, none⟩ = some (.slice (some ⟨cb, 0, none⟩) k L.cc)) := Lib.hid (by
      rw [World.cell?_setCell_other _ _ _ _ (fun e => HR3.out.gne _ HC.out (by injection e))]
      exact HG5.out)
    refine hK.out _ _ (HG6.out) (fun hHeld => ?_)
    clear hK K
    try simp only [Act.put, List.setIfInBounds_toArray, List.set_cons_zero, List.set_cons_succ]
    refine wpAnyH_done (by kernel_rfl) ?_ _
    clear hHeld
    obtain ⟨hR6, hX6, hF6⟩ := HS5.out
    have HR6 := Lib.hid hR6
    have HX6 := Lib.hid hX6
    have HF6 := Lib.hid hF6
    have hG6 := HG6.out
    clear z5 hw5 hg0d hc5 hc5Y hR6 hX6 hF6 HS5 HG5 HG6 HGY CN HY
    generalize hW6 : W5.setCell ⟨cb, i * 11 + 5, none⟩ (.slice A6 (md + 1) c6) = W6 at HR6 HX6 HF6 hG6 ⊢
    clear hW6
    have hQ6 := box_fi HF6.out HQ3.out.1 (fun e => e.elim HQ3.out.2 (fun e => absurd (HNx.out _ e) (Nat.lt_irrefl _)))
    have hB6 := box_fi HF6.out HBx.out.1 (fun e => e.elim HBx.out.2 (fun e => by have := HNx.out _ e; have := HWQ.out; omega))
    have HQ6 := Lib.hid hQ6
    have HB6 := Lib.hid hB6
    generalize hx3 : ({ xs2 i with dv := .slice A6 (md + 1) c6 } : RC) = x3 at HR6 HX6 HF6 HQ6 HB6 hQ6 hB6
    have HX6' : Hid (XR L k uv2 (updC xs2 i x3 i) (md + 1) mw W6) := Lib.hid (by rw [updC_same]; exact HX6.out)
    have hw3 : x3.wv = (xs2 i).wv := by rw [← hx3]
    have hc6 := HR6.out.cell HC.out (o := 6) HI.out (by omega)
    rw [updC_same] at hc6
    obtain ⟨wsl, hws⟩ := HX6.out.w
    have HWs := Lib.hid hws
    obtain ⟨A7, cc7, hwv, _⟩ := own_slice hws
    simp only [rcCells, List.getElem?_cons_succ, List.getElem?_cons_zero] at hc6
    rw [hwv] at hc6
    have HWv := Lib.hid hwv
    have HG6 := Lib.hid hG6
    obtain ⟨b0, b1, -, -⟩ := two_boxR hB6.1
    have HBc := Lib.hid (And.intro b0 b1)
    have b0d : W6.drew.cell? ⟨W2.heap.size, 0, none⟩ = some (.string ot) := b0
    have b1d : W6.drew.cell? ⟨W2.heap.size, 1, none⟩ = some (.int .i64 oe) := b1
    have hg6d : W6.drew.cell? ⟨L.G, 0, none⟩ = some (.slice (some ⟨cb, 0, none⟩) k L.cc) := hG6
    have HY2 : Hid (Below W6.heap.size W6 (W6.alloc (.cells #[.string ot, .int .i64 oe] 40)).drew) := Lib.hid (((Below.refl _ _).alloc (Nat.le_refl _) _).drew)
    have hsY : (W6.alloc (.cells #[.string ot, .int .i64 oe] 40)).drew.cell? ⟨L.G, 0, none⟩ = some (.slice (some ⟨cb, 0, none⟩) k L.cc) ∧ (W6.alloc (.cells #[.string ot, .int .i64 oe] 40)).drew.cell? ⟨W2.heap.size, 0, none⟩ = some (.string ot) ∧ (W6.alloc (.cells #[.string ot, .int .i64 oe] 40)).drew.cell? ⟨W2.heap.size, 1, none⟩ = some (.int .i64 oe) := ⟨cell_alloc_of _ hG6, cell_alloc_of _ b0, cell_alloc_of _ b1⟩
    have HSY := Lib.hid hsY
    have hc6Y : (W6.alloc (.cells #[.string ot, .int .i64 oe] 40)).cell? ⟨cb, i * 11 + 6, none⟩ = some (.slice A7 mw cc7) := cell_alloc_of _ hc6
    obtain ⟨j0, hj0, hy0, hy1, hy2⟩ := parts3 infoAn
    have CN2 : Hid (∀ j u, [Value.string ot, .int .i64 oe][j]? = some u → (W6.alloc (.cells #[.string ot, .int .i64 oe] 40)).drew.cell? ((⟨W6.heap.size, 0, none⟩ : Addr).add j) = some u) := Lib.hid (cells_new W6 [.string ot, .int .i64 oe] 40)
    clear hws hwv hQ6 hB6 hG6 hsY b0 b1
    go_wp2_with fail
    refine wp_region_held_drew (S := (fun w' => w'.cell? ⟨L.G, 0, none⟩ = some (.slice (some ⟨cb, 0, none⟩) k L.cc) ∧ w'.cell? ⟨W2.heap.size, 0, none⟩ = some (.string ot) ∧ w'.cell? ⟨W2.heap.size, 1, none⟩ = some (.int .i64 oe))) (by kernel_rfl) ⟨hg6d, b0d, b1d⟩ (fun hHeld => ?_)
    refine wpAnyH_take (i := 0) (v := ?_) (show _ = some { dst := some 42, op := _, type := _, pos := _, after := _, guard := _ } from rfl) (by kernel_rfl) (by kernel_rfl) (by kernel_rfl) (fun _ _ _ h => h) (Or.inl ⟨by rfl, ?_⟩) hHeld ?_
    rotate_left
    · intro w' hSw
      (try dsimp only at hSw)
      go_simp
      try with_reducible rfl
    try simp only [Act.put, List.setIfInBounds_toArray, List.set_cons_zero, List.set_cons_succ]
    refine wpAnyH_take (i := 1) (v := ?_) (show _ = some { dst := some 43, op := _, type := _, pos := _, after := _, guard := _ } from rfl) (by kernel_rfl) (by kernel_rfl) (by kernel_rfl) (fun _ _ _ h => h) (Or.inl ⟨by rfl, ?_⟩) hHeld ?_
    rotate_left
    · intro w' hSw
      (try dsimp only at hSw)
      go_simp
      try with_reducible rfl
    try simp only [Act.put, List.setIfInBounds_toArray, List.set_cons_zero, List.set_cons_succ]
    refine wpAnyH_take (i := 2) (v := ?_) (show _ = some { dst := some 44, op := _, type := _, pos := _, after := _, guard := _ } from rfl) (by kernel_rfl) (by kernel_rfl) (by kernel_rfl) (fun _ _ _ h => h) (Or.inl ⟨by rfl, ?_⟩) hHeld ?_
    rotate_left
    · intro w' hSw
      (try dsimp only at hSw)
      go_simp
      try with_reducible rfl
    try simp only [Act.put, List.setIfInBounds_toArray, List.set_cons_zero, List.set_cons_succ]
    refine wpAnyH_take (i := 3) (v := ?_) (show _ = some { dst := some 45, op := _, type := _, pos := _, after := _, guard := _ } from rfl) (by kernel_rfl) (by kernel_rfl) (by kernel_rfl) (fun _ _ _ h => h) (Or.inl ⟨by rfl, ?_⟩) hHeld ?_
    rotate_left
    · intro w' hSw
      (try dsimp only at hSw)
      go_simp
      try with_reducible rfl
    try simp only [Act.put, List.setIfInBounds_toArray, List.set_cons_zero, List.set_cons_succ]
    refine wpAnyH_take (i := 4) (v := ?_) (show _ = some { dst := some 46, op := _, type := _, pos := _, after := _, guard := _ } from rfl) (by kernel_rfl) (by kernel_rfl) (by kernel_rfl) (fun _ _ _ h => h) (Or.inl ⟨by rfl, ?_⟩) hHeld ?_
    rotate_left
    · intro w' hSw
      (try dsimp only at hSw)
      go_simp
      try with_reducible rfl
    try simp only [Act.put, List.setIfInBounds_toArray, List.set_cons_zero, List.set_cons_succ]
    refine wpAnyH_take (i := 5) (v := ?_) (show _ = some { dst := some 47, op := _, type := _, pos := _, after := _, guard := _ } from rfl) (by kernel_rfl) (by kernel_rfl) (by kernel_rfl) (fun _ _ _ h => h) (Or.inl ⟨by rfl, ?_⟩) hHeld ?_
    rotate_left
    · intro w' hSw
      (try dsimp only at hSw)
      go_simp
      try with_reducible rfl
    try simp only [Act.put, List.setIfInBounds_toArray, List.set_cons_zero, List.set_cons_succ]
    refine wpAnyH_take (i := 6) (v := ?_) (show _ = some { dst := some 48, op := _, type := _, pos := _, after := _, guard := _ } from rfl) (by kernel_rfl) (by kernel_rfl) (by kernel_rfl) (fun _ _ _ h => h) (Or.inl ⟨by rfl, ?_⟩) hHeld ?_
    rotate_left
    · intro w' hSw
      (try dsimp only at hSw)
      go_simp
      try with_reducible rfl
    try simp only [Act.put, List.setIfInBounds_toArray, List.set_cons_zero, List.set_cons_succ]
    refine wpAnyH_take (i := 7) (v := ?_) (show _ = some { dst := some 49, op := _, type := _, pos := _, after := _, guard := _ } from rfl) (by kernel_rfl) (by kernel_rfl) (by kernel_rfl) (fun _ _ _ h => h) (Or.inl ⟨by rfl, ?_⟩) hHeld ?_
    rotate_left
    · intro w' hSw
      (try dsimp only at hSw)
      go_simp
      try with_reducible rfl
    try simp only [Act.put, List.setIfInBounds_toArray, List.set_cons_zero, List.set_cons_succ]
    refine wpAnyH_take (i := 8) (v := ?_) (show _ = some { dst := some 50, op := _, type := _, pos := _, after := _, guard := _ } from rfl) (by kernel_rfl) (by kernel_rfl) (by kernel_rfl) (fun _ _ _ h => h) (Or.inl ⟨by rfl, ?_⟩) hHeld ?_
    rotate_left
    · intro w' hSw
      (try dsimp only at hSw)
      go_simp
      try with_reducible rfl
    try simp only [Act.put, List.setIfInBounds_toArray, List.set_cons_zero, List.set_cons_succ]
    refine wpAnyH_take (i := 9) (v := ?_) (show _ = some { dst := some 51, op := _, type := _, pos := _, after := _, guard := _ } from rfl) (by kernel_rfl) (by kernel_rfl) (by kernel_rfl) (fun _ _ _ h => h) (Or.inl ⟨by rfl, ?_⟩) hHeld ?_
    rotate_left
    · intro w' hSw
      (try dsimp only at hSw)
      go_simp
      try with_reducible rfl
    try simp only [Act.put, List.setIfInBounds_toArray, List.set_cons_zero, List.set_cons_succ]
    refine wpAnyH_take (i := 10) (v := ?_) (show _ = some { dst := some 52, op := _, type := _, pos := _, after := _, guard := _ } from rfl) (by kernel_rfl) (by kernel_rfl) (by kernel_rfl) (fun _ _ _ h => h) (Or.inl ⟨by rfl, ?_⟩) hHeld ?_
    rotate_left
    · intro w' hSw
      (try dsimp only at hSw)
      go_simp
      try with_reducible rfl
    try simp only [Act.put, List.setIfInBounds_toArray, List.set_cons_zero, List.set_cons_succ]
    refine wpAnyH_take (i := 11) (v := ?_) (show _ = some { dst := some 53, op := _, type := _, pos := _, after := _, guard := _ } from rfl) (by kernel_rfl) (by kernel_rfl) (by kernel_rfl) (fun _ _ _ h => h) (Or.inl ⟨by rfl, ?_⟩) hHeld ?_
    rotate_left
    · intro w' hSw
      (try dsimp only at hSw)
      go_simp
      try with_reducible rfl
    try simp only [Act.put, List.setIfInBounds_toArray, List.set_cons_zero, List.set_cons_succ]
    refine wpAnyH_take (i := 13) (v := ?_) (show _ = some { dst := some 55, op := _, type := _, pos := _, after := _, guard := _ } from rfl) (by kernel_rfl) (by kernel_rfl) (by kernel_rfl) (fun _ _ _ h => h) (Or.inl ⟨by rfl, ?_⟩) hHeld ?_
    rotate_left
    · intro w' hSw
      (try dsimp only at hSw)
      go_simp
      try with_reducible rfl
    try simp only [Act.put, List.setIfInBounds_toArray, List.set_cons_zero, List.set_cons_succ]
    refine wpAnyH_ready (rs := [12, 14]) (by kernel_rfl) (by simp) ?_
    refine AllReadyH.cons (show _ = some { dst := some 54, op := _, type := _, pos := _, after := _, guard := _ } from rfl) (fun K hK => ?_) (AllReadyH.cons (show _ = some { dst := some 56, op := _, type := _, pos := _, after := _, guard := _ } from rfl) (fun K hK => ?_) AllReadyH.nil)
    · go_simp
      refine hK.out _ _ (hHeld) (fun hHeld => ?_)
      clear hK K
      try simp only [Act.put, List.setIfInBounds_toArray, List.set_cons_zero, List.set_cons_succ]
      refine wpAnyH_ready (rs := [14]) (by kernel_rfl) (by simp) ?_
      refine AllReadyH.cons (show _ = some { dst := some 56, op := _, type := _, pos := _, after := _, guard := _ } from rfl) (fun K hK => ?_) AllReadyH.nil
      go_simp
      refine hK.out _ _ (HSY.out) (fun hHeld => ?_)
      clear hK K
      try simp only [Act.put, List.setIfInBounds_toArray, List.set_cons_zero, List.set_cons_succ]
      refine wpAnyH_ready (rs := [15]) (by kernel_rfl) (by simp) ?_
      refine AllReadyH.cons (show _ = some { dst := some 57, op := _, type := _, pos := _, after := _, guard := _ } from rfl) (fun K hK => ?_) AllReadyH.nil
      rw [if_pos (by rfl)]
      refine wp_append_own_at _ _ 62 rfl 0 40 j0 (.agg #[.string ⟨#[]⟩, .int .i64 0]) 2 24 Tryd.underlying62 hj0 hy0 hy1 hy2 rfl (by decide) _ _ _ rfl (HWv.out ▸ (HWs.out.alloc _)) ⟨W6.heap.size, 0, none⟩ 1 1 [.string ot, .int .i64 oe] rfl rfl ?_ ?_ ?_ ?_ (Nat.zero_le _) ?_
      · exact CN2.out
      · intro u hu
        simp only [List.mem_cons, List.not_mem_nil, or_false] at hu
        rcases hu with rfl | rfl <;> rfl
      · exact HL.out.2.2.1
      · exact HL.out.2.2.2
      intro v7 W7 hown7 hg7 _ ho7
      obtain ⟨A8, c8, rfl, _⟩ := own_slice hown7
      have hg7 : (W6.alloc (.cells #[.string ot, .int .i64 oe] 40)).drew.grownBy W7 (updC xs2 i x3 i).wv.ownBlock := by rw [updC_same, HWv.out]; exact hg7
      have ho7 : (Value.slice A8 (mw + 1) c8).ownBlock = (updC xs2 i x3 i).wv.ownBlock ∨ (Value.slice A8 (mw + 1) c8).ownBlock = some (W6.alloc (.cells #[.string ot, .int .i64 oe] 40)).drew.heap.size := by rw [updC_same, HWv.out]; exact ho7
      have HS7 := Lib.hid (w_step HR6.out HC.out HI.out HX6'.out HY2.out hown7 hg7 ho7)
      have hwb : ∀ b, (updC xs2 i x3 i).wv.ownBlock = some b → b < W.heap.size := fun b hb => HNx.out b (.inr (by rw [updC_same, hw3] at hb; exact hb))
      have hne7 : ∀ b, b < W6.heap.size → (updC xs2 i x3 i).wv.ownBlock ≠ some b → W7.heap[b]? = W6.heap[b]? := fun b hb1 hb2 => (hg7.block b (Nat.lt_of_lt_of_le hb1 HY2.out.size) (fun e => hb2 e.symm)).trans (HY2.out.block b hb1)
      have hG7 : W7.cell? ⟨L.G, 0, none⟩ = some (.slice (some ⟨cb, 0, none⟩) k L.cc) := by
        rw [World.cell?_of_block (w := W6) (hne7 L.G (HR6.out.lt (.inr (.inl rfl))) (fun e => (HX6'.out.wn _ e).1 (.inl rfl)))]
        exact HG6.out
      have hB7 : W7.cell? ⟨W2.heap.size, 0, none⟩ = some (.string ot) ∧ W7.cell? ⟨W2.heap.size, 1, none⟩ = some (.int .i64 oe) := by
        have hbb := hne7 W2.heap.size (blk_lt HB6.out.1) (fun e => by have := hwb _ e; have := HWQ.out; omega)
        exact ⟨(World.cell?_of_block (w := W6) (a := ⟨W2.heap.size, 0, none⟩) hbb).trans HBc.out.1, (World.cell?_of_block (w := W6) (a := ⟨W2.heap.size, 1, none⟩) hbb).trans HBc.out.2⟩
      have HG7 := Lib.hid (And.intro hG7 hB7)
      have z7 : W7.frozen? ⟨cb, i * 11 + 6, none⟩ = false := by
        rw [World.frozen?_of_block (w := W6) (hne7 cb (HR6.out.lt (.inr (.inr (.inl ⟨_, HC.out, rfl⟩)))) (fun e => (HX6'.out.wn _ e).1 (.inr (.inl ⟨_, HC.out, rfl⟩))))]
        exact HR6.out.free HC.out _
      have hw7 : ∃ v, W7.cell? ⟨cb, i * 11 + 6, none⟩ = some v := ⟨x3.wv, by
        rw [World.cell?_of_block (w := W6) (hne7 cb (HR6.out.lt (.inr (.inr (.inl ⟨_, HC.out, rfl⟩)))) (fun e => (HX6'.out.wn _ e).1 (.inr (.inl ⟨_, HC.out, rfl⟩))))]
        have := HR6.out.cell HC.out (o := 6) HI.out (by omega)
        rw [updC_same] at this
        exact this⟩
      obtain ⟨w7, hw7⟩ := hw7
      clear hown7 hg7 ho7 hne7 hG7 hB7 hwb
      refine hK.out _ _ (HG7.out) (fun hHeld => ?_)
      clear hK K
      try simp only [Act.put, List.setIfInBounds_toArray, List.set_cons_zero, List.set_cons_succ]
      refine wpAnyH_take (i := 16) (v := ?_) (show _ = some { dst := some 58, op := _, type := _, pos := _, after := _, guard := _ } from rfl) (by kernel_rfl) (by kernel_rfl) (by kernel_rfl) (fun _ _ _ h => h) (Or.inl ⟨by rfl, ?_⟩) hHeld ?_
      rotate_left
      · intro w' hSw
        (try dsimp only at hSw)
        go_simp
        try with_reducible rfl
      try simp only [Act.put, List.setIfInBounds_toArray, List.set_cons_zero, List.set_cons_succ]
      refine wpAnyH_take (i := 17) (v := ?_) (show _ = some { dst := some 59, op := _, type := _, pos := _, after := _, guard := _ } from rfl) (by kernel_rfl) (by kernel_rfl) (by kernel_rfl) (fun _ _ _ h => h) (Or.inl ⟨by rfl, ?_⟩) hHeld ?_
      rotate_left
      · intro w' hSw
        (try dsimp only at hSw)
        go_simp
        try with_reducible rfl
      try simp only [Act.put, List.setIfInBounds_toArray, List.set_cons_zero, List.set_cons_succ]
      refine wpAnyH_ready (rs := [18]) (by kernel_rfl) (by simp) ?_
      refine AllReadyH.cons (show _ = some { dst := none, op := _, type := _, pos := _, after := _, guard := _ } from rfl) (fun K hK => ?_) AllReadyH.nil
      go_simp
      have HG8 : Hid ((W7.setCell ⟨cb, i * 11 + 6, none⟩ (.slice A8 (mw + 1) c8)).cell? ⟨L.G, 0, none⟩ = some (.slice (some ⟨cb, 0, none⟩) k L.cc) ∧ (W7.setCell ⟨cb, i * 11 + 6, none⟩ (.slice A8 (mw + 1) c8)).cell? ⟨W2.heap.size, 0, none⟩ = some (.string ot) ∧ (W7.setCell ⟨cb, i * 11 + 6, none⟩ (.slice A8 (mw + 1) c8)).cell? ⟨W2.heap.size, 1, none⟩ = some (.int .i64 oe)) := Lib.hid (by
        have hn : ¬ cb = W2.heap.size := fun e => HB6.out.2 (.inl (.inr (.inl ⟨_, HC.out, e⟩)))
        refine ⟨?_, ?_, ?_⟩
        · rw [World.cell?_setCell_other _ _ _ _ (fun e => HR6.out.gne _ HC.out (by injection e))]
          exact HG7.out.1
        · rw [World.cell?_setCell_other _ _ _ _ (fun e => by injection e with e1 e2; exact hn e1)]
          exact HG7.out.2.1
        · rw [World.cell?_setCell_other _ _ _ _ (fun e => by injection e with e1 e2; exact hn e1)]
          exact HG7.out.2.2)
      refine hK.out _ _ (HG8.out) (fun hHeld => ?_)
      clear hK K
      try simp only [Act.put, List.setIfInBounds_toArray, List.set_cons_zero, List.set_cons_succ]
      refine wpAnyH_done (by kernel_rfl) ?_ _
      clear hHeld
      obtain ⟨hR8, hX8, hF8⟩ := HS7.out
      rw [updC_twice] at hR8
      rw [updC_same] at hR8 hX8 hF8
      have HR8 := Lib.hid hR8
      have HX8 := Lib.hid hX8
      have hF68 := HF6.out.trans hF8
      have HF8 := Lib.hid hF68
      obtain ⟨-, b0, b1⟩ := HG8.out
      clear z7 hw7 hR8 hX8 hF8 HS7 HG7 HG8 hc6 hc6Y b0d b1d hg6d
      generalize hW8 : W7.setCell ⟨cb, i * 11 + 6, none⟩ (.slice A8 (mw + 1) c8) = W8 at HR8 HX8 HF8 hF68 b0 b1 ⊢
      clear hW8
      have hQ8 := box_fi hF68 HQ3.out.1 (fun e => e.elim HQ3.out.2 (fun e => absurd (HNx.out _ e) (Nat.lt_irrefl _)))
      clear hF68
      obtain ⟨q0, q1, z0, z1⟩ := two_boxR hQ8.1
      have HQn := Lib.hid hQ8.2
      have HQl := Lib.hid (blk_lt hQ8.1)
      clear hQ8
      obtain ⟨r0, r1⟩ := two_set q0 q1 (.string ot) (.int .i64 oe)
      go_wp2_with fail
      refine bodyPost_ret (v := .agg #[.string ot, .int .i64 oe]) (by simp [results, Tryd.results26, go_sem, r0, r1]) rfl ?_
      exact (of_end (o := ⟨ot, oe⟩) HP.out.rg HW1.out HF2.out HB2.out HF8.out HR8.out HX8.out HD2.out HS2.out HE2.out HQn.out HO.out)
    · go_simp
      refine hK.out _ _ (HSY.out) (fun hHeld => ?_)
      clear hK K
      try simp only [Act.put, List.setIfInBounds_toArray, List.set_cons_zero, List.set_cons_succ]
      refine wpAnyH_ready (rs := [12]) (by kernel_rfl) (by simp) ?_
      refine AllReadyH.cons (show _ = some { dst := some 54, op := _, type := _, pos := _, after := _, guard := _ } from rfl) (fun K hK => ?_) AllReadyH.nil
      go_simp
      refine hK.out _ _ (hHeld) (fun hHeld => ?_)
      clear hK K
      try simp only [Act.put, List.setIfInBounds_toArray, List.set_cons_zero, List.set_cons_succ]
      refine wpAnyH_ready (rs := [15]) (by kernel_rfl) (by simp) ?_
      refine AllReadyH.cons (show _ = some { dst := some 57, op := _, type := _, pos := _, after := _, guard := _ } from rfl) (fun K hK => ?_) AllReadyH.nil
      rw [if_pos (by rfl)]
      refine wp_append_own_at _ _ 62 rfl 0 40 j0 (.agg #[.string ⟨#[]⟩, .int .i64 0]) 2 24 Tryd.underlying62 hj0 hy0 hy1 hy2 rfl (by decide) _ _ _ rfl (HWv.out ▸ (HWs.out.alloc _)) ⟨W6.heap.size, 0, none⟩ 1 1 [.string ot, .int .i64 oe] rfl rfl ?_ ?_ ?_ ?_ (Nat.zero_le _) ?_
      · exact CN2.out
      · intro u hu
        simp only [List.mem_cons, List.not_mem_nil, or_false] at hu
        rcases hu with rfl | rfl <;> rfl
      · exact HL.out.2.2.1
      · exact HL.out.2.2.2
      intro v7 W7 hown7 hg7 _ ho7
      obtain ⟨A8, c8, rfl, _⟩ := own_slice hown7
      have hg7 : (W6.alloc (.cells #[.string ot, .int .i64 oe] 40)).drew.grownBy W7 (updC xs2 i x3 i).wv.ownBlock := by rw [updC_same, HWv.out]; exact hg7
      have ho7 : (Value.slice A8 (mw + 1) c8).ownBlock = (updC xs2 i x3 i).wv.ownBlock ∨ (Value.slice A8 (mw + 1) c8).ownBlock = some (W6.alloc (.cells #[.string ot, .int .i64 oe] 40)).drew.heap.size := by rw [updC_same, HWv.out]; exact ho7
      have HS7 := Lib.hid (w_step HR6.out HC.out HI.out HX6'.out HY2.out hown7 hg7 ho7)
      have hwb : ∀ b, (updC xs2 i x3 i).wv.ownBlock = some b → b < W.heap.size := fun b hb => HNx.out b (.inr (by rw [updC_same, hw3] at hb; exact hb))
      have hne7 : ∀ b, b < W6.heap.size → (updC xs2 i x3 i).wv.ownBlock ≠ some b → W7.heap[b]? = W6.heap[b]? := fun b hb1 hb2 => (hg7.block b (Nat.lt_of_lt_of_le hb1 HY2.out.size) (fun e => hb2 e.symm)).trans (HY2.out.block b hb1)
      have hG7 : W7.cell? ⟨L.G, 0, none⟩ = some (.slice (some ⟨cb, 0, none⟩) k L.cc) := by
        rw [World.cell?_of_block (w := W6) (hne7 L.G (HR6.out.lt (.inr (.inl rfl))) (fun e => (HX6'.out.wn _ e).1 (.inl rfl)))]
        exact HG6.out
      have hB7 : W7.cell? ⟨W2.heap.size, 0, none⟩ = some (.string ot) ∧ W7.cell? ⟨W2.heap.size, 1, none⟩ = some (.int .i64 oe) := by
        have hbb := hne7 W2.heap.size (blk_lt HB6.out.1) (fun e => by have := hwb _ e; have := HWQ.out; omega)
        exact ⟨(World.cell?_of_block (w := W6) (a := ⟨W2.heap.size, 0, none⟩) hbb).trans HBc.out.1, (World.cell?_of_block (w := W6) (a := ⟨W2.heap.size, 1, none⟩) hbb).trans HBc.out.2⟩
      have HG7 := Lib.hid (And.intro hG7 hB7)
      have z7 : W7.frozen? ⟨cb, i * 11 + 6, none⟩ = false := by
        rw [World.frozen?_of_block (w := W6) (hne7 cb (HR6.out.lt (.inr (.inr (.inl ⟨_, HC.out, rfl⟩)))) (fun e => (HX6'.out.wn _ e).1 (.inr (.inl ⟨_, HC.out, rfl⟩))))]
        exact HR6.out.free HC.out _
      have hw7 : ∃ v, W7.cell? ⟨cb, i * 11 + 6, none⟩ = some v := ⟨x3.wv, by
        rw [World.cell?_of_block (w := W6) (hne7 cb (HR6.out.lt (.inr (.inr (.inl ⟨_, HC.out, rfl⟩)))) (fun e => (HX6'.out.wn _ e).1 (.inr (.inl ⟨_, HC.out, rfl⟩))))]
        have := HR6.out.cell HC.out (o := 6) HI.out (by omega)
        rw [updC_same] at this
        exact this⟩
      obtain ⟨w7, hw7⟩ := hw7
      clear hown7 hg7 ho7 hne7 hG7 hB7 hwb
      refine hK.out _ _ (HG7.out) (fun hHeld => ?_)
      clear hK K
      try simp only [Act.put, List.setIfInBounds_toArray, List.set_cons_zero, List.set_cons_succ]
      refine wpAnyH_take (i := 16) (v := ?_) (show _ = some { dst := some 58, op := _, type := _, pos := _, after := _, guard := _ } from rfl) (by kernel_rfl) (by kernel_rfl) (by kernel_rfl) (fun _ _ _ h => h) (Or.inl ⟨by rfl, ?_⟩) hHeld ?_
      rotate_left
      · intro w' hSw
        (try dsimp only at hSw)
        go_simp
        try with_reducible rfl
      try simp only [Act.put, List.setIfInBounds_toArray, List.set_cons_zero, List.set_cons_succ]
      refine wpAnyH_take (i := 17) (v := ?_) (show _ = some { dst := some 59, op := _, type := _, pos := _, after := _, guard := _ } from rfl) (by kernel_rfl) (by kernel_rfl) (by kernel_rfl) (fun _ _ _ h => h) (Or.inl ⟨by rfl, ?_⟩) hHeld ?_
      rotate_left
      · intro w' hSw
        (try dsimp only at hSw)
        go_simp
        try with_reducible rfl
      try simp only [Act.put, List.setIfInBounds_toArray, List.set_cons_zero, List.set_cons_succ]
      refine wpAnyH_ready (rs := [18]) (by kernel_rfl) (by simp) ?_
      refine AllReadyH.cons (show _ = some { dst := none, op := _, type := _, pos := _, after := _, guard := _ } from rfl) (fun K hK => ?_) AllReadyH.nil
      go_simp
      have HG8 : Hid ((W7.setCell ⟨cb, i * 11 + 6, none⟩ (.slice A8 (mw + 1) c8)).cell? ⟨L.G, 0, none⟩ = some (.slice (some ⟨cb, 0, none⟩) k L.cc) ∧ (W7.setCell ⟨cb, i * 11 + 6, none⟩ (.slice A8 (mw + 1) c8)).cell? ⟨W2.heap.size, 0, none⟩ = some (.string ot) ∧ (W7.setCell ⟨cb, i * 11 + 6, none⟩ (.slice A8 (mw + 1) c8)).cell? ⟨W2.heap.size, 1, none⟩ = some (.int .i64 oe)) := Lib.hid (by
        have hn : ¬ cb = W2.heap.size := fun e => HB6.out.2 (.inl (.inr (.inl ⟨_, HC.out, e⟩)))
        refine ⟨?_, ?_, ?_⟩
        · rw [World.cell?_setCell_other _ _ _ _ (fun e => HR6.out.gne _ HC.out (by injection e))]
          exact HG7.out.1
        · rw [World.cell?_setCell_other _ _ _ _ (fun e => by injection e with e1 e2; exact hn e1)]
          exact HG7.out.2.1
        · rw [World.cell?_setCell_other _ _ _ _ (fun e => by injection e with e1 e2; exact hn e1)]
          exact HG7.out.2.2)
      refine hK.out _ _ (HG8.out) (fun hHeld => ?_)
      clear hK K
      try simp only [Act.put, List.setIfInBounds_toArray, List.set_cons_zero, List.set_cons_succ]
      refine wpAnyH_done (by kernel_rfl) ?_ _
      clear hHeld
      obtain ⟨hR8, hX8, hF8⟩ := HS7.out
      rw [updC_twice] at hR8
      rw [updC_same] at hR8 hX8 hF8
      have HR8 := Lib.hid hR8
      have HX8 := Lib.hid hX8
      have hF68 := HF6.out.trans hF8
      have HF8 := Lib.hid hF68
      obtain ⟨-, b0, b1⟩ := HG8.out
      clear z7 hw7 hR8 hX8 hF8 HS7 HG7 HG8 hc6 hc6Y b0d b1d hg6d
      generalize hW8 : W7.setCell ⟨cb, i * 11 + 6, none⟩ (.slice A8 (mw + 1) c8) = W8 at HR8 HX8 HF8 hF68 b0 b1 ⊢
      clear hW8
      have hQ8 := box_fi hF68 HQ3.out.1 (fun e => e.elim HQ3.out.2 (fun e => absurd (HNx.out _ e) (Nat.lt_irrefl _)))
      clear hF68
      obtain ⟨q0, q1, z0, z1⟩ := two_boxR hQ8.1
      have HQn := Lib.hid hQ8.2
      have HQl := Lib.hid (blk_lt hQ8.1)
      clear hQ8
      obtain ⟨r0, r1⟩ := two_set q0 q1 (.string ot) (.int .i64 oe)
      go_wp2_with fail
      refine bodyPost_ret (v := .agg #[.string ot, .int .i64 oe]) (by simp [results, Tryd.results26, go_sem, r0, r1]) rfl ?_
      exact (of_end (o := ⟨ot, oe⟩) HP.out.rg HW1.out HF2.out HB2.out HF8.out HR8.out HX8.out HD2.out HS2.out HE2.out HQn.out HO.out)
end Go.Proofs.YtjcaeoacgoklmaaDoor
