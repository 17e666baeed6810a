import Derived.Test.YtjcaeoacgoklmaaDoorGtK
namespace Go.Proofs.YtjcaeoacgoklmaaDoor
open Go.RowKit
def WorkR (L : RL) (k : Nat) (t : ByteArray) (i : Nat) (xs : Nat → RC) (us : List ByteArray) (uv : Value) (W : World) : Ending → World → Prop := fun e W' => ∃ xs' uv', e = .returned (.tuple #[]) ∧ RG L k t xs' us uv' W' ∧ (∀ a, a < i → DoneC t a (xs' a)) ∧ (xs' i).kept = true ∧ (xs' i).last = valN t (i + 1) ∧ (∀ a, i < a → xs' a = xs a) ∧ FI (RF L uv) (RF L uv') W W'
theorem rfx_rc0 {L : RL} {uv : Value} {x : RC} (hx : x = rc0) (b : Nat) : RFx L uv x b ↔ RF L uv b := by
  subst hx
  constructor
  · rintro (h | h | h)
    · exact h
    · cases h
    · cases h
  · exact .inl
theorem FI.out {F F' F'' : Nat → Prop} {W W' : World} (h : FI F F' W W') (hf : ∀ b, F'' b → F' b) : FI F F'' W W' := ⟨h.os, h.tape, h.output, h.size, fun b hb hn => ⟨(h.block b hb hn).1, fun e => (h.block b hb hn).2 (hf b e)⟩⟩
theorem FI.frm {F F' F'' : Nat → Prop} {W W' : World} (h : FI F F' W W') (hf : ∀ b, F b → F'' b) : FI F'' F' W W' := ⟨h.os, h.tape, h.output, h.size, fun b hb hn => h.block b hb (fun e => hn (hf b e))⟩
theorem FI.into {F F' F'' : Nat → Prop} {W W' : World} (h : FI F F' W W') (hf : ∀ b, F b → F'' b) (_hg : ∀ b, F' b → F'' b) : FI F'' F'' W W' := ⟨h.os, h.tape, h.output, h.size, fun b hb hn => ⟨(h.block b hb (fun e => hn (hf b e))).1, hn⟩⟩
theorem RG.box {L : RL} {k : Nat} {t : ByteArray} {xs : Nat → RC} {us : List ByteArray} {uv : Value} {W : World} (h : RG L k t xs us uv W) {p : Addr} (h1 : ¬ RF L uv p.block) (h2 : ¬ Stt L k p.block) (u : Value) : RG L k t xs us uv (W.setCell p u) :=
  h.keep fun _b hb => set_elseR W u (fun e => hb.elim (fun x => h2 (e ▸ x)) (fun x => h1 (e ▸ x)))
theorem box_set {W : World} {b : Nat} {u v x y : Value} {T : TypeId} (h : W.heap[b]? = some (.cells #[u, v] T (0, 0))) : ((W.setCell ⟨b, 0, none⟩ x).setCell ⟨b, 1, none⟩ y).heap[b]? = some (.cells #[x, y] T (0, 0)) := by
  have h1 := set_block h x (o := 0)
  have h2 := set_block h1 y (o := 1)
  exact h2
theorem valN_e8 (t : ByteArray) (i : Nat) : ((valN t i).e != 8) = true := by
  rcases valN_e t i with h | h <;> rw [h] <;> rfl
set_option maxRecDepth 100000 in
set_option maxHeartbeats 16000000 in
theorem rwork_any {i : Nat} (hA : AskR i) {L : RL} {k : Nat} {t : ByteArray} {xs : Nat → RC} {us : List ByteArray} {uv : Value} {W : World} (hk : k ≤ 24) (ht : t.size ≤ 262144) (h : AskPre L k t i xs us uv W) (hi : i < k) (hx : xs i = rc0) :
    Calls Tryd.prog 19 #[.pointer (some ⟨L.G, 0, none⟩), .int .i64 i] W (WorkR L k t i xs us uv W) := by
  obtain ⟨cb, hc⟩ := h.rg.cA_some (by omega)
  have HC := Lib.hid hc
  have HP := Lib.hid h
  have HI := Lib.hid hi
  have tk : (i : Int) < (k : Int) := by omega
  generalize hT : Obj.cells #[Value.string (nmB i), .int .i64 1, .slice (some ⟨L.rb i, 0, none⟩) 2 2, .string ⟨#[43]⟩] 59 = oR
  have HT := Lib.hid hT
  have c0 : W.cell? ⟨cb, i * 11, none⟩ = some (.string (nmB i)) := h.rg.cell hc (o := 0) hi (by omega)
  have c1 := h.rg.cell hc (o := 1) hi (by omega)
  have c2 := h.rg.cell hc (o := 2) hi (by omega)
  have c3 := h.rg.cell hc (o := 3) hi (by omega)
  have g0 := h.rg.cellG 0
  rw [hc] at g0
  simp only [rcCells, List.getElem?_toArray, List.getElem?_cons_succ, List.getElem?_cons_zero] at c1 c2 c3 g0
  -- the world behind the two stores of nil, and behind both boxes
  have hb1 : Below W.heap.size W (W.alloc oR) := (Below.refl _ _).alloc (Nat.le_refl _) _
  have h1 := h.rg.later hb1
  have h2 := h1.store hc hi (o := 5) (by omega) (u := .slice none 0 0) (x := xs i) (by rw [hx]; rfl)
  rw [updC_self] at h2
  have h3 := h2.store hc hi (o := 6) (by omega) (u := .slice none 0 0) (x := xs i) (by rw [hx]; rfl)
  rw [updC_self] at h3
  have c5 : ∀ o, (W.alloc o).cell? ⟨cb, i * 11 + 5, none⟩ = some (.slice none 0 0) := fun o => by
    have := (h.rg.later ((Below.refl _ _).alloc (Nat.le_refl _) o)).cell hc (o := 5) hi (by omega)
    rw [hx] at this
    exact this
  have z5 : ∀ o, (W.alloc o).frozen? ⟨cb, i * 11 + 5, none⟩ = false := fun o => (h.rg.later ((Below.refl _ _).alloc (Nat.le_refl _) o)).free hc _
  have c6 : ((W.alloc oR).setCell ⟨cb, i * 11 + 5, none⟩ (.slice none 0 0)).cell? ⟨cb, i * 11 + 6, none⟩ = some (.slice none 0 0) := by
    have := h2.cell hc (o := 6) hi (by omega)
    rw [hx] at this
    exact this
  have z6 := h2.free hc (i * 11 + 6)
  have g0a : ∀ o, (W.alloc o).cell? ⟨L.G, 0, none⟩ = some (.slice (some ⟨cb, 0, none⟩) k L.cc) := fun o => cell_alloc_of o g0
  have g2 : ((W.alloc oR).setCell ⟨cb, i * 11 + 5, none⟩ (.slice none 0 0)).cell? ⟨L.G, 0, none⟩ = some (.slice (some ⟨cb, 0, none⟩) k L.cc) := by
    have := h2.cellG 0
    rw [hc] at this
    exact this
  have HR3 := Lib.hid h3
  have hcbl : cb < W.heap.size := h.rg.lt (.inr (.inr (.inl ⟨_, hc, rfl⟩)))
  have hbW : W.heap.size ≠ cb := by omega
  have hq1 : (((W.alloc oR).setCell ⟨cb, i * 11 + 5, none⟩ (.slice none 0 0)).setCell ⟨cb, i * 11 + 6, none⟩ (.slice none 0 0)).heap[W.heap.size]? = some oR := by
    rw [set_elseR _ _ hbW, set_elseR _ _ hbW]
    exact heap_alloc_new W oR
  have hq2 : (((W.alloc oR).setCell ⟨cb, i * 11 + 5, none⟩ (.slice none 0 0)).setCell ⟨cb, i * 11 + 6, none⟩ (.slice none 0 0)).cell? ⟨W.heap.size, 1, none⟩ = some (.int .i64 1) := by
    rw [← hT] at hq1 ⊢
    exact Lib.cell_of_heap hq1 1
  have hqa : ∀ o, ((((W.alloc oR).setCell ⟨cb, i * 11 + 5, none⟩ (.slice none 0 0)).setCell ⟨cb, i * 11 + 6, none⟩ (.slice none 0 0)).alloc o).cell? ⟨W.heap.size, 1, none⟩ = some (.int .i64 1) := fun o => cell_alloc_of o hq2
  have HRf : Hid (∀ b, RF L uv b → b < W.heap.size) := Lib.hid fun b hb => h.rg.lt (.inr hb)
  have HSt : Hid (∀ b, Stt L k b → b < W.heap.size) := Lib.hid fun b hb => h.rg.lt (.inl hb)
  have HFa : Hid (FI (RF L uv) (RF L uv) W (((W.alloc oR).setCell ⟨cb, i * 11 + 5, none⟩ (.slice none 0 0)).setCell ⟨cb, i * 11 + 6, none⟩ (.slice none 0 0))) := Lib.hid (fi_set (fi_set (FI.below hb1) (.inl (.inr (.inl ⟨_, hc, rfl⟩))) _) (.inl (.inr (.inl ⟨_, hc, rfl⟩))) _)
  have HSz : Hid ((((W.alloc oR).setCell ⟨cb, i * 11 + 5, none⟩ (.slice none 0 0)).setCell ⟨cb, i * 11 + 6, none⟩ (.slice none 0 0)).heap.size = W.heap.size + 1) := Lib.hid (by simp)
  have KJ : Hid (∀ w, AskPre L k t i xs us uv w → XR L k uv (xs i) 0 0 w → Calls Tryd.prog 23 #[.pointer (some ⟨L.G, 0, none⟩), .int .i64 i] w (JoinP L k t i xs us uv w)) := Lib.hid fun w h1 h2 => join_any hA hk ht h1 hi h2
  have HX0 : Hid (∀ w, XR L k uv (xs i) 0 0 w) := Lib.hid fun w => by
    rw [hx]
    exact ⟨⟨[], World.ownsRow_nil _ _ _ _⟩, ⟨[], World.ownsRow_nil _ _ _ _⟩, fun b hb => (by cases hb), fun b hb => (by cases hb)⟩
  have HRc := Lib.hid (rfx_rc0 (L := L) (uv := uv) hx)
  have hCb := Lib.hid hcbl
  clear h1 h2 h3 h hbW hq1 hq2 hcbl hb1 hk ht hi hx
  go_enter Tryd.func19, Tryd.ntmps19
  go_wp2_with fail
  clear c0 c1 c2 c3 c5 z5 c6 z6 g0 g0a g2 hqa
  generalize hWa : ((W.alloc oR).setCell ⟨cb, i * 11 + 5, none⟩ (.slice none 0 0)).setCell ⟨cb, i * 11 + 6, none⟩ (.slice none 0 0) = Wa at HR3 HFa HSz ⊢
  clear hWa
  have hBx : Below Wa.heap.size Wa (Wa.alloc (.cells #[.string ⟨#[]⟩, .int .i64 0] 40)) := (Below.refl _ _).alloc (Nat.le_refl _) _
  have hbx0 : (Wa.alloc (.cells #[.string ⟨#[]⟩, .int .i64 0] 40)).heap[W.heap.size + 1]? = some (.cells #[.string ⟨#[]⟩, .int .i64 0] 40 (0, 0)) := by rw [← HSz.out]; exact heap_alloc_new Wa _
  have HBx := Lib.hid hBx
  have HBz := Lib.hid hbx0
  have K1 := Lib.hid (KJ.out _ ⟨HR3.out.later HBx.out, HP.out.st, HP.out.un, HP.out.ul, HP.out.jk⟩ (HX0.out _))
  clear hBx hbx0
  refine K1.out.mono ?_
  rintro e w4 ⟨xs4, uv4, md, mw, rfl, hr4, hx4, hd4, hs4, hf4⟩
  have HR4 := Lib.hid hr4
  have HD4 := Lib.hid hd4
  have HS4 := Lib.hid hs4
  have hfa := (HFa.out.trans (FI.below HBx.out)).into (F'' := RFx L uv (xs i)) (fun b hb => .inl hb) (fun b hb => .inl hb)
  have HF4 : Hid (FI (RF L uv) (RF L uv4) W w4) := Lib.hid (((hfa.trans hf4).out (F'' := RF L uv4) (fun b hb => .inl hb)).frm fun b hb => (HRc.out b).1 hb)
  have hb4 := box_fi hf4 HBz.out (fun e => by have := HRf.out _ ((HRc.out _).1 e); omega)
  obtain ⟨q0, q1, z0, z1⟩ := two_boxR hb4.1
  have HB4 := Lib.hid hb4
  clear hr4 hx4 hd4 hs4 hfa hf4 hb4
  generalize hov : valN t (i + 1) = ov
  have HOv := Lib.hid hov
  have te : (ov.e != 8) = true := by rw [← hov]; exact valN_e8 t (i + 1)
  clear hov
  obtain ⟨ot, oe⟩ := ov
  go_wp2_with fail
  have hR5 : RG L k t xs4 us uv4 ((w4.setCell ⟨W.heap.size + 1, 0, none⟩ (.string ot)).setCell ⟨W.heap.size + 1, 1, none⟩ (.int .i64 oe)) :=
    (HR4.out.box (p := ⟨W.heap.size + 1, 0, none⟩) (fun e => HB4.out.2 (.inl e)) (fun e => absurd (HSt.out _ e) (Nat.not_lt.2 (Nat.le_succ _))) _).box (p := ⟨W.heap.size + 1, 1, none⟩) (fun e => HB4.out.2 (.inl e)) (fun e => absurd (HSt.out _ e) (Nat.not_lt.2 (Nat.le_succ _))) _
  have hB5 := box_set HB4.out.1 (x := .string ot) (y := .int .i64 oe)
  have hF5 : FI (RF L uv) (RF L uv4) W ((w4.setCell ⟨W.heap.size + 1, 0, none⟩ (.string ot)).setCell ⟨W.heap.size + 1, 1, none⟩ (.int .i64 oe)) := fi_set (p := ⟨W.heap.size + 1, 1, none⟩) (fi_set (p := ⟨W.heap.size + 1, 0, none⟩) HF4.out (.inr (Nat.le_succ _)) _) (.inr (Nat.le_succ _)) _
  have HR5 := Lib.hid hR5
  have HB5 := Lib.hid hB5
  have HF5 := Lib.hid hF5
  have HN5 : Hid (¬ RF L uv4 (W.heap.size + 1)) := Lib.hid fun e => HB4.out.2 (.inl e)
  clear hR5 hB5 hF5 q0 q1 z0 z1
  generalize hW5 : (w4.setCell ⟨W.heap.size + 1, 0, none⟩ (.string ot)).setCell ⟨W.heap.size + 1, 1, none⟩ (.int .i64 oe) = W5 at HR5 HB5 HF5 ⊢
  clear hW5
  have g0 := HR5.out.cellG 0
  rw [HC.out] at g0
  simp only [List.getElem?_toArray, List.getElem?_cons_zero] at g0
  have c7 := HR5.out.cell HC.out (o := 7) HI.out (by omega)
  have c8 := HR5.out.cell HC.out (o := 8) HI.out (by omega)
  simp only [rcCells, List.getElem?_cons_succ, List.getElem?_cons_zero] at c7 c8
  have zf := HR5.out.free HC.out
  obtain ⟨b0, b1, -, -⟩ := two_boxR HB5.out
  have hcB : W.heap.size + 1 ≠ cb := fun e => HN5.out (.inr (.inl ⟨_, HC.out, e.symm⟩))
  have hcF : RF L uv4 cb := .inr (.inl ⟨_, HC.out, rfl⟩)
  have HCf := Lib.hid hcF
  have h7 := HR5.out.store HC.out HI.out (o := 7) (by omega) (u := .string ot) (x := { xs4 i with last := ⟨ot, (xs4 i).last.e⟩ }) rfl
  have h8 := h7.store HC.out HI.out (o := 8) (by omega) (u := .int .i64 oe) (x := { xs4 i with last := ⟨ot, oe⟩ }) (by rw [updC_same]; rfl)
  rw [updC_twice] at h8
  have HR6 : Hid (RG L k t (updC xs4 i { xs4 i with last := ⟨ot, oe⟩ }) us uv4 (((W5.setCell ⟨cb, i * 11 + 7, none⟩ (.string ot)).setCell ⟨cb, i * 11 + 7 + 1, none⟩ (.int .i64 oe)).drew)) := Lib.hid (h8.later ((Below.refl _ _).drew))
  have HF6 : Hid (FI (RF L uv) (RF L uv4) W (((W5.setCell ⟨cb, i * 11 + 7, none⟩ (.string ot)).setCell ⟨cb, i * 11 + 7 + 1, none⟩ (.int .i64 oe)).drew)) := Lib.hid ((fi_set (fi_set HF5.out (.inl hcF) _) (.inl hcF) _).trans (FI.below (Below.refl _ _).drew))
  have hb6 : (((W5.setCell ⟨cb, i * 11 + 7, none⟩ (.string ot)).setCell ⟨cb, i * 11 + 7 + 1, none⟩ (.int .i64 oe)).drew).heap[W.heap.size + 1]? = some (.cells #[.string ot, .int .i64 oe] 40 (0, 0)) := by
    show ((W5.setCell _ _).setCell _ _).heap[W.heap.size + 1]? = _
    rw [set_elseR _ _ hcB, set_elseR _ _ hcB]
    exact HB5.out
  have HB6 := Lib.hid hb6
  clear h7 h8 hb6 hcF hcB
  go_region
  clear g0 c7 c8 zf b0 b1
  generalize hW6 : ((W5.setCell ⟨cb, i * 11 + 7, none⟩ (.string ot)).setCell ⟨cb, i * 11 + 7 + 1, none⟩ (.int .i64 oe)).drew = W6 at HR6 HF6 HB6 ⊢
  clear hW6
  have g0 := HR6.out.cellG 0
  rw [HC.out] at g0
  simp only [List.getElem?_toArray, List.getElem?_cons_zero] at g0
  have c4 := HR6.out.cell HC.out (o := 4) HI.out (by omega)
  rw [updC_same] at c4
  simp only [rcCells, List.getElem?_cons_succ, List.getElem?_cons_zero] at c4
  have zf := HR6.out.free HC.out
  obtain ⟨b0, b1, -, -⟩ := two_boxR HB6.out
  have hcB : W.heap.size + 1 ≠ cb := fun e => HN5.out (.inr (.inl ⟨_, HC.out, e.symm⟩))
  have h7 := HR6.out.store HC.out HI.out (o := 4) (by omega) (u := .bool true) (x := { xs4 i with last := ⟨ot, oe⟩, kept := true }) (by rw [updC_same]; rfl)
  rw [updC_twice] at h7
  have HR7 : Hid (RG L k t (updC xs4 i { xs4 i with last := ⟨ot, oe⟩, kept := true }) us uv4 ((W6.setCell ⟨cb, i * 11 + 4, none⟩ (.bool true)).drew)) := Lib.hid (h7.later ((Below.refl _ _).drew))
  have HF7 : Hid (FI (RF L uv) (RF L uv4) W ((W6.setCell ⟨cb, i * 11 + 4, none⟩ (.bool true)).drew)) := Lib.hid ((fi_set HF6.out (.inl HCf.out) _).trans (FI.below (Below.refl _ _).drew))
  have hb7 : ((W6.setCell ⟨cb, i * 11 + 4, none⟩ (.bool true)).drew).heap[W.heap.size + 1]? = some (.cells #[.string ot, .int .i64 oe] 40 (0, 0)) := by
    show (W6.setCell _ _).heap[W.heap.size + 1]? = _
    rw [set_elseR _ _ hcB]
    exact HB6.out
  have HB7 := Lib.hid hb7
  clear h7 hb7 hcB
  go_wp2_with fail
  go_region
  clear g0 c4 zf b0 b1
  generalize hW7 : (W6.setCell ⟨cb, i * 11 + 4, none⟩ (.bool true)).drew = W7 at HR7 HF7 HB7 ⊢
  clear hW7
  have g0 := HR7.out.cellG 0
  rw [HC.out] at g0
  simp only [List.getElem?_toArray, List.getElem?_cons_zero] at g0
  have c9 := HR7.out.cell HC.out (o := 9) HI.out (by omega)
  rw [updC_same] at c9
  simp only [rcCells, List.getElem?_cons_succ, List.getElem?_cons_zero] at c9
  have zf := HR7.out.free HC.out
  obtain ⟨b0, b1, -, -⟩ := two_boxR HB7.out
  have h8 : ∀ z : Int, RG L k t (updC xs4 i { xs4 i with last := ⟨ot, oe⟩, kept := true, ran := z }) us uv4 (W7.setCell ⟨cb, i * 11 + 9, none⟩ (.int .i64 z)) := fun z => by
    have := HR7.out.store HC.out HI.out (o := 9) (by omega) (u := .int .i64 z) (x := { xs4 i with last := ⟨ot, oe⟩, kept := true, ran := z }) (by rw [updC_same]; rfl)
    rw [updC_twice] at this
    exact this
  have HR8 := Lib.hid h8
  clear h8
  go_wp2_with fail
  go_end0
  exact ⟨_, uv4, rfl, HR8.out _, fun a ha => by rw [updC_else _ _ (by omega)]; exact HD4.out a ha, by rw [updC_same], by rw [updC_same, HOv.out], fun a ha => by rw [updC_else _ _ (by omega)]; exact HS4.out a ha, fi_set HF7.out (.inl HCf.out) _⟩
end Go.Proofs.YtjcaeoacgoklmaaDoor
