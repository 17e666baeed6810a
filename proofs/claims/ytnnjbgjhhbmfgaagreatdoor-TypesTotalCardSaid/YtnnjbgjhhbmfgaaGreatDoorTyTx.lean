import Derived.Test.YtnnjbgjhhbmfgaaGreatDoorTyBd
import Derived.Test.YtnnjbgjhhbmfgaaGreatDoorTyZ
namespace Go.Proofs.YtnnjbgjhhbmfgaaGreatDoor
open Go.RowKit
/-- What a call that writes says: behind it the builder in block b holds s more; all blocks below it stay. -/
def WPost (C b : Nat) (bs s : List Value) (w : World) : Ending → World → Prop := fun e w' => e = .returned (.tuple #[]) ∧ Bd C b (bs ++ s) w' ∧ Kp (fun k => k < C ∧ k ≠ b) w w'
theorem Kp.step {K : Nat → Prop} {a w w' : World} (h : Kp K a w) (hb : Below w.heap.size w w') : Kp K a w' := h.trans (kp_of hb)
set_option maxRecDepth 100000 in
set_option maxHeartbeats 8000000 in
/-- say, of one word. -/
theorem say_one {C b g : Nat} {bs : List Value} {s : ByteArray} {w : World} (h : Bd C b bs w) (hc : w.cell? ⟨g, 0, none⟩ = some (.string s)) (hlen : bs.length + s.size ≤ 140737488355328) (hBw : C ≤ w.heap.size) :
    Calls Tryz.prog 36 #[.pointer (some ⟨b, 0, none⟩), .slice (some ⟨g, 0, none⟩) 1 1] w (WPost C b bs (Lib.strCells s) w) := by
  have KW := Lib.hid fun wx (hx : Below w.heap.size w wx) => write_any C b bs s wx (h.later hx) hlen (Nat.le_trans hBw hx.size)
  clear h hlen hBw
  go_enter Tryz.func36, Tryz.ntmps36
  go_wp2_with fail
  go_loopw [8] (fun v wr => (v = .int .i64 0 ∧ wr = w) ∨ (v = .int .i64 1 ∧ Bd C b (bs ++ Lib.strCells s) wr ∧ Kp (fun k => k < C ∧ k ≠ b) w wr)) (fun v _ => 1 - (intOf v).toNat)
  case atStart => exact .inl ⟨rfl, rfl⟩
  case round =>
    rcases hrel with ⟨rfl, rfl⟩ | ⟨rfl, hb, hk⟩
    · go_wp2_with fail
      refine (KW.out _ (by first | exact Below.refl _ _ | exact (Below.refl _ _).drew)).mono ?_
      rintro e w2 ⟨rfl, hb2, hk2⟩
      have HB2 := Lib.hid (And.intro hb2 hk2)
      clear hb2 hk2 KW
      go_wp2_with fail
      refine ⟨.inr ⟨by first | rfl | simp, HB2.out.1, by first | exact HB2.out.2 | exact (kp_of (Below.refl _ _).drew).trans HB2.out.2⟩, ?_⟩
      simp [intOf]
    · have HB2 := Lib.hid (And.intro hb hk)
      clear hb hk KW
      go_wp2_with fail
      refine bodyPost_ret (v := .tuple #[]) (by simp [results, Tryz.results36, go_sem]) rfl ?_
      exact ⟨rfl, HB2.out.1, HB2.out.2⟩
set_option maxRecDepth 100000 in
set_option maxHeartbeats 2000000 in
theorem word_4 (w : World) : Calls Tryz.prog 45 #[.int .i64 4] w fun e w' => e = .returned (.string ⟨#[110, 117, 108, 108]⟩) ∧ w' = w := by
  go_enter Tryz.func45, Tryz.ntmps45
  go_wp2_with fail
  go_ret
  exact ⟨rfl, rfl⟩
set_option maxRecDepth 100000 in
set_option maxHeartbeats 8000000 in
theorem typed_4 {C b g o : Nat} {bs : List Value} {w : World} (h : Bd C b bs w) (hc : w.cell? ⟨g, o, none⟩ = some (.int .i64 4)) (hlen : bs.length + 10 ≤ 140737488355328) (hBw : C ≤ w.heap.size) :
    Calls Tryz.prog 19 #[.pointer (some ⟨b, 0, none⟩), .pointer (some ⟨g, o, none⟩)] w (WPost C b bs (Lib.strCells ⟨#[110, 117, 108, 108]⟩) w) := by
  have hb1 : Below w.heap.size w (w.alloc (.cells #[.string ⟨#[110, 117, 108, 108]⟩] 9)) := (Below.refl _ _).alloc (Nat.le_refl _) _
  have KS := Lib.hid (say_one (s := ⟨#[110, 117, 108, 108]⟩) (g := w.heap.size) (h.later hb1) (by rw [cell_of_row _ _ _ _ _ _ (heap_alloc_new w _)]; rfl) (by show bs.length + 4 ≤ _; omega) (Nat.le_trans hBw hb1.size))
  have KWd := Lib.hid (word_4 w)
  have HB1 := Lib.hid hb1
  clear h hlen hBw hb1
  go_enter Tryz.func19, Tryz.ntmps19
  go_wp2_with fail
  refine KWd.out.mono ?_
  rintro e w1 ⟨rfl, rfl⟩
  go_wp2_with fail
  refine KS.out.mono ?_
  rintro e w2 ⟨rfl, hb2, hk2⟩
  have HB2 := Lib.hid (And.intro hb2 ((kp_of HB1.out).trans hk2))
  clear hb2 hk2
  go_wp2_with fail
  refine bodyPost_end (v := .tuple #[]) (by simp [results, Tryz.results19, go_sem]) rfl ?_
  exact ⟨rfl, HB2.out.1, HB2.out.2⟩
set_option maxRecDepth 100000 in
set_option maxHeartbeats 8000000 in
theorem part_4 {C b g o : Nat} {bs : List Value} {w : World} (h : Bd C b bs w) (hc : w.cell? ⟨g, o, none⟩ = some (.int .i64 4)) (hlen : bs.length + 10 ≤ 140737488355328) (hBw : C ≤ w.heap.size) :
    Calls Tryz.prog 39 #[.pointer (some ⟨b, 0, none⟩), .pointer (some ⟨g, o, none⟩)] w (WPost C b bs (Lib.strCells ⟨#[110, 117, 108, 108]⟩) w) := by
  have KT := Lib.hid (typed_4 h hc hlen hBw)
  clear h hlen hBw
  go_enter Tryz.func39, Tryz.ntmps39
  go_wp2_with fail
  refine KT.out.mono ?_
  rintro e w2 ⟨rfl, hb2, hk2⟩
  have HB2 := Lib.hid (And.intro hb2 hk2)
  clear hb2 hk2
  go_wp2_with fail
  refine bodyPost_end (v := .tuple #[]) (by simp [results, Tryz.results39, go_sem]) rfl ?_
  exact ⟨rfl, HB2.out.1, HB2.out.2⟩
set_option maxRecDepth 100000 in
set_option maxHeartbeats 2000000 in
theorem word_7 (w : World) : Calls Tryz.prog 45 #[.int .i64 7] w fun e w' => e = .returned (.string ⟨#[110, 117, 109, 98, 101, 114]⟩) ∧ w' = w := by
  go_enter Tryz.func45, Tryz.ntmps45
  go_wp2_with fail
  go_ret
  exact ⟨rfl, rfl⟩
set_option maxRecDepth 100000 in
set_option maxHeartbeats 8000000 in
theorem typed_7 {C b g o : Nat} {bs : List Value} {w : World} (h : Bd C b bs w) (hc : w.cell? ⟨g, o, none⟩ = some (.int .i64 7)) (hlen : bs.length + 10 ≤ 140737488355328) (hBw : C ≤ w.heap.size) :
    Calls Tryz.prog 19 #[.pointer (some ⟨b, 0, none⟩), .pointer (some ⟨g, o, none⟩)] w (WPost C b bs (Lib.strCells ⟨#[110, 117, 109, 98, 101, 114]⟩) w) := by
  have hb1 : Below w.heap.size w (w.alloc (.cells #[.string ⟨#[110, 117, 109, 98, 101, 114]⟩] 9)) := (Below.refl _ _).alloc (Nat.le_refl _) _
  have KS := Lib.hid (say_one (s := ⟨#[110, 117, 109, 98, 101, 114]⟩) (g := w.heap.size) (h.later hb1) (by rw [cell_of_row _ _ _ _ _ _ (heap_alloc_new w _)]; rfl) (by show bs.length + 6 ≤ _; omega) (Nat.le_trans hBw hb1.size))
  have KWd := Lib.hid (word_7 w)
  have HB1 := Lib.hid hb1
  clear h hlen hBw hb1
  go_enter Tryz.func19, Tryz.ntmps19
  go_wp2_with fail
  refine KWd.out.mono ?_
  rintro e w1 ⟨rfl, rfl⟩
  go_wp2_with fail
  refine KS.out.mono ?_
  rintro e w2 ⟨rfl, hb2, hk2⟩
  have HB2 := Lib.hid (And.intro hb2 ((kp_of HB1.out).trans hk2))
  clear hb2 hk2
  go_wp2_with fail
  refine bodyPost_end (v := .tuple #[]) (by simp [results, Tryz.results19, go_sem]) rfl ?_
  exact ⟨rfl, HB2.out.1, HB2.out.2⟩
set_option maxRecDepth 100000 in
set_option maxHeartbeats 8000000 in
theorem part_7 {C b g o : Nat} {bs : List Value} {w : World} (h : Bd C b bs w) (hc : w.cell? ⟨g, o, none⟩ = some (.int .i64 7)) (hlen : bs.length + 10 ≤ 140737488355328) (hBw : C ≤ w.heap.size) :
    Calls Tryz.prog 39 #[.pointer (some ⟨b, 0, none⟩), .pointer (some ⟨g, o, none⟩)] w (WPost C b bs (Lib.strCells ⟨#[110, 117, 109, 98, 101, 114]⟩) w) := by
  have KT := Lib.hid (typed_7 h hc hlen hBw)
  clear h hlen hBw
  go_enter Tryz.func39, Tryz.ntmps39
  go_wp2_with fail
  refine KT.out.mono ?_
  rintro e w2 ⟨rfl, hb2, hk2⟩
  have HB2 := Lib.hid (And.intro hb2 hk2)
  clear hb2 hk2
  go_wp2_with fail
  refine bodyPost_end (v := .tuple #[]) (by simp [results, Tryz.results39, go_sem]) rfl ?_
  exact ⟨rfl, HB2.out.1, HB2.out.2⟩
set_option maxRecDepth 100000 in
set_option maxHeartbeats 16000000 in
/-- list, of null and number, by part. -/
theorem list_nn {C b g o c : Nat} {w : World} (h : Bd C b [] w) (hg : g < C ∧ g ≠ b) (h0 : w.cell? ⟨g, o, none⟩ = some (.int .i64 4)) (h1 : w.cell? ⟨g, o + 6, none⟩ = some (.int .i64 7)) (hBw : C ≤ w.heap.size) :
    Calls Tryz.prog 40 #[.pointer (some ⟨b, 0, none⟩), .slice (some ⟨g, o, none⟩) 2 c, .string ⟨#[32, 124, 32]⟩, .func (.func 39) #[.pointer (some ⟨b, 0, none⟩)] #[]] w (WPost C b [] (Lib.strCells ⟨#[110, 117, 108, 108]⟩ ++ (Lib.strCells ⟨#[32, 124, 32]⟩ ++ Lib.strCells ⟨#[110, 117, 109, 98, 101, 114]⟩)) w) := by
  have K0 := Lib.hid fun wx (hx : Below w.heap.size w wx) => part_4 (h.later hx) (cell_stays hx h0) (by decide) (Nat.le_trans hBw hx.size)
  have KS : Hid (∀ wx, Bd C b ([] ++ Lib.strCells ⟨#[110, 117, 108, 108]⟩) wx → Kp (fun k => k < C ∧ k ≠ b) w wx → Calls Tryz.prog 36 #[.pointer (some ⟨b, 0, none⟩), .slice (some ⟨wx.heap.size, 0, none⟩) 1 1] (wx.alloc (.cells #[.string ⟨#[32, 124, 32]⟩] 9)) (WPost C b ([] ++ Lib.strCells ⟨#[110, 117, 108, 108]⟩) (Lib.strCells ⟨#[32, 124, 32]⟩) (wx.alloc (.cells #[.string ⟨#[32, 124, 32]⟩] 9)))) := Lib.hid fun wx hd hk => say_one (hd.later ((Below.refl _ _).alloc (Nat.le_refl _) _)) (by rw [cell_of_row _ _ _ _ _ _ (heap_alloc_new wx _)]; rfl) (by decide) (Nat.le_trans hBw (Nat.le_trans hk.size (by simp)))
  have K1 : Hid (∀ wx, Bd C b (([] ++ Lib.strCells ⟨#[110, 117, 108, 108]⟩) ++ Lib.strCells ⟨#[32, 124, 32]⟩) wx → Kp (fun k => k < C ∧ k ≠ b) w wx → Calls Tryz.prog 39 #[.pointer (some ⟨b, 0, none⟩), .pointer (some ⟨g, o + 6, none⟩)] wx (WPost C b (([] ++ Lib.strCells ⟨#[110, 117, 108, 108]⟩) ++ Lib.strCells ⟨#[32, 124, 32]⟩) (Lib.strCells ⟨#[110, 117, 109, 98, 101, 114]⟩) wx)) := Lib.hid fun wx hd hk => part_7 hd (by rw [hk.cell hg (World.block_lt_of_cell? _ _ h1)]; exact h1) (by decide) (Nat.le_trans hBw hk.size)
  generalize hS : Lib.strCells ⟨#[110, 117, 108, 108]⟩ = S0 at K0 KS K1 ⊢
  generalize hS1 : Lib.strCells ⟨#[32, 124, 32]⟩ = S1 at KS K1 ⊢
  generalize hS2 : Lib.strCells ⟨#[110, 117, 109, 98, 101, 114]⟩ = S2 at K1 ⊢
  clear h hg h0 h1 hBw hS hS1 hS2
  go_enter Tryz.func40, Tryz.ntmps40
  go_wp2_with fail
  go_loopw [11] (fun v wr => (v = .int .i64 0 ∧ wr = w) ∨ (v = .int .i64 1 ∧ Bd C b ([] ++ S0) wr ∧ Kp (fun k => k < C ∧ k ≠ b) w wr) ∨ (v = .int .i64 2 ∧ Bd C b ((([] ++ S0) ++ S1) ++ S2) wr ∧ Kp (fun k => k < C ∧ k ≠ b) w wr)) (fun v _ => 2 - (intOf v).toNat)
  case atStart => exact .inl ⟨rfl, rfl⟩
  case round =>
    rcases hrel with ⟨rfl, rfl⟩ | ⟨rfl, hb, hk⟩ | ⟨rfl, hb, hk⟩
    · clear KS K1
      go_wp2_with fail
      refine (K0.out _ (by first | exact Below.refl _ _ | exact (Below.refl _ _).drew)).mono ?_
      rintro e w2 ⟨rfl, hb2, hk2⟩
      have HB2 := Lib.hid (And.intro hb2 hk2)
      clear hb2 hk2 K0
      go_wp2_with fail
      refine ⟨.inr (.inl ⟨by first | rfl | simp, HB2.out.1, HB2.out.2⟩), ?_⟩
      simp [intOf]
    · have HB1 := Lib.hid (And.intro hb hk)
      have KS1 := Lib.hid (KS.out _ hb hk)
      clear hb hk K0 KS
      go_wp2_with fail
      refine KS1.out.mono ?_
      rintro e w2 ⟨rfl, hb2, hk2⟩
      have hk3 := (HB1.out.2.step ((Below.refl _ _).alloc (Nat.le_refl _) _)).trans hk2
      have KP := Lib.hid (K1.out _ hb2 hk3)
      have HK3 := Lib.hid hk3
      clear hb2 hk2 hk3 K1
      go_wp2_with fail
      refine KP.out.mono ?_
      rintro e w3 ⟨rfl, hb3, hk3⟩
      have HB3 := Lib.hid (And.intro hb3 (HK3.out.trans hk3))
      clear hb3 hk3
      go_wp2_with fail
      refine ⟨.inr (.inr ⟨by first | rfl | simp, HB3.out.1, HB3.out.2⟩), ?_⟩
      simp [intOf]
    · have HB2 := Lib.hid (And.intro hb hk)
      clear hb hk K0 KS K1
      go_wp2_with fail
      refine bodyPost_ret (v := .tuple #[]) (by simp [results, Tryz.results40, go_sem]) rfl ?_
      exact ⟨rfl, by have h := HB2.out.1; simpa only [List.nil_append, List.append_assoc] using h, HB2.out.2⟩
set_option maxRecDepth 100000 in
set_option maxHeartbeats 16000000 in
/-- typed, of the union of null and number. -/
theorem typed_nn {C b g o c gp op : Nat} {w : World} (h : Bd C b [] w) (hg : gp < C ∧ gp ≠ b) (hk : w.cell? ⟨g, o, none⟩ = some (.int .i64 15)) (h3 : w.cell? ⟨g, o + 3, none⟩ = some (.slice (some ⟨gp, op, none⟩) 2 c)) (h0 : w.cell? ⟨gp, op, none⟩ = some (.int .i64 4)) (h1 : w.cell? ⟨gp, op + 6, none⟩ = some (.int .i64 7)) (hBw : C ≤ w.heap.size) :
    Calls Tryz.prog 19 #[.pointer (some ⟨b, 0, none⟩), .pointer (some ⟨g, o, none⟩)] w (WPost C b [] (Lib.strCells ⟨#[110, 117, 108, 108]⟩ ++ (Lib.strCells ⟨#[32, 124, 32]⟩ ++ Lib.strCells ⟨#[110, 117, 109, 98, 101, 114]⟩)) w) := by
  have KL := Lib.hid (list_nn (c := c) h hg h0 h1 hBw)
  generalize (Lib.strCells ⟨#[110, 117, 108, 108]⟩ ++ (Lib.strCells ⟨#[32, 124, 32]⟩ ++ Lib.strCells ⟨#[110, 117, 109, 98, 101, 114]⟩)) = S0 at KL ⊢
  clear h hg h0 h1 hBw
  go_enter Tryz.func19, Tryz.ntmps19
  go_wp2_with fail
  refine KL.out.mono ?_
  rintro e w2 ⟨rfl, hb2, hk2⟩
  have HB2 := Lib.hid (And.intro hb2 hk2)
  clear hb2 hk2
  go_wp2_with fail
  refine bodyPost_end (v := .tuple #[]) (by simp [results, Tryz.results19, go_sem]) rfl ?_
  exact ⟨rfl, HB2.out.1, HB2.out.2⟩
end Go.Proofs.YtnnjbgjhhbmfgaaGreatDoor
