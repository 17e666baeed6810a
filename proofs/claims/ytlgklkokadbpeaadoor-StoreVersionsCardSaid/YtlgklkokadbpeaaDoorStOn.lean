import Derived.Test.YtlgklkokadbpeaaDoorStPl
namespace Go.Proofs.YtlgklkokadbpeaaDoor
open Go.RowKit Go.Maps Go.ChangeMaps Go.Sort
/-- The program's store alone, at b. -/
structure One (W0 W : World) (b : Nat) (L : List Fi) (n : Int) : Prop where
  st : St W (fun k => k < W0.heap.size) b L n
  tabs : Lib.Utf8Tabs 0 1 W
  lo : 1 < W0.heap.size
  kp : Kp (fun k => k < W0.heap.size) W0 W
theorem One.below {W0 W : World} {b : Nat} {L : List Fi} {n : Int} (h : One W0 W b L n) : Go.RowKit.Below W0.heap.size W0 W := h.kp.below (Nat.le_refl _)
theorem One.later {W0 W w' : World} {b : Nat} {L : List Fi} {n : Int} (h : One W0 W b L n) (hb : Go.RowKit.Below W.heap.size W w') : One W0 w' b L n :=
  ⟨h.st.later hb, tabs_below h.tabs hb, h.lo, h.kp.trans (kp_of hb)⟩
theorem One.start {W0 w : World} (hT : Lib.Utf8Tabs 0 1 W0) (hb : Go.RowKit.Below W0.heap.size W0 w) : One W0 (w.alloc zeroS) w.heap.size [] 0 := by
  have hb2 : Go.RowKit.Below W0.heap.size W0 (w.alloc zeroS) := hb.alloc hb.size _
  have hc := cells_new w 52
  exact ⟨⟨hc.1, .inl ⟨hc.2.1, rfl⟩, hc.2.2, by have := hb.size; omega⟩, tabs_below hT hb2, tabs_size hT, kp_of hb2⟩
theorem kS_cell {W w' : World} {B0 b g j : Nat} {v : Value} (hk : Kp (kS W B0 b) W w') (hc : W.cell? ⟨g, j, none⟩ = some v) (h1 : g ≠ b) : w'.cell? ⟨g, j, none⟩ = some v := by
  have hl : g < W.heap.size := World.block_lt_of_cell? W ⟨g, j, none⟩ hc
  exact (hk.cell (p := ⟨g, j, none⟩) ⟨hl, .inr ⟨h1, cell_no_map hc⟩⟩ hl).trans hc
theorem One.prog {W0 W w' : World} {b : Nat} {L L2 : List Fi} {n n2 : Int} (h : One W0 W b L n) (hst : St w' (kS W W0.heap.size b) b L2 n2) (hk : Kp (kS W W0.heap.size b) W w') : One W0 w' b L2 n2 := by
  have hlo := h.lo
  have hsz := h.kp.size
  exact ⟨hst.narrow h.kp.size, tabs_kp h.tabs hk ⟨by omega, .inl (by omega)⟩ ⟨by omega, .inl (by omega)⟩, h.lo, h.kp.trans (hk.sub (fun k hk hl => ⟨hl, .inl hk⟩))⟩
theorem One.put {W0 W : World} {b : Nat} {L : List Fi} {n : Int} (h : One W0 W b L n) (hg : Good L) (s t : ByteArray) (hs : s.size ≤ 1000000000000000) (hn : 0 ≤ n) (hm : n ≤ 1000000000000000) :
    Calls Tryd.prog 24 #[.pointer (some ⟨b, 0, none⟩), .string s, .string t] W fun e w' => e = .returned (.int .i64 (putE L s t)) ∧ One W0 w' b (afterL L n s t) (afterN L n s t) ∧ Kp (kS W W0.heap.size b) W w' := by
  refine (put_any h.st.wide h.tabs s t hs (fun k hk => hk.1) hg.len hn hm).mono ?_
  rintro e w' ⟨he, hst, hk⟩
  exact ⟨he, h.prog hst hk, hk⟩
theorem One.drop {W0 W : World} {b : Nat} {L : List Fi} {n : Int} (h : One W0 W b L n) (s : ByteArray) (hs : s.size ≤ 1000000000000000) (hn : 0 ≤ n) (hm : n ≤ 1000000000000000) :
    Calls Tryd.prog 27 #[.pointer (some ⟨b, 0, none⟩), .string s] W fun e w' => e = .returned (.int .i64 (dropE L s)) ∧ One W0 w' b (dropL L s) (dropN L n s) ∧ Kp (kS W W0.heap.size b) W w' := by
  refine (drop_any h.st.wide s (Nat.le_trans hs (by unfold maxLen; decide)) hn hm).mono ?_
  rintro e w' ⟨he, hst, hk⟩
  exact ⟨he, h.prog hst hk, hk⟩
theorem One.edit {W0 W : World} {b : Nat} {L : List Fi} {n : Int} (h : One W0 W b L n) (hg : Good L) (s : ByteArray) (hs : s.size ≤ 1000000000000000) {A : Option Addr} {m d : Nat} {xs : List EditD} (hE : EA W A m d xs) (hm : m ≤ 1000000) (hn : 0 ≤ n) (hn2 : n ≤ 1000000000000000) :
    Calls Tryd.prog 26 #[.pointer (some ⟨b, 0, none⟩), .string s, .slice A m d] W fun e w' => e = .returned (.int .i64 (editE L s xs)) ∧ One W0 w' b (editL L n s xs) (editN L n s xs) ∧ Kp (kS W W0.heap.size b) W w' := by
  unfold editE editL editN
  cases hf : find L s with
  | none =>
    refine (edit_none h.st s (Nat.le_trans hs (by unfold maxLen; decide)) _ hf).mono ?_
    rintro e w' ⟨he, hb⟩
    exact ⟨he, h.later hb, kp_of hb⟩
  | some f =>
    by_cases he : (applyE f.t xs).2 = 0
    · simp only [he, if_true]
      refine (edit_ok h.st.wide h.tabs s hs hE hm hf (hg.text hf) he (fun k hk => hk.1) hg.len hn hn2).mono ?_
      rintro e w' ⟨he, hst, hk⟩
      exact ⟨he, h.prog hst hk, hk⟩
    · simp only [he, if_false]
      refine (edit_bad h.st s (Nat.le_trans hs (by unfold maxLen; decide)) hE hm hf (hg.text hf) he).mono ?_
      rintro e w' ⟨he, hb⟩
      exact ⟨he, h.later hb, kp_of hb⟩
theorem One.all {W0 W : World} {b : Nat} {L : List Fi} {n : Int} (h : One W0 W b L n) (hg : Good L) :
    Calls Tryd.prog 21 #[.pointer (some ⟨b, 0, none⟩)] W fun e w' => ∃ A c, e = .returned (.slice A L.length c) ∧ w'.ownsRow W.heap.size 45 3 (.slice A L.length c) L.length (flat3 L) ∧ Go.RowKit.Below W.heap.size W w' := by
  have := hg.len
  exact all_any h.st hg.rise (by omega) hg.name
theorem EA_one (w : World) (f t : Int) (s : ByteArray) (hs : s.size ≤ 1000000000000000) (T : TypeId) : EA (w.alloc (.cells #[.int .i64 f, .int .i64 t, .string s] T)) (some ⟨w.heap.size, 0, none⟩) 1 1 [⟨f, t, s⟩] := by
  obtain ⟨h0, h1, h2⟩ := three_new w (.int .i64 f) (.int .i64 t) (.string s) T
  refine ⟨rfl, fun x hx => ?_, .inr ⟨w.heap.size, 0, rfl, Nat.le_refl _, by simp, fun i hi => ?_⟩⟩
  · obtain rfl : x = ⟨f, t, s⟩ := by simpa using hx
    exact hs
  · have hi' : i < 1 := hi
    obtain rfl : i = 0 := by omega
    exact ⟨h0, h1, h2⟩
end Go.Proofs.YtlgklkokadbpeaaDoor
