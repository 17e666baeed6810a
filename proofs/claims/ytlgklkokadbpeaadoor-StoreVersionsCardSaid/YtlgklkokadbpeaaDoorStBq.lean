import Derived.Test.YtlgklkokadbpeaaDoorStSn
namespace Go.Proofs.YtlgklkokadbpeaaDoor
open Go.RowKit Go.Maps Go.ChangeMaps Go.Sort
/-- The blocks that a call on one of the two stores leaves alone. -/
def kB (W : World) (B0 b b' : Nat) : Nat → Prop := fun k => kS W B0 b k ∧ k ≠ b'
theorem kB_cell {W w' : World} {B0 b b' g j : Nat} {v : Value} (hk : Kp (kB W B0 b b') W w') (hc : W.cell? ⟨g, j, none⟩ = some v) (h1 : g ≠ b) (h2 : g ≠ b') : w'.cell? ⟨g, j, none⟩ = some v := by
  have hl : g < W.heap.size := World.block_lt_of_cell? W ⟨g, j, none⟩ hc
  exact (hk.cell (p := ⟨g, j, none⟩) ⟨⟨hl, .inr ⟨h1, cell_no_map hc⟩⟩, h2⟩ hl).trans hc
theorem kB_S {W w' : World} {B0 b b' : Nat} (h : Kp (kS W B0 b) W w') : Kp (kB W B0 b b') W w' := h.sub (fun _ hk _ => hk.1)
theorem kB_R {W w' : World} {B0 b b' : Nat} (h : Kp (fun k => k ≠ b') W w') : Kp (kB W B0 b b') W w' := h.sub (fun _ hk _ => hk.2)
theorem Both.put2 {W0 W : World} {b b' : Nat} {L L' : List Fi} {n n' : Int} (h : Both W0 W b b' L n L' n') (hg : Good L) (s t : ByteArray) (hs : s.size ≤ 1000000000000000) (hn : 0 ≤ n) (hm : n ≤ 1000000000000000) :
    Calls Tryd.prog 24 #[.pointer (some ⟨b, 0, none⟩), .string s, .string t] W fun e w' => e = .returned (.int .i64 (putE L s t)) ∧ Both W0 w' b b' (afterL L n s t) (afterN L n s t) L' n' ∧ Kp (kB W W0.heap.size b b') W w' := by
  refine (put_any h.st.wide h.tabs s t hs (fun k hk => hk.1) hg.len hn hm).mono ?_
  rintro e w' ⟨he, hst, hk⟩
  exact ⟨he, h.prog hst hk, kB_S hk⟩
theorem Both.rput2 {W0 W : World} {b b' : Nat} {L L' : List Fi} {n n' : Int} (h : Both W0 W b b' L n L' n') (hg : Good L') (s t : ByteArray) (hs : s.size ≤ 1000000000000000) (hn : 0 ≤ n') (hm : n' ≤ 1000000000000000) :
    Calls Tryd.prog 25 #[.pointer (some ⟨b', 0, none⟩), .string s, .string t] W fun e w' => e = .returned (.int .i64 (putE L' s t)) ∧ Both W0 w' b b' L n (afterL L' n' s t) (afterN L' n' s t) ∧ Kp (kB W W0.heap.size b b') W w' := by
  obtain ⟨A, c, hr⟩ := h.rs
  refine (rput_any hr hg.rise s t hs hg.len hn hm).mono ?_
  rintro e w' ⟨he, hr', hk⟩
  exact ⟨he, h.rset hk hr', kB_R hk⟩
theorem Both.drop2 {W0 W : World} {b b' : Nat} {L L' : List Fi} {n n' : Int} (h : Both W0 W b b' L n L' n') (s : ByteArray) (hs : s.size ≤ 1000000000000000) (hn : 0 ≤ n) (hm : n ≤ 1000000000000000) :
    Calls Tryd.prog 27 #[.pointer (some ⟨b, 0, none⟩), .string s] W fun e w' => e = .returned (.int .i64 (if (find L s).isSome then 0 else 3)) ∧ Both W0 w' b b' (dropL L s) (dropN L n s) L' n' ∧ Kp (kB W W0.heap.size b b') W w' := by
  refine (drop_any h.st.wide s (Nat.le_trans hs (by unfold maxLen; decide)) hn hm).mono ?_
  rintro e w' ⟨he, hst, hk⟩
  exact ⟨he, h.prog hst hk, kB_S hk⟩
theorem Both.rdrop2 {W0 W : World} {b b' : Nat} {L L' : List Fi} {n n' : Int} (h : Both W0 W b b' L n L' n') (hg : Good L') (s : ByteArray) (hn : 0 ≤ n') (hm : n' ≤ 1000000000000000) :
    Calls Tryd.prog 41 #[.pointer (some ⟨b', 0, none⟩), .string s] W fun e w' => e = .returned (.int .i64 (if (find L' s).isSome then 0 else 3)) ∧ Both W0 w' b b' L n (dropL L' s) (dropN L' n' s) ∧ Kp (kB W W0.heap.size b b') W w' := by
  obtain ⟨A, c, hr⟩ := h.rs
  refine (rdrop_any hr hg.rise s hg.len hn hm).mono ?_
  rintro e w' ⟨he, hr', hk⟩
  exact ⟨he, h.rset hk hr', kB_R hk⟩
theorem Both.edit2 {W0 W : World} {b b' : Nat} {L L' : List Fi} {n n' : Int} (h : Both W0 W b b' L n L' n') (hg : Good L) (s : ByteArray) (hs : s.size ≤ 1000000000000000) {A : Option Addr} {m d : Nat} {xs : List EditD} (hE : EA W A m d xs) (hm : m ≤ 1000000) (hn : 0 ≤ n) (hn2 : n ≤ 1000000000000000) :
    Calls Tryd.prog 26 #[.pointer (some ⟨b, 0, none⟩), .string s, .slice A m d] W fun e w' => e = .returned (.int .i64 (editE L s xs)) ∧ Both W0 w' b b' (editL L n s xs) (editN L n s xs) L' n' ∧ Kp (kB W W0.heap.size b b') W w' := by
  unfold editE editL editN
  cases hf : find L s with
  | none =>
    refine (edit_none h.st s (Nat.le_trans hs (by unfold maxLen; decide)) _ hf).mono ?_
    rintro e w' ⟨he, hb⟩
    exact ⟨he, h.later hb, kp_of hb⟩
  | some f =>
    by_cases he : (applyE f.t xs).2 = 0
    · simp only [he, if_true]
      refine (edit_ok h.st.wide h.tabs s hs hE hm hf (hg.text hf) he (fun k hk => hk.1) hg.len hn hn2).mono ?_
      rintro e w' ⟨he, hst, hk⟩
      exact ⟨he, h.prog hst hk, kB_S hk⟩
    · simp only [he, if_false]
      refine (edit_bad h.st s (Nat.le_trans hs (by unfold maxLen; decide)) hE hm hf (hg.text hf) he).mono ?_
      rintro e w' ⟨he, hb⟩
      exact ⟨he, h.later hb, kp_of hb⟩
theorem Both.redit2 {W0 W : World} {b b' : Nat} {L L' : List Fi} {n n' : Int} (h : Both W0 W b b' L n L' n') (hg : Good L') (s : ByteArray) (hs : s.size ≤ 1000000000000000) {A : Option Addr} {m d : Nat} {xs : List EditD} (hE : EA W A m d xs) (hm : m ≤ 1000000) (hn : 0 ≤ n') (hn2 : n' ≤ 1000000000000000) :
    Calls Tryd.prog 40 #[.pointer (some ⟨b', 0, none⟩), .string s, .slice A m d] W fun e w' => e = .returned (.int .i64 (editE L' s xs)) ∧ Both W0 w' b b' L n (editL L' n' s xs) (editN L' n' s xs) ∧ Kp (kB W W0.heap.size b b') W w' := by
  obtain ⟨A0, c, hr⟩ := h.rs
  unfold editE editL editN
  rcases fp_spec L' s 0 hg.rise with ⟨f, j, h1, h2, h3⟩ | ⟨h1, j, h2, h3, _⟩
  · rw [Nat.zero_add] at h3
    rw [h1]
    by_cases he : (applyE f.t xs).2 = 0
    · simp only [he, if_true]
      refine (redit_ok hr hg.rise s hs hE hm h2 h3 (hg.text h1) hg.len he hn hn2).mono ?_
      rintro e w' ⟨he, hr', hk⟩
      exact ⟨he, h.rset hk hr', kB_R hk⟩
    · simp only [he, if_false]
      have := hg.len
      refine (redit_bad hr s hE hm h2 h3 (hg.text h1) (by omega) he).mono ?_
      rintro e w' ⟨he, hb⟩
      exact ⟨he, h.later hb, kp_of hb⟩
  · rw [Nat.zero_add] at h3
    rw [h1]
    have := hg.len
    refine (redit_none hr s _ h3 (by omega)).mono ?_
    rintro e w' ⟨he, rfl⟩
    exact ⟨he, h, Kp.refl _ _⟩
end Go.Proofs.YtlgklkokadbpeaaDoor
