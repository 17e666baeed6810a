import Derived.Test.YtlgklkokadbpeaaDoorStEd
namespace Go.Proofs.YtlgklkokadbpeaaDoor
open Go.RowKit Go.Maps Go.ChangeMaps Go.Sort
theorem Good.edit {L : List Fi} (h : Good L) (n : Int) (s : ByteArray) (xs : List EditD) : Good (editL L n s xs) := by
  unfold editL
  split
  · exact h
  · split
    · exact h.put n s _
    · exact h
theorem Good.drop {L : List Fi} (h : Good L) (s : ByteArray) : Good (dropL L s) := by
  unfold dropL
  split
  · exact h.without s
  · exact h
theorem after_nonneg {L : List Fi} {n : Int} (h : 0 ≤ n) (s t : ByteArray) : 0 ≤ afterN L n s t ∧ afterN L n s t ≤ n + 1 := by
  unfold afterN
  split <;> omega
theorem edit_nonneg {L : List Fi} {n : Int} (h : 0 ≤ n) (s : ByteArray) (xs : List EditD) : 0 ≤ editN L n s xs ∧ editN L n s xs ≤ n + 1 := by
  unfold editN
  split
  · omega
  · split
    · exact after_nonneg h s _
    · omega
theorem drop_nonneg {L : List Fi} {n : Int} (h : 0 ≤ n) (s : ByteArray) : 0 ≤ dropN L n s ∧ dropN L n s ≤ n + 1 := by
  unfold dropN
  split <;> omega
theorem find_mem {L : List Fi} {s : ByteArray} {f : Fi} (h : find L s = some f) : f ∈ L := List.mem_of_find?_eq_some h
theorem Good.text {L : List Fi} (h : Good L) {s : ByteArray} {f : Fi} (hf : find L s = some f) : f.t.size ≤ 1000000 := by
  have := (h.ok f (find_mem hf)).2
  omega
theorem Good.name {L : List Fi} (h : Good L) : ∀ f ∈ L, f.n.size ≤ maxLen := fun f hf => Nat.le_trans (h.ok f hf).1 (by unfold maxLen; decide)
theorem Both.prog {W0 W w' : World} {b b' : Nat} {L L2 L' : List Fi} {n n2 n' : Int} (h : Both W0 W b b' L n L' n') (hst : St w' (kS W W0.heap.size b) b L2 n2) (hk : Kp (kS W W0.heap.size b) W w') : Both W0 w' b b' L2 n2 L' n' := by
  obtain ⟨A, c, hr⟩ := h.rs
  have hge := h.ge
  have hlo := h.lo
  have hsz := h.kp.size
  exact ⟨hst.narrow h.kp.size, ⟨A, c, hr.kp hk h.lt⟩, h.lt, tabs_kp h.tabs hk ⟨by omega, .inl (by omega)⟩ ⟨by omega, .inl (by omega)⟩, h.lo, h.kp.trans (hk.sub (fun k hk hl => ⟨hl, .inl hk⟩))⟩
theorem Both.rput {W0 W : World} {b b' : Nat} {L L' : List Fi} {n n' : Int} (h : Both W0 W b b' L n L' n') (hg : Good L') (s t : ByteArray) (hs : s.size ≤ 1000000000000000) (hn : 0 ≤ n') (hm : n' ≤ 1000000000000000) :
    Calls Tryd.prog 25 #[.pointer (some ⟨b', 0, none⟩), .string s, .string t] W fun e w' => e = .returned (.int .i64 (putE L' s t)) ∧ Both W0 w' b b' L n (afterL L' n' s t) (afterN L' n' s t) := by
  obtain ⟨A, c, hr⟩ := h.rs
  refine (rput_any hr hg.rise s t hs hg.len hn hm).mono ?_
  rintro e w' ⟨he, hr', hk⟩
  exact ⟨he, h.rset hk hr'⟩
theorem Both.drop {W0 W : World} {b b' : Nat} {L L' : List Fi} {n n' : Int} (h : Both W0 W b b' L n L' n') (s : ByteArray) (hs : s.size ≤ 1000000000000000) (hn : 0 ≤ n) (hm : n ≤ 1000000000000000) :
    Calls Tryd.prog 27 #[.pointer (some ⟨b, 0, none⟩), .string s] W fun e w' => e = .returned (.int .i64 (if (find L s).isSome then 0 else 3)) ∧ Both W0 w' b b' (dropL L s) (dropN L n s) L' n' := by
  refine (drop_any h.st.wide s (Nat.le_trans hs (by unfold maxLen; decide)) hn hm).mono ?_
  rintro e w' ⟨he, hst, hk⟩
  exact ⟨he, h.prog hst hk⟩
theorem Both.rdrop {W0 W : World} {b b' : Nat} {L L' : List Fi} {n n' : Int} (h : Both W0 W b b' L n L' n') (hg : Good L') (s : ByteArray) (hn : 0 ≤ n') (hm : n' ≤ 1000000000000000) :
    Calls Tryd.prog 41 #[.pointer (some ⟨b', 0, none⟩), .string s] W fun e w' => e = .returned (.int .i64 (if (find L' s).isSome then 0 else 3)) ∧ Both W0 w' b b' L n (dropL L' s) (dropN L' n' s) := by
  obtain ⟨A, c, hr⟩ := h.rs
  refine (rdrop_any hr hg.rise s hg.len hn hm).mono ?_
  rintro e w' ⟨he, hr', hk⟩
  exact ⟨he, h.rset hk hr'⟩
theorem Both.edit {W0 W : World} {b b' : Nat} {L L' : List Fi} {n n' : Int} (h : Both W0 W b b' L n L' n') (hg : Good L) (s : ByteArray) (hs : s.size ≤ 1000000000000000) {A : Option Addr} {m d : Nat} {xs : List EditD} (hE : EA W A m d xs) (hm : m ≤ 1000000) (hn : 0 ≤ n) (hn2 : n ≤ 1000000000000000) :
    Calls Tryd.prog 26 #[.pointer (some ⟨b, 0, none⟩), .string s, .slice A m d] W fun e w' => e = .returned (.int .i64 (editE L s xs)) ∧ Both W0 w' b b' (editL L n s xs) (editN L n s xs) L' n' := by
  unfold editE editL editN
  cases hf : find L s with
  | none =>
    refine (edit_none h.st s (Nat.le_trans hs (by unfold maxLen; decide)) _ hf).mono ?_
    rintro e w' ⟨he, hb⟩
    exact ⟨he, h.later hb⟩
  | some f =>
    by_cases he : (applyE f.t xs).2 = 0
    · simp only [he, if_true]
      refine (edit_ok h.st.wide h.tabs s hs hE hm hf (hg.text hf) he (fun k hk => hk.1) hg.len hn hn2).mono ?_
      rintro e w' ⟨he, hst, hk⟩
      exact ⟨he, h.prog hst hk⟩
    · simp only [he, if_false]
      refine (edit_bad h.st s (Nat.le_trans hs (by unfold maxLen; decide)) hE hm hf (hg.text hf) he).mono ?_
      rintro e w' ⟨he, hb⟩
      exact ⟨he, h.later hb⟩
theorem Both.redit {W0 W : World} {b b' : Nat} {L L' : List Fi} {n n' : Int} (h : Both W0 W b b' L n L' n') (hg : Good L') (s : ByteArray) (hs : s.size ≤ 1000000000000000) {A : Option Addr} {m d : Nat} {xs : List EditD} (hE : EA W A m d xs) (hm : m ≤ 1000000) (hn : 0 ≤ n') (hn2 : n' ≤ 1000000000000000) :
    Calls Tryd.prog 40 #[.pointer (some ⟨b', 0, none⟩), .string s, .slice A m d] W fun e w' => e = .returned (.int .i64 (editE L' s xs)) ∧ Both W0 w' b b' L n (editL L' n' s xs) (editN L' n' s xs) := by
  obtain ⟨A0, c, hr⟩ := h.rs
  unfold editE editL editN
  rcases fp_spec L' s 0 hg.rise with ⟨f, j, h1, h2, h3⟩ | ⟨h1, j, h2, h3, _⟩
  · rw [Nat.zero_add] at h3
    rw [h1]
    by_cases he : (applyE f.t xs).2 = 0
    · simp only [he, if_true]
      refine (redit_ok hr hg.rise s hs hE hm h2 h3 (hg.text h1) hg.len he hn hn2).mono ?_
      rintro e w' ⟨he, hr', hk⟩
      exact ⟨he, h.rset hk hr'⟩
    · simp only [he, if_false]
      have := hg.len
      refine (redit_bad hr s hE hm h2 h3 (hg.text h1) (by omega) he).mono ?_
      rintro e w' ⟨he, hb⟩
      exact ⟨he, h.later hb⟩
  · rw [Nat.zero_add] at h3
    rw [h1]
    have := hg.len
    refine (redit_none hr s _ h3 (by omega)).mono ?_
    rintro e w' ⟨he, rfl⟩
    exact ⟨he, h⟩
/-- All of the program's store, and that it says what the reference's list says. -/
theorem Both.all {W0 W : World} {b b' : Nat} {L L' : List Fi} {n n' : Int} (h : Both W0 W b b' L n L' n') (hg : Good L) :
    Calls Tryd.prog 21 #[.pointer (some ⟨b, 0, none⟩)] W fun e w' => ∃ A c, e = .returned (.slice A L.length c) ∧ w'.ownsRow W.heap.size 45 3 (.slice A L.length c) L.length (flat3 L) ∧ Go.RowKit.Below W.heap.size W w' := by
  have := hg.len
  exact all_any h.st hg.rise (by omega) hg.name
end Go.Proofs.YtlgklkokadbpeaaDoor
