import Derived.Test.YteghbblbkljdhaaDoorWo
namespace Go.Proofs.YteghbblbkljdhaaDoor
open Go.RowKit

theorem more_words (code : Int) (h : ∀ k : Nat, 20 ≤ k → k ≤ 31 → code ≠ k) (h2 : ∀ k : Nat, 1 ≤ k → k ≤ 15 → code ≠ k) : wordsL code = unkL := words_none code fun p hp e => by
  have h3 : ∀ p ∈ saysL, (1 ≤ p.1 ∧ p.1 ≤ 15) ∨ (20 ≤ p.1 ∧ p.1 ≤ 31) := by decide +kernel
  rcases h3 p hp with h4 | h4
  · exact h2 p.1.toNat (by omega) (by omega) (by omega)
  · exact h p.1.toNat (by omega) (by omega) (by omega)
set_option maxRecDepth 100000 in
set_option maxHeartbeats 1000000 in
theorem more_ref (code : Int) (w : World) (h2 : ∀ k : Nat, 1 ≤ k → k ≤ 15 → code ≠ k) :
    Calls Tryd.prog 44 #[.int .i64 code] w fun e w' => e = .returned (.string ⟨(wordsL code).toArray⟩) ∧ w = w' := by
  by_cases h : ∃ k : Nat, 20 ≤ k ∧ k ≤ 31 ∧ code = k
  · obtain ⟨k, h1, h3, rfl⟩ := h
    clear h2
    have hk : k = 20 ∨ k = 21 ∨ k = 22 ∨ k = 23 ∨ k = 24 ∨ k = 25 ∨ k = 26 ∨ k = 27 ∨ k = 28 ∨ k = 29 ∨ k = 30 ∨ k = 31 := by omega
    clear h1 h3
    rcases hk with rfl | rfl | rfl | rfl | rfl | rfl | rfl | rfl | rfl | rfl | rfl | rfl <;>
    · go_enter Tryd.func44, Tryd.ntmps44
      go_wp2
      go_ret
      exact ⟨by kernel_rfl, rfl⟩
  · have D := Lib.hid (more_words code (fun k a b e => h ⟨k, a, b, e⟩) h2)
    have n (k : Nat) (a : 20 ≤ k) (b : k ≤ 31) : ¬ code = (k : Int) := fun e => h ⟨k, a, b, e⟩
    have := n 20 (by omega) (by omega)
    have := n 21 (by omega) (by omega)
    have := n 22 (by omega) (by omega)
    have := n 23 (by omega) (by omega)
    have := n 24 (by omega) (by omega)
    have := n 25 (by omega) (by omega)
    have := n 26 (by omega) (by omega)
    have := n 27 (by omega) (by omega)
    have := n 28 (by omega) (by omega)
    have := n 29 (by omega) (by omega)
    have := n 30 (by omega) (by omega)
    have := n 31 (by omega) (by omega)
    clear n h h2
    go_enter Tryd.func44, Tryd.ntmps44
    go_wp2
    go_ret
    exact ⟨by rw [D.out]; rfl, rfl⟩
set_option maxRecDepth 100000 in
set_option maxHeartbeats 1000000 in
theorem words_ref (code : Int) (w : World) :
    Calls Tryd.prog 27 #[.int .i64 code] w fun e w' => e = .returned (.string ⟨(wordsL code).toArray⟩) ∧ w = w' := by
  by_cases h : ∃ k : Nat, 1 ≤ k ∧ k ≤ 15 ∧ code = k
  · obtain ⟨k, h1, h3, rfl⟩ := h
    have hk : k = 1 ∨ k = 2 ∨ k = 3 ∨ k = 4 ∨ k = 5 ∨ k = 6 ∨ k = 7 ∨ k = 8 ∨ k = 9 ∨ k = 10 ∨ k = 11 ∨ k = 12 ∨ k = 13 ∨ k = 14 ∨ k = 15 := by omega
    clear h1 h3
    rcases hk with rfl | rfl | rfl | rfl | rfl | rfl | rfl | rfl | rfl | rfl | rfl | rfl | rfl | rfl | rfl <;>
    · go_enter Tryd.func27, Tryd.ntmps27
      go_wp2
      go_ret
      exact ⟨by kernel_rfl, rfl⟩
  · have M := Lib.hid (more_ref code w (fun k a b e => h ⟨k, a, b, e⟩))
    have n (k : Nat) (a : 1 ≤ k) (b : k ≤ 15) : ¬ code = (k : Int) := fun e => h ⟨k, a, b, e⟩
    have := n 1 (by omega) (by omega)
    have := n 2 (by omega) (by omega)
    have := n 3 (by omega) (by omega)
    have := n 4 (by omega) (by omega)
    have := n 5 (by omega) (by omega)
    have := n 6 (by omega) (by omega)
    have := n 7 (by omega) (by omega)
    have := n 8 (by omega) (by omega)
    have := n 9 (by omega) (by omega)
    have := n 10 (by omega) (by omega)
    have := n 11 (by omega) (by omega)
    have := n 12 (by omega) (by omega)
    have := n 13 (by omega) (by omega)
    have := n 14 (by omega) (by omega)
    have := n 15 (by omega) (by omega)
    clear n h
    go_enter Tryd.func27, Tryd.ntmps27
    go_wp2_with fail
    refine M.out.mono ?_
    rintro e w1 ⟨rfl, rfl⟩
    go_wp2
    go_ret
    exact ⟨rfl, rfl⟩
end Go.Proofs.YteghbblbkljdhaaDoor
