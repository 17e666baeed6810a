import Derived.Test.YteghbblbkljdhaaDoorWh
namespace Go.Proofs.YteghbblbkljdhaaDoor
open Go.RowKit

/-- What the codes say. -/
def saysL : List (Int × List UInt8) := [(1, [115, 121, 110, 116, 97, 120]), (2, [116, 111, 111, 32, 109, 97, 110, 121, 32, 111, 112, 101, 110, 32, 98, 114, 97, 99, 107, 101, 116, 115]), (3, [100, 101, 99, 108, 97, 114, 101, 100, 32, 116, 119, 105, 99, 101]), (4, [111, 118, 101, 114, 108, 111, 97, 100, 32, 119, 105, 116, 104, 111, 117, 116, 32, 97, 32, 102, 117, 110, 99, 116, 105, 111, 110]), (5, [110, 111, 32, 115, 117, 99, 104, 32, 102, 105, 108, 101]), (6, [110, 111, 116, 32, 101, 120, 112, 111, 114, 116, 101, 100]), (7, [119, 114, 111, 110, 103, 32, 110, 117, 109, 98, 101, 114, 32, 111, 102, 32, 97, 114, 103, 117, 109, 101, 110, 116, 115]), (8, [110, 111, 32, 115, 117, 99, 104, 32, 116, 121, 112, 101]), (9, [115, 101, 99, 111, 110, 100, 32, 111, 102, 32, 105, 116, 115, 32, 110, 97, 109, 101]), (10, [99, 97, 110, 110, 111, 116, 32, 98, 101, 32, 112, 117, 116, 32, 116, 111, 103, 101, 116, 104, 101, 114]), (11, [105, 110, 102, 101, 114, 32, 111, 117, 116, 32, 111, 102, 32, 112, 108, 97, 99, 101]), (12, [116, 111, 111, 32, 108, 97, 114, 103, 101]), (13, [117, 110, 108, 105, 107, 101, 32, 116, 121, 112, 101, 32, 118, 97, 114, 105, 97, 98, 108, 101, 115]), (14, [99, 97, 110, 110, 111, 116, 32, 98, 101, 32, 101, 120, 116, 101, 110, 100, 101, 100]), (15, [101, 120, 116, 101, 110, 100, 115, 32, 105, 116, 115, 101, 108, 102]), (20, [110, 111, 32, 115, 117, 99, 104, 32, 118, 97, 108, 117, 101]), (21, [99, 97, 110, 110, 111, 116, 32, 98, 101, 32, 99, 97, 108, 108, 101, 100, 32, 115, 111]), (22, [110, 111, 32, 115, 117, 99, 104, 32, 109, 101, 109, 98, 101, 114]), (23, [119, 114, 111, 110, 103, 32, 111, 112, 101, 114, 97, 110, 100]), (24, [100, 111, 101, 115, 32, 110, 111, 116, 32, 102, 105, 116]), (25, [99, 97, 110, 110, 111, 116, 32, 98, 101, 32, 119, 114, 105, 116, 116, 101, 110]), (26, [110, 111, 32, 116, 104, 105, 115, 32, 104, 101, 114, 101]), (27, [108, 105, 109, 105, 116, 32, 114, 101, 97, 99, 104, 101, 100]), (28, [109, 105, 115, 115, 105, 110, 103, 32, 114, 101, 116, 117, 114, 110]), (29, [110, 111, 32, 115, 117, 99, 104, 32, 99, 108, 97, 115, 115]), (30, [115, 101, 99, 111, 110, 100, 32, 111, 102, 32, 105, 116, 115, 32, 110, 97, 109, 101, 32, 105, 110, 32, 116, 104, 105, 115, 32, 98, 108, 111, 99, 107]), (31, [114, 101, 116, 117, 114, 110, 32, 111, 117, 116, 32, 111, 102, 32, 112, 108, 97, 99, 101])]
def unkL : List UInt8 := [117, 110, 107, 110, 111, 119, 110]
def wordsL (code : Int) : List UInt8 := ((saysL.find? fun p => p.1 == code).map (·.2)).getD unkL
def saidL (k : Nat) : List UInt8 := ((saysL.find? fun p => p.1 == (k : Int)).map (·.2)).getD []
theorem words_said : ∀ k : Nat, k < 32 → wordsL (k : Int) = if saidL k = [] then unkL else saidL k := by decide +kernel
theorem words_none (code : Int) (h : ∀ p ∈ saysL, p.1 ≠ code) : wordsL code = unkL := by
  unfold wordsL
  rw [List.find?_eq_none.2 (fun p hp => by simpa using h p hp)]
  rfl
theorem says_in : ∀ p ∈ saysL, 1 ≤ p.1 ∧ p.1 ≤ 31 := by decide +kernel
theorem words_out (code : Int) (h : code < 0 ∨ 32 ≤ code) : wordsL code = unkL := words_none code fun p hp e => by have := says_in p hp; omega
/-- The program's table. -/
def HasSaid (w : World) : Prop := ∀ k : Nat, k < 32 → w.cell? ⟨0, k, none⟩ = some (.string ⟨(saidL k).toArray⟩)

set_option maxRecDepth 100000 in
set_option maxHeartbeats 1000000 in
theorem words_prog (code : Int) (w : World) (hS : HasSaid w) :
    Calls Tryd.prog 26 #[.int .i64 code] w fun e w' => e = .returned (.string ⟨(wordsL code).toArray⟩) ∧ w = w' := by
  by_cases h : code < 0 ∨ 32 ≤ code
  · have D := Lib.hid (words_out code h)
    rcases h with h | h
    · go_enter Tryd.func26, Tryd.ntmps26
      go_wp2
      go_ret
      exact ⟨by rw [D.out]; rfl, rfl⟩
    · have h2 : ¬ code < 0 := by omega
      go_enter Tryd.func26, Tryd.ntmps26
      go_wp2
      go_ret
      exact ⟨by rw [D.out]; rfl, rfl⟩
  · obtain ⟨k, rfl⟩ : ∃ k : Nat, code = k := ⟨code.toNat, by omega⟩
    have hk : k < 32 := by omega
    have hc := hS k hk
    have D := Lib.hid (words_said k hk)
    by_cases he : saidL k = []
    · rw [he] at hc
      go_enter Tryd.func26, Tryd.ntmps26
      go_wp2
      go_ret
      exact ⟨by rw [D.out, if_pos he]; rfl, rfl⟩
    · have hem : (saidL k).isEmpty = false := by simpa using he
      go_enter Tryd.func26, Tryd.ntmps26
      go_wp2
      go_ret
      exact ⟨by rw [D.out, if_neg he]; rfl, rfl⟩
end Go.Proofs.YteghbblbkljdhaaDoor
