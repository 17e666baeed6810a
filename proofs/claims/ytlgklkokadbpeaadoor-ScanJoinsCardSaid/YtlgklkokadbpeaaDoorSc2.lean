import Derived.Test.YtlgklkokadbpeaaDoorSc1
namespace Go.Proofs.YtlgklkokadbpeaaDoor
open Go.RowKit

/-- The reserved words. -/
def wordsL : List (List UInt8) := [[105, 109, 112, 111, 114, 116], [102, 114, 111, 109], [101, 120, 112, 111, 114, 116], [116, 121, 112, 101], [105, 110, 116, 101, 114, 102, 97, 99, 101], [99, 108, 97, 115, 115], [101, 120, 116, 101, 110, 100, 115], [105, 109, 112, 108, 101, 109, 101, 110, 116, 115], [102, 117, 110, 99, 116, 105, 111, 110], [99, 111, 110, 115, 116], [108, 101, 116], [109, 117, 116], [105, 102], [101, 108, 115, 101], [119, 104, 105, 108, 101], [114, 101, 116, 117, 114, 110], [116, 104, 114, 111, 119], [116, 114, 121], [99, 97, 116, 99, 104], [110, 101, 119], [116, 104, 105, 115], [116, 114, 117, 101], [102, 97, 108, 115, 101], [110, 117, 108, 108], [116, 121, 112, 101, 111, 102], [97, 115], [107, 101, 121, 111, 102], [105, 110, 102, 101, 114], [105, 110], [97, 110, 121], [117, 110, 107, 110, 111, 119, 110], [110, 101, 118, 101, 114], [98, 111, 111, 108, 101, 97, 110], [110, 117, 109, 98, 101, 114], [115, 116, 114, 105, 110, 103]]
def resL (l : List UInt8) : Bool := wordsL.any fun x => l == x
theorem res_or (l : List UInt8) : resL l = (l == [105, 109, 112, 111, 114, 116] || (l == [102, 114, 111, 109] || (l == [101, 120, 112, 111, 114, 116] || (l == [116, 121, 112, 101] || (l == [105, 110, 116, 101, 114, 102, 97, 99, 101] || (l == [99, 108, 97, 115, 115] || (l == [101, 120, 116, 101, 110, 100, 115] || (l == [105, 109, 112, 108, 101, 109, 101, 110, 116, 115] || (l == [102, 117, 110, 99, 116, 105, 111, 110] || (l == [99, 111, 110, 115, 116] || (l == [108, 101, 116] || (l == [109, 117, 116] || (l == [105, 102] || (l == [101, 108, 115, 101] || (l == [119, 104, 105, 108, 101] || (l == [114, 101, 116, 117, 114, 110] || (l == [116, 104, 114, 111, 119] || (l == [116, 114, 121] || (l == [99, 97, 116, 99, 104] || (l == [110, 101, 119] || (l == [116, 104, 105, 115] || (l == [116, 114, 117, 101] || (l == [102, 97, 108, 115, 101] || (l == [110, 117, 108, 108] || (l == [116, 121, 112, 101, 111, 102] || (l == [97, 115] || (l == [107, 101, 121, 111, 102] || (l == [105, 110, 102, 101, 114] || (l == [105, 110] || (l == [97, 110, 121] || (l == [117, 110, 107, 110, 111, 119, 110] || (l == [110, 101, 118, 101, 114] || (l == [98, 111, 111, 108, 101, 97, 110] || (l == [110, 117, 109, 98, 101, 114] || (l == [115, 116, 114, 105, 110, 103] || false))))))))))))))))))))))))))))))))))) := rfl

set_option maxRecDepth 100000 in
set_option maxHeartbeats 1000000 in
theorem reserved_prog (s : ByteArray) (w : World) :
    Calls Tryd.prog 35 #[.string s] w fun e w' => e = .returned (.bool (resL s.toList)) ∧ w = w' := by
  have D := Lib.hid (res_or s.toList)
  go_enter Tryd.func35, Tryd.ntmps35
  go_wp2
  all_goals first
    | (have h2 := ‹_ = false›; have h3 := h2.symm.trans (show _ = true by assumption); exact absurd h3 (by decide))
    | (go_ret; exact ⟨by rw [D.out]; simp only [*, Bool.true_or, Bool.or_true, Bool.or_false]; rfl, rfl⟩)
    | (go_ret; exact ⟨by rw [D.out]; simp only [*, Bool.true_or, Bool.or_true, Bool.or_false, Bool.false_or], rfl⟩)
theorem words_len : wordsL.length = 35 := rfl
def wordVs : List Value := wordsL.map fun l => Value.string ⟨l.toArray⟩
/-- The list of the words, as it is made. -/
theorem words_ref (w : World) :
    Calls Tryd.prog 61 #[] w fun e w' => e = .returned (.slice (some ⟨w.heap.size, 0, none⟩) 35 35) ∧ w' = w.alloc (.cells wordVs.toArray 9) := by
  go_enter Tryd.func61, Tryd.ntmps61
  go_wp2
  go_ret
  exact ⟨rfl, rfl⟩
theorem words_cell (w : World) (k : Nat) (h : k < 35) : (w.alloc (.cells wordVs.toArray 9)).cell? ⟨w.heap.size, k, none⟩ = some (.string ⟨(wordsL.getD k []).toArray⟩) := by
  rw [World.cell?_alloc_at _ _ _ _ rfl]
  have h1 : k < wordsL.length := h
  simp [wordVs, List.getD_eq_getElem?_getD, List.getElem?_eq_getElem h1]
set_option maxHeartbeats 1000000 in
theorem reserved_ref (s : ByteArray) (w : World) :
    Calls Tryd.prog 36 #[.string s] w fun e w' => e = .returned (.bool (resL s.toList)) ∧ Below w.heap.size w w' := by
  have K := Lib.hid (words_ref w)
  have C := Lib.hid (words_cell w)
  have HB := Lib.hid ((Below.refl w.heap.size w).alloc (Nat.le_refl _) (.cells wordVs.toArray 9))
  go_enter Tryd.func36, Tryd.ntmps36
  go_wp2_with fail
  refine K.out.mono ?_
  rintro e w1 ⟨rfl, hw1⟩
  rw [← hw1] at HB C
  clear hw1
  go_wp2_with fail
  go_loop [4] (fun v => ∃ k : Nat, k ≤ 35 ∧ v = .int .i64 k ∧ ∀ j, j < k → (s.toList == wordsL.getD j []) = false) (fun v => 35 - (intOf v).toNat)
  case atStart => exact ⟨0, by omega, by go_num, fun j h => absurd h (by omega)⟩
  case round =>
    obtain ⟨k, hk, rfl, hno⟩ := hrel
    have HN := Lib.hid hno
    clear hno
    by_cases hlt : k < 35
    · have f1 := C.out k hlt
      have hin : wordsL.getD k [] ∈ wordsL := by
        rw [List.getD_eq_getElem?_getD, List.getElem?_eq_getElem (show k < wordsL.length from hlt)]
        exact List.getElem_mem _
      cases hq : (s.toList == wordsL.getD k []) with
      | true =>
        have HR := Lib.hid (show resL s.toList = true from List.any_eq_true.2 ⟨_, hin, hq⟩)
        clear hin
        have hq2 : (wordsL.getD k [] == s.toList) = true := by rw [beq_iff_eq] at hq ⊢; exact hq.symm
        generalize wordsL.getD k [] = x at *
        clear hq
        go_wp2_with fail
        go_ret
        exact ⟨by rw [HR.out]; rfl, HB.out⟩
      | false =>
        have HN' : Hid (∀ j, j < k + 1 → (s.toList == wordsL.getD j []) = false) := Lib.hid (fun j hj => by
          rcases Nat.lt_or_ge j k with h | h
          · exact HN.out j h
          · obtain rfl : j = k := by omega
            exact hq)
        clear hin
        have hq2 : (wordsL.getD k [] == s.toList) = false := by
          cases h : (wordsL.getD k [] == s.toList) with
          | false => rfl
          | true => rw [beq_iff_eq] at h; rw [h] at hq; simp at hq
        generalize wordsL.getD k [] = x at f1 hq2
        clear hq
        go_wp2_with fail
        go_round
        case rel => exact ⟨k + 1, by omega, by go_num, HN'.out⟩
        case measure => simp [intOf]; omega
    · obtain rfl : k = 35 := by omega
      have HR := Lib.hid (show resL s.toList = false from by
        rw [resL, List.any_eq_false]
        intro x hx
        obtain ⟨j, hj, rfl⟩ := List.getElem_of_mem hx
        have := HN.out j hj
        rw [List.getD_eq_getElem?_getD, List.getElem?_eq_getElem hj] at this
        simpa using this)
      go_wp2_with fail
      go_ret
      exact ⟨by rw [HR.out]; rfl, HB.out⟩
end Go.Proofs.YtlgklkokadbpeaaDoor
