import Derived.Test.YtlgklkokadbpeaaDoorSc13
import Derived.Test.YtlgklkokadbpeaaDoorScR1
namespace Go.Proofs.YtlgklkokadbpeaaDoor
open Go.RowKit
def signsL : List (List UInt8) := [[61, 61, 61], [33, 61, 61], [46, 46, 46], [61, 62], [60, 61], [62, 61], [38, 38], [124, 124], [59], [123], [125], [40], [41], [91], [93], [60], [62], [44], [58], [61], [43], [45], [42], [47], [37], [33], [63], [46], [124], [38]]
theorem signs_eq : signsL = longsL ++ onesL.map fun c => [c] := by decide
theorem occ_one (s : ByteArray) (i : Nat) (c : UInt8) : occ s i [c] = (B s i == c.toNat) := by simp [occ]
theorem sign_first (s : ByteArray) (i : Nat) : signN s i = match signsL.find? (occ s i) with | some l => l.length | none => 0 := by
  unfold signN
  rw [signs_eq, List.find?_append]
  cases h1 : longsL.find? (occ s i) with
  | some l => rfl
  | none =>
    rw [Option.none_or]
    cases h2 : (onesL.map fun c => [c]).find? (occ s i) with
    | some l =>
      dsimp only
      obtain ⟨c, hc, rfl⟩ := List.mem_map.1 (List.mem_of_find?_eq_some h2)
      have h3 := List.find?_some h2
      rw [occ_one] at h3
      rw [if_pos (List.any_eq_true.2 ⟨c, hc, h3⟩)]; rfl
    | none =>
      dsimp only
      rw [if_neg]
      intro h
      obtain ⟨c, hc, h3⟩ := List.any_eq_true.1 h
      have := List.find?_eq_none.1 h2 [c] (List.mem_map.2 ⟨c, hc, rfl⟩)
      rw [occ_one] at this
      exact this h3
def noSign (s : ByteArray) (i k : Nat) : Prop := ∀ j, j < k → occ s i (signsL.getD j []) = false
theorem signs_hit (s : ByteArray) (i k : Nat) (hk : k < 30) (hn : noSign s i k) (h : occ s i (signsL.getD k []) = true) : signN s i = (signsL.getD k []).length := by
  have hl : k < signsL.length := hk
  rw [sign_first, (List.find?_eq_some_iff_getElem (xs := signsL) (b := signsL.getD k [])).2 ⟨h, k, hl, by rw [List.getD_eq_getElem?_getD, List.getElem?_eq_getElem hl]; rfl, fun j hj => by
    have := hn j hj
    rw [List.getD_eq_getElem?_getD, List.getElem?_eq_getElem (by omega)] at this
    simpa using this⟩]
theorem signs_miss (s : ByteArray) (i : Nat) (hn : noSign s i 30) : signN s i = 0 := by
  rw [sign_first, List.find?_eq_none.2]
  intro x hx
  obtain ⟨j, hj, rfl⟩ := List.getElem_of_mem hx
  have := hn j hj
  rw [List.getD_eq_getElem?_getD, List.getElem?_eq_getElem hj] at this
  simpa using this
theorem noSign_more {s : ByteArray} {i k : Nat} (hn : noSign s i k) (h : occ s i (signsL.getD k []) = false) : noSign s i (k + 1) := fun j hj => by
  rcases Nat.lt_or_ge j k with h2 | h2
  · exact hn j h2
  · obtain rfl : j = k := by omega
    exact h
def signVs : List Value := signsL.map fun l => Value.string ⟨l.toArray⟩
theorem signs_cell (w : World) (k : Nat) (h : k < 30) : (w.alloc (.cells signVs.toArray 9)).cell? ⟨w.heap.size, k, none⟩ = some (.string ⟨(signsL.getD k []).toArray⟩) := by
  have hl : k < signsL.length := h
  rw [cell_of_row _ _ _ _ _ _ (heap_alloc_new w _)]
  simp [signVs, hl]
theorem signs_small : ∀ k : Fin 30, (signsL.getD k.val []).length ≤ 3 ∧ ∀ c ∈ signsL.getD k.val [], 0 < c.toNat := by decide
theorem sign_ref (s : ByteArray) (i : Nat) (w : World) (hs : s.size ≤ 1000000000) (hi : i < s.size) :
    Calls Tryd.prog 80 #[.string s, .int .i64 i] w fun e w' => e = .returned (.int .i64 (signN s i)) ∧ Below w.heap.size w w' := by
  have C0 := Lib.hid (signs_cell w)
  have HB0 := Lib.hid ((Below.refl w.heap.size w).alloc (Nat.le_refl _) (.cells signVs.toArray 9))
  go_enter Tryd.func80, Tryd.ntmps80
  go_wp2_with fail
  generalize hW : World.alloc _ _ = W
  rw [show w.alloc (.cells signVs.toArray 9) = W from hW] at C0 HB0
  clear hW
  have C := C0
  have HB := HB0
  clear C0 HB0
  go_loop [6] (fun v => ∃ k : Nat, k ≤ 30 ∧ v = .int .i64 k ∧ noSign s i k) (fun v => 30 - (intOf v).toNat)
  case atStart => exact ⟨0, by omega, by go_num, fun j h => absurd h (by omega)⟩
  case round =>
    obtain ⟨k, hk, rfl, hno⟩ := hrel
    by_cases hlt : k < 30
    · have f1 := C.out k hlt
      have hsm := signs_small ⟨k, hlt⟩
      cases hq : occ s i (signsL.getD k []) with
      | true =>
        have D := Lib.hid (signs_hit s i k hlt hno hq)
        have K := Lib.hid (fun W => begins_ref s ⟨(signsL.getD k []).toArray⟩ i W hs (by omega) (by show (signsL.getD k []).toArray.size ≤ 1000; have := hsm.1; simp at this ⊢; omega) (by simpa using hsm.2))
        rw [show (⟨(signsL.getD k []).toArray⟩ : ByteArray).data.toList = signsL.getD k [] from by simp, hq] at K
        clear hno hsm hq
        generalize signsL.getD k [] = x at *
        go_wp2_with fail
        refine (K.out _).mono ?_
        rintro e w1 ⟨rfl, rfl⟩
        go_wp2_with fail
        go_ret
        exact ⟨ret_int (by rw [D.out]), HB.out⟩
      | false =>
        have HN := Lib.hid (noSign_more hno hq)
        have K := Lib.hid (fun W => begins_ref s ⟨(signsL.getD k []).toArray⟩ i W hs (by omega) (by show (signsL.getD k []).toArray.size ≤ 1000; have := hsm.1; simp at this ⊢; omega) (by simpa using hsm.2))
        rw [show (⟨(signsL.getD k []).toArray⟩ : ByteArray).data.toList = signsL.getD k [] from by simp, hq] at K
        clear hno hsm hq
        generalize signsL.getD k [] = x at f1 K
        go_wp2_with fail
        refine (K.out _).mono ?_
        rintro e w1 ⟨rfl, rfl⟩
        go_wp2_with fail
        go_round
        case rel => exact ⟨k + 1, by omega, by go_num, HN.out⟩
        case measure => simp [intOf]; omega
    · obtain rfl : k = 30 := by omega
      have D := Lib.hid (signs_miss s i hno)
      clear hno
      go_wp2_with fail
      go_ret
      exact ⟨ret_int (by rw [D.out]; rfl), HB.out⟩
end Go.Proofs.YtlgklkokadbpeaaDoor
