import Derived.Test.YtlgklkokadbpeaaDoorSc9
namespace Go.Proofs.YtlgklkokadbpeaaDoor
open Go.RowKit

def longsL : List (List UInt8) := [[61, 61, 61], [33, 61, 61], [46, 46, 46], [61, 62], [60, 61], [62, 61], [38, 38], [124, 124]]
def onesL : List UInt8 := [59, 123, 125, 40, 41, 91, 93, 60, 62, 44, 58, 61, 43, 45, 42, 47, 37, 33, 63, 46, 124, 38]
/-- How long the sign is that begins at a place. -/
def signN (s : ByteArray) (i : Nat) : Nat := match longsL.find? (occ s i) with
  | some l => l.length
  | none => if (onesL.any fun c => B s i == c.toNat) = true then 1 else 0
def noneTo (s : ByteArray) (i k : Nat) : Prop := ∀ j, j < k → occ s i (longsL.getD j []) = false
theorem sign_hit (s : ByteArray) (i k : Nat) (hk : k < 8) (hn : noneTo s i k) (h : occ s i (longsL.getD k []) = true) : signN s i = (longsL.getD k []).length := by
  have hf : longsL.find? (occ s i) = some (longsL.getD k []) := by
    have h8 : k = 0 ∨ k = 1 ∨ k = 2 ∨ k = 3 ∨ k = 4 ∨ k = 5 ∨ k = 6 ∨ k = 7 := by omega
    have g (j : Nat) (hj : j < k) := hn j hj
    rcases h8 with rfl | rfl | rfl | rfl | rfl | rfl | rfl | rfl
    · exact List.find?_cons_of_pos h
    all_goals
      rw [longsL] at *
      repeat (rw [List.find?_cons_of_neg (by simp only [Bool.not_eq_true]; first | exact g 0 (by omega) | exact g 1 (by omega) | exact g 2 (by omega) | exact g 3 (by omega) | exact g 4 (by omega) | exact g 5 (by omega) | exact g 6 (by omega))])
      exact List.find?_cons_of_pos h
  rw [signN, hf]
theorem sign_miss (s : ByteArray) (i : Nat) (hn : noneTo s i 8) : signN s i = if (onesL.any fun c => B s i == c.toNat) = true then 1 else 0 := by
  have hf : longsL.find? (occ s i) = none := List.find?_eq_none.2 fun l hl => by
    obtain ⟨j, hj, rfl⟩ := List.getElem_of_mem hl
    have := hn j hj
    rw [List.getD_eq_getElem?_getD, List.getElem?_eq_getElem hj] at this
    simpa using this
  rw [signN, hf]
theorem ones_fin : ∀ c : Fin 256, decide (0 ≤ Lib.indexByte onesL (UInt8.ofNat c.val)) = onesL.any fun x => c.val == x.toNat := by decide +kernel
theorem ones_at (c : UInt8) : decide (0 ≤ Lib.indexByte onesL c) = onesL.any fun x => c.toNat == x.toNat := by
  have h := ones_fin ⟨c.toNat, UInt8.toNat_lt c⟩
  have e : UInt8.ofNat c.toNat = c := by simp
  simpa only [e] using h
theorem none_more {s : ByteArray} {i k : Nat} (hn : noneTo s i k) (h : occ s i (longsL.getD k []) = false) : noneTo s i (k + 1) := fun j hj => by
  rcases Nat.lt_or_ge j k with h2 | h2
  · exact hn j h2
  · obtain rfl : j = k := by omega
    exact h
theorem ones_call (x : UInt8) (W : World) :
    Calls Tryd.prog 69 #[.string ⟨#[59, 123, 125, 40, 41, 91, 93, 60, 62, 44, 58, 61, 43, 45, 42, 47, 37, 33, 63, 46, 124, 38]⟩, .int .u8 x.toNat] W fun e w' => e = .returned (.int .i64 (Lib.indexByte onesL x)) ∧ W = w' := by
  have := Tryd.strings_IndexByte ⟨#[59, 123, 125, 40, 41, 91, 93, 60, 62, 44, 58, 61, 43, 45, 42, 47, 37, 33, 63, 46, 124, 38]⟩ x.toNat W
  rw [show ((x.toNat : Int)).toNat.toUInt8 = x by simp] at this
  exact this.mono fun e w' h => ⟨h.1, h.2.symm⟩
theorem longs_pos : ∀ l ∈ longsL, ∀ c ∈ l, 0 < c.toNat := by decide
theorem pre_call (s : ByteArray) (i k : Nat) (hk : k < 8) (W : World) :
    Calls Tryd.prog 68 #[.string (s.extract i s.size), .string ⟨(longsL.getD k []).toArray⟩] W fun e w' => e = .returned (.bool (occ s i (longsL.getD k []))) ∧ W = w' := by
  have hp : ∀ c ∈ longsL.getD k [], 0 < c.toNat := by
    have hk' : k < longsL.length := hk
    rw [List.getD_eq_getElem?_getD, List.getElem?_eq_getElem hk']
    exact longs_pos _ (List.getElem_mem hk')
  have := Tryd.strings_HasPrefix (s.extract i s.size) ⟨(longsL.getD k []).toArray⟩ W
  rw [show (s.extract i s.size).data.toList = s.data.toList.drop i from Lib.extract_to_end s i, pre_ext s i _ hp ⟨(longsL.getD k []).toArray⟩ (by simp)] at this
  exact this.mono fun e w' h => ⟨h.1, h.2.symm⟩
set_option maxRecDepth 100000 in
set_option maxHeartbeats 1000000 in
theorem sign_prog (s : ByteArray) (i : Nat) (w : World) (_hs : s.size ≤ 1000000000) (hi : i < s.size) :
    Calls Tryd.prog 76 #[.string (s.extract i s.size)] w fun e w' => e = .returned (.int .i64 (signN s i)) ∧ Below w.heap.size w w' := by
  have hz : (s.extract i s.size).size = s.size - i := by rw [ByteArray.size_extract]; omega
  go_enter Tryd.func76, Tryd.ntmps76
  go_wp2
  go_loop [6] (fun v => ∃ k : Nat, k ≤ 8 ∧ v = .int .i64 k ∧ noneTo s i k) (fun v => 8 - (intOf v).toNat)
  case atStart => exact ⟨0, by omega, by go_num, fun j hj => by omega⟩
  case round =>
    obtain ⟨k, hk, rfl, hn⟩ := hrel
    have h8 : k = 0 ∨ k = 1 ∨ k = 2 ∨ k = 3 ∨ k = 4 ∨ k = 5 ∨ k = 6 ∨ k = 7 ∨ k = 8 := by omega
    rcases h8 with rfl | rfl | rfl | rfl | rfl | rfl | rfl | rfl | rfl
    · cases ho : occ s i (longsL.getD 0 []) with
      | true =>
        have D := Lib.hid (sign_hit s i 0 (by omega) hn ho)
        have K := Lib.hid (pre_call s i 0 (by omega) w)
        have ix : ∀ w, (Instr.index 103 (.agg #[.string ⟨#[61, 61, 61]⟩, .string ⟨#[33, 61, 61]⟩, .string ⟨#[46, 46, 46]⟩, .string ⟨#[61, 62]⟩, .string ⟨#[60, 61]⟩, .string ⟨#[62, 61]⟩, .string ⟨#[38, 38]⟩, .string ⟨#[124, 124]⟩]) (.int .i64 0)).run Tryd.prog w = .ok (.string ⟨(longsL.getD 0 []).toArray⟩) w := fun _ => by kernel_rfl
        rw [ho] at K
        clear ho hn
        go_wp2_with (first | (go_at_call 68; refine K.out.mono ?_; rintro e w1 ⟨rfl, rfl⟩))
        go_ret
        exact ⟨by rw [D.out]; rfl, Below.refl _ _⟩
      | false =>
        have hn2 := Lib.hid (none_more hn ho)
        have K := Lib.hid (pre_call s i 0 (by omega) w)
        have ix : ∀ w, (Instr.index 103 (.agg #[.string ⟨#[61, 61, 61]⟩, .string ⟨#[33, 61, 61]⟩, .string ⟨#[46, 46, 46]⟩, .string ⟨#[61, 62]⟩, .string ⟨#[60, 61]⟩, .string ⟨#[62, 61]⟩, .string ⟨#[38, 38]⟩, .string ⟨#[124, 124]⟩]) (.int .i64 0)).run Tryd.prog w = .ok (.string ⟨(longsL.getD 0 []).toArray⟩) w := fun _ => by kernel_rfl
        rw [ho] at K
        clear ho hn
        go_wp2_with (first | (go_at_call 68; refine K.out.mono ?_; rintro e w1 ⟨rfl, rfl⟩))
        go_round
        case rel => exact ⟨1, by omega, by go_num, hn2.out⟩
        case measure => simp [intOf]
    · cases ho : occ s i (longsL.getD 1 []) with
      | true =>
        have D := Lib.hid (sign_hit s i 1 (by omega) hn ho)
        have K := Lib.hid (pre_call s i 1 (by omega) w)
        have ix : ∀ w, (Instr.index 103 (.agg #[.string ⟨#[61, 61, 61]⟩, .string ⟨#[33, 61, 61]⟩, .string ⟨#[46, 46, 46]⟩, .string ⟨#[61, 62]⟩, .string ⟨#[60, 61]⟩, .string ⟨#[62, 61]⟩, .string ⟨#[38, 38]⟩, .string ⟨#[124, 124]⟩]) (.int .i64 1)).run Tryd.prog w = .ok (.string ⟨(longsL.getD 1 []).toArray⟩) w := fun _ => by kernel_rfl
        rw [ho] at K
        clear ho hn
        go_wp2_with (first | (go_at_call 68; refine K.out.mono ?_; rintro e w1 ⟨rfl, rfl⟩))
        go_ret
        exact ⟨by rw [D.out]; rfl, Below.refl _ _⟩
      | false =>
        have hn2 := Lib.hid (none_more hn ho)
        have K := Lib.hid (pre_call s i 1 (by omega) w)
        have ix : ∀ w, (Instr.index 103 (.agg #[.string ⟨#[61, 61, 61]⟩, .string ⟨#[33, 61, 61]⟩, .string ⟨#[46, 46, 46]⟩, .string ⟨#[61, 62]⟩, .string ⟨#[60, 61]⟩, .string ⟨#[62, 61]⟩, .string ⟨#[38, 38]⟩, .string ⟨#[124, 124]⟩]) (.int .i64 1)).run Tryd.prog w = .ok (.string ⟨(longsL.getD 1 []).toArray⟩) w := fun _ => by kernel_rfl
        rw [ho] at K
        clear ho hn
        go_wp2_with (first | (go_at_call 68; refine K.out.mono ?_; rintro e w1 ⟨rfl, rfl⟩))
        go_round
        case rel => exact ⟨2, by omega, by go_num, hn2.out⟩
        case measure => simp [intOf]
    · cases ho : occ s i (longsL.getD 2 []) with
      | true =>
        have D := Lib.hid (sign_hit s i 2 (by omega) hn ho)
        have K := Lib.hid (pre_call s i 2 (by omega) w)
        have ix : ∀ w, (Instr.index 103 (.agg #[.string ⟨#[61, 61, 61]⟩, .string ⟨#[33, 61, 61]⟩, .string ⟨#[46, 46, 46]⟩, .string ⟨#[61, 62]⟩, .string ⟨#[60, 61]⟩, .string ⟨#[62, 61]⟩, .string ⟨#[38, 38]⟩, .string ⟨#[124, 124]⟩]) (.int .i64 2)).run Tryd.prog w = .ok (.string ⟨(longsL.getD 2 []).toArray⟩) w := fun _ => by kernel_rfl
        rw [ho] at K
        clear ho hn
        go_wp2_with (first | (go_at_call 68; refine K.out.mono ?_; rintro e w1 ⟨rfl, rfl⟩))
        go_ret
        exact ⟨by rw [D.out]; rfl, Below.refl _ _⟩
      | false =>
        have hn2 := Lib.hid (none_more hn ho)
        have K := Lib.hid (pre_call s i 2 (by omega) w)
        have ix : ∀ w, (Instr.index 103 (.agg #[.string ⟨#[61, 61, 61]⟩, .string ⟨#[33, 61, 61]⟩, .string ⟨#[46, 46, 46]⟩, .string ⟨#[61, 62]⟩, .string ⟨#[60, 61]⟩, .string ⟨#[62, 61]⟩, .string ⟨#[38, 38]⟩, .string ⟨#[124, 124]⟩]) (.int .i64 2)).run Tryd.prog w = .ok (.string ⟨(longsL.getD 2 []).toArray⟩) w := fun _ => by kernel_rfl
        rw [ho] at K
        clear ho hn
        go_wp2_with (first | (go_at_call 68; refine K.out.mono ?_; rintro e w1 ⟨rfl, rfl⟩))
        go_round
        case rel => exact ⟨3, by omega, by go_num, hn2.out⟩
        case measure => simp [intOf]
    · cases ho : occ s i (longsL.getD 3 []) with
      | true =>
        have D := Lib.hid (sign_hit s i 3 (by omega) hn ho)
        have K := Lib.hid (pre_call s i 3 (by omega) w)
        have ix : ∀ w, (Instr.index 103 (.agg #[.string ⟨#[61, 61, 61]⟩, .string ⟨#[33, 61, 61]⟩, .string ⟨#[46, 46, 46]⟩, .string ⟨#[61, 62]⟩, .string ⟨#[60, 61]⟩, .string ⟨#[62, 61]⟩, .string ⟨#[38, 38]⟩, .string ⟨#[124, 124]⟩]) (.int .i64 3)).run Tryd.prog w = .ok (.string ⟨(longsL.getD 3 []).toArray⟩) w := fun _ => by kernel_rfl
        rw [ho] at K
        clear ho hn
        go_wp2_with (first | (go_at_call 68; refine K.out.mono ?_; rintro e w1 ⟨rfl, rfl⟩))
        go_ret
        exact ⟨by rw [D.out]; rfl, Below.refl _ _⟩
      | false =>
        have hn2 := Lib.hid (none_more hn ho)
        have K := Lib.hid (pre_call s i 3 (by omega) w)
        have ix : ∀ w, (Instr.index 103 (.agg #[.string ⟨#[61, 61, 61]⟩, .string ⟨#[33, 61, 61]⟩, .string ⟨#[46, 46, 46]⟩, .string ⟨#[61, 62]⟩, .string ⟨#[60, 61]⟩, .string ⟨#[62, 61]⟩, .string ⟨#[38, 38]⟩, .string ⟨#[124, 124]⟩]) (.int .i64 3)).run Tryd.prog w = .ok (.string ⟨(longsL.getD 3 []).toArray⟩) w := fun _ => by kernel_rfl
        rw [ho] at K
        clear ho hn
        go_wp2_with (first | (go_at_call 68; refine K.out.mono ?_; rintro e w1 ⟨rfl, rfl⟩))
        go_round
        case rel => exact ⟨4, by omega, by go_num, hn2.out⟩
        case measure => simp [intOf]
    · cases ho : occ s i (longsL.getD 4 []) with
      | true =>
        have D := Lib.hid (sign_hit s i 4 (by omega) hn ho)
        have K := Lib.hid (pre_call s i 4 (by omega) w)
        have ix : ∀ w, (Instr.index 103 (.agg #[.string ⟨#[61, 61, 61]⟩, .string ⟨#[33, 61, 61]⟩, .string ⟨#[46, 46, 46]⟩, .string ⟨#[61, 62]⟩, .string ⟨#[60, 61]⟩, .string ⟨#[62, 61]⟩, .string ⟨#[38, 38]⟩, .string ⟨#[124, 124]⟩]) (.int .i64 4)).run Tryd.prog w = .ok (.string ⟨(longsL.getD 4 []).toArray⟩) w := fun _ => by kernel_rfl
        rw [ho] at K
        clear ho hn
        go_wp2_with (first | (go_at_call 68; refine K.out.mono ?_; rintro e w1 ⟨rfl, rfl⟩))
        go_ret
        exact ⟨by rw [D.out]; rfl, Below.refl _ _⟩
      | false =>
        have hn2 := Lib.hid (none_more hn ho)
        have K := Lib.hid (pre_call s i 4 (by omega) w)
        have ix : ∀ w, (Instr.index 103 (.agg #[.string ⟨#[61, 61, 61]⟩, .string ⟨#[33, 61, 61]⟩, .string ⟨#[46, 46, 46]⟩, .string ⟨#[61, 62]⟩, .string ⟨#[60, 61]⟩, .string ⟨#[62, 61]⟩, .string ⟨#[38, 38]⟩, .string ⟨#[124, 124]⟩]) (.int .i64 4)).run Tryd.prog w = .ok (.string ⟨(longsL.getD 4 []).toArray⟩) w := fun _ => by kernel_rfl
        rw [ho] at K
        clear ho hn
        go_wp2_with (first | (go_at_call 68; refine K.out.mono ?_; rintro e w1 ⟨rfl, rfl⟩))
        go_round
        case rel => exact ⟨5, by omega, by go_num, hn2.out⟩
        case measure => simp [intOf]
    · cases ho : occ s i (longsL.getD 5 []) with
      | true =>
        have D := Lib.hid (sign_hit s i 5 (by omega) hn ho)
        have K := Lib.hid (pre_call s i 5 (by omega) w)
        have ix : ∀ w, (Instr.index 103 (.agg #[.string ⟨#[61, 61, 61]⟩, .string ⟨#[33, 61, 61]⟩, .string ⟨#[46, 46, 46]⟩, .string ⟨#[61, 62]⟩, .string ⟨#[60, 61]⟩, .string ⟨#[62, 61]⟩, .string ⟨#[38, 38]⟩, .string ⟨#[124, 124]⟩]) (.int .i64 5)).run Tryd.prog w = .ok (.string ⟨(longsL.getD 5 []).toArray⟩) w := fun _ => by kernel_rfl
        rw [ho] at K
        clear ho hn
        go_wp2_with (first | (go_at_call 68; refine K.out.mono ?_; rintro e w1 ⟨rfl, rfl⟩))
        go_ret
        exact ⟨by rw [D.out]; rfl, Below.refl _ _⟩
      | false =>
        have hn2 := Lib.hid (none_more hn ho)
        have K := Lib.hid (pre_call s i 5 (by omega) w)
        have ix : ∀ w, (Instr.index 103 (.agg #[.string ⟨#[61, 61, 61]⟩, .string ⟨#[33, 61, 61]⟩, .string ⟨#[46, 46, 46]⟩, .string ⟨#[61, 62]⟩, .string ⟨#[60, 61]⟩, .string ⟨#[62, 61]⟩, .string ⟨#[38, 38]⟩, .string ⟨#[124, 124]⟩]) (.int .i64 5)).run Tryd.prog w = .ok (.string ⟨(longsL.getD 5 []).toArray⟩) w := fun _ => by kernel_rfl
        rw [ho] at K
        clear ho hn
        go_wp2_with (first | (go_at_call 68; refine K.out.mono ?_; rintro e w1 ⟨rfl, rfl⟩))
        go_round
        case rel => exact ⟨6, by omega, by go_num, hn2.out⟩
        case measure => simp [intOf]
    · cases ho : occ s i (longsL.getD 6 []) with
      | true =>
        have D := Lib.hid (sign_hit s i 6 (by omega) hn ho)
        have K := Lib.hid (pre_call s i 6 (by omega) w)
        have ix : ∀ w, (Instr.index 103 (.agg #[.string ⟨#[61, 61, 61]⟩, .string ⟨#[33, 61, 61]⟩, .string ⟨#[46, 46, 46]⟩, .string ⟨#[61, 62]⟩, .string ⟨#[60, 61]⟩, .string ⟨#[62, 61]⟩, .string ⟨#[38, 38]⟩, .string ⟨#[124, 124]⟩]) (.int .i64 6)).run Tryd.prog w = .ok (.string ⟨(longsL.getD 6 []).toArray⟩) w := fun _ => by kernel_rfl
        rw [ho] at K
        clear ho hn
        go_wp2_with (first | (go_at_call 68; refine K.out.mono ?_; rintro e w1 ⟨rfl, rfl⟩))
        go_ret
        exact ⟨by rw [D.out]; rfl, Below.refl _ _⟩
      | false =>
        have hn2 := Lib.hid (none_more hn ho)
        have K := Lib.hid (pre_call s i 6 (by omega) w)
        have ix : ∀ w, (Instr.index 103 (.agg #[.string ⟨#[61, 61, 61]⟩, .string ⟨#[33, 61, 61]⟩, .string ⟨#[46, 46, 46]⟩, .string ⟨#[61, 62]⟩, .string ⟨#[60, 61]⟩, .string ⟨#[62, 61]⟩, .string ⟨#[38, 38]⟩, .string ⟨#[124, 124]⟩]) (.int .i64 6)).run Tryd.prog w = .ok (.string ⟨(longsL.getD 6 []).toArray⟩) w := fun _ => by kernel_rfl
        rw [ho] at K
        clear ho hn
        go_wp2_with (first | (go_at_call 68; refine K.out.mono ?_; rintro e w1 ⟨rfl, rfl⟩))
        go_round
        case rel => exact ⟨7, by omega, by go_num, hn2.out⟩
        case measure => simp [intOf]
    · cases ho : occ s i (longsL.getD 7 []) with
      | true =>
        have D := Lib.hid (sign_hit s i 7 (by omega) hn ho)
        have K := Lib.hid (pre_call s i 7 (by omega) w)
        have ix : ∀ w, (Instr.index 103 (.agg #[.string ⟨#[61, 61, 61]⟩, .string ⟨#[33, 61, 61]⟩, .string ⟨#[46, 46, 46]⟩, .string ⟨#[61, 62]⟩, .string ⟨#[60, 61]⟩, .string ⟨#[62, 61]⟩, .string ⟨#[38, 38]⟩, .string ⟨#[124, 124]⟩]) (.int .i64 7)).run Tryd.prog w = .ok (.string ⟨(longsL.getD 7 []).toArray⟩) w := fun _ => by kernel_rfl
        rw [ho] at K
        clear ho hn
        go_wp2_with (first | (go_at_call 68; refine K.out.mono ?_; rintro e w1 ⟨rfl, rfl⟩))
        go_ret
        exact ⟨by rw [D.out]; rfl, Below.refl _ _⟩
      | false =>
        have hn2 := Lib.hid (none_more hn ho)
        have K := Lib.hid (pre_call s i 7 (by omega) w)
        have ix : ∀ w, (Instr.index 103 (.agg #[.string ⟨#[61, 61, 61]⟩, .string ⟨#[33, 61, 61]⟩, .string ⟨#[46, 46, 46]⟩, .string ⟨#[61, 62]⟩, .string ⟨#[60, 61]⟩, .string ⟨#[62, 61]⟩, .string ⟨#[38, 38]⟩, .string ⟨#[124, 124]⟩]) (.int .i64 7)).run Tryd.prog w = .ok (.string ⟨(longsL.getD 7 []).toArray⟩) w := fun _ => by kernel_rfl
        rw [ho] at K
        clear ho hn
        go_wp2_with (first | (go_at_call 68; refine K.out.mono ?_; rintro e w1 ⟨rfl, rfl⟩))
        go_round
        case rel => exact ⟨8, by omega, by go_num, hn2.out⟩
        case measure => simp [intOf]
    · have D := Lib.hid (sign_miss s i hn)
      clear hn
      have hp : 0 < (s.extract i s.size).size := by omega
      have hx : ((s.extract i s.size)[0]).toNat = B s i := by
        rw [B_at _ _ hp]
        show ((s.extract i s.size).data[0]!).toNat = _
        have := B_ext s i 0 (by omega)
        simpa [B] using this
      have hq := ones_at ((s.extract i s.size)[0])
      rw [hx] at hq
      have K0 := ones_call ((s.extract i s.size)[0])
      simp only [hx] at K0
      have K := Lib.hid K0
      clear K0
      cases hb : (onesL.any fun c => B s i == c.toNat) with
      | true =>
        rw [hb] at hq D
        generalize Lib.indexByte onesL ((s.extract i s.size)[0]) = q at *
        go_wp2_with fail
        refine (K.out _).mono ?_
        rintro e w1 ⟨rfl, rfl⟩
        go_wp2_with fail
        go_ret
        exact ⟨by rw [D.out]; rfl, Below.refl _ _⟩
      | false =>
        rw [hb] at hq D
        generalize Lib.indexByte onesL ((s.extract i s.size)[0]) = q at *
        go_wp2_with fail
        refine (K.out _).mono ?_
        rintro e w1 ⟨rfl, rfl⟩
        go_wp2_with fail
        go_ret
        exact ⟨by rw [D.out]; rfl, Below.refl _ _⟩
end Go.Proofs.YtlgklkokadbpeaaDoor
