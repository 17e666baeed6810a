import Derived.Test.YtlgklkokadbpeaaDoorSc6
import Derived.Test.YtlgklkokadbpeaaDoorScR1
namespace Go.Proofs.YtlgklkokadbpeaaDoor
open Go.RowKit
/-- Where blanks and remarks end. -/
def skipF (s : ByteArray) : Nat → Nat → Nat
  | 0, i => i
  | f + 1, i => if i < s.size then (match skipStep s i with | some j => skipF s f j | none => i) else i
theorem skip_fuel (s : ByteArray) : ∀ f f' i, s.size - i ≤ f → s.size - i ≤ f' → skipF s f i = skipF s f' i := by
  intro f
  induction f with
  | zero =>
    intro f' i h h'
    cases f' with
    | zero => rfl
    | succ f' => unfold skipF; rw [if_neg (by omega)]
  | succ f ih =>
    intro f' i h h'
    cases f' with
    | zero => unfold skipF; rw [if_neg (by omega)]
    | succ f' =>
      unfold skipF
      split
      · rename_i hi
        cases hs : skipStep s i with
        | some j => have := skip_bd hi hs; exact ih _ _ (by omega) (by omega)
        | none => rfl
      · rfl
def skipN (s : ByteArray) (i : Nat) : Nat := skipF s (s.size - i) i
theorem skip_go {s : ByteArray} {i j : Nat} (h : i < s.size) (hs : skipStep s i = some j) : skipN s i = skipN s j := by
  unfold skipN
  rw [show s.size - i = (s.size - i - 1) + 1 by omega]
  conv => lhs; unfold skipF
  rw [if_pos h, hs]
  have := skip_bd h hs
  exact skip_fuel s _ _ _ (by omega) (Nat.le_refl _)
theorem skip_stop {s : ByteArray} {i : Nat} (hs : skipStep s i = none) : skipN s i = i := by
  unfold skipN
  cases s.size - i with
  | zero => rfl
  | succ f => unfold skipF; rw [hs]; split <;> rfl
theorem skip_end {s : ByteArray} {i : Nat} (h : s.size ≤ i) : skipN s i = i := by
  unfold skipN; rw [show s.size - i = 0 by omega]; rfl
theorem skipN_bd (s : ByteArray) : ∀ f i, s.size - i = f → i ≤ s.size → i ≤ skipN s i ∧ skipN s i ≤ s.size ∧ (skipN s i < s.size → skipStep s (skipN s i) = none) := by
  intro f
  induction f using Nat.strongRecOn with
  | _ f ih =>
    intro i hf hi
    by_cases h : i < s.size
    · cases hs : skipStep s i with
      | some j =>
        have hb := skip_bd h hs
        rw [skip_go h hs]
        have := ih (s.size - j) (by omega) j rfl hb.2
        exact ⟨by omega, this.2.1, this.2.2⟩
      | none => rw [skip_stop hs]; exact ⟨Nat.le_refl _, hi, fun _ => hs⟩
    · rw [skip_end (by omega)]; exact ⟨Nat.le_refl _, hi, fun h2 => absurd h2 h⟩
theorem blank_of {c : Nat} : blankB c = true ↔ c = 32 ∨ c = 9 ∨ c = 10 ∨ c = 13 := by unfold blankB; exact decide_eq_true_iff
set_option maxRecDepth 100000 in
set_option maxHeartbeats 2000000 in
theorem skip_ref (s : ByteArray) (i : Nat) (w : World) (hs : s.size ≤ 1000000000) (hi : i ≤ s.size) :
    Calls Tryd.prog 55 #[.string s, .int .i64 i] w fun e w' => e = .returned (.int .i64 (skipN s i)) ∧ w = w' := by
  go_enter Tryd.func55, Tryd.ntmps55
  go_wp2_with fail
  go_loop [1] (fun v => ∃ k : Nat, i ≤ k ∧ k ≤ s.size ∧ v = .int .i64 k ∧ skipN s k = skipN s i) (fun v => s.size - (intOf v).toNat)
  case atStart => exact ⟨i, by omega, hi, rfl, rfl⟩
  case round =>
    obtain ⟨k, hk1, hk, rfl, hc⟩ := hrel
    have HC := Lib.hid hc
    clear hc
    by_cases hlt : k < s.size
    · have hb := B_at s k hlt
      cases hbl : blankB (B s k) with
      | true =>
        have G := Lib.hid (skip_go hlt (show skipStep s k = some (k + 1) from if_pos hbl))
        rcases blank_of.1 hbl with h | h | h | h
        all_goals
          rw [h] at hb
          clear hbl h
          go_wp2_with fail
          go_round
          case rel => exact ⟨k + 1, by omega, by omega, by go_num, by rw [← G.out, HC.out]⟩
          case measure => simp [intOf]; omega
      | false =>
        have hne := fun h => Bool.false_ne_true (hbl.symm.trans (blank_of.2 h))
        have n32 : B s k ≠ 32 := fun h => hne (.inl h)
        have n9 : B s k ≠ 9 := fun h => hne (.inr (.inl h))
        have n10 : B s k ≠ 10 := fun h => hne (.inr (.inr (.inl h)))
        have n13 : B s k ≠ 13 := fun h => hne (.inr (.inr (.inr h)))
        have t1 : (((B s k : Nat) : Int) == 32) = false := by simp; omega
        have t2 : (((B s k : Nat) : Int) == 9) = false := by simp; omega
        have t3 : (((B s k : Nat) : Int) == 10) = false := by simp; omega
        have t4 : (((B s k : Nat) : Int) == 13) = false := by simp; omega
        have K1 := Lib.hid (fun W => begins_ref s ⟨#[47, 47]⟩ k W hs (by omega) (by decide) (by decide))
        have K2 := Lib.hid (fun W => begins_ref s ⟨#[47, 42]⟩ k W hs (by omega) (by decide) (by decide))
        rw [show (⟨#[47, 47]⟩ : ByteArray).data.toList = [47, 47] from rfl] at K1
        rw [show (⟨#[47, 42]⟩ : ByteArray).data.toList = [47, 42] from rfl] at K2
        have o1 := occ_two s k 47 47
        have o2 := occ_two s k 47 42
        cases h1 : occ s k [47, 47] with
        | true =>
          rw [h1] at K1
          have ⟨e1, e2⟩ := o1.1 h1
          have G := Lib.hid (skip_go hlt (show skipStep s k = some (lineE s k) by unfold skipStep; rw [if_neg (by simp [hbl]), if_pos ⟨e1, e2⟩]))
          have hkl := (skip_bd hlt (show skipStep s k = some (lineE s k) by unfold skipStep; rw [if_neg (by simp [hbl]), if_pos ⟨e1, e2⟩])).1
          clear hne n32 n9 n10 n13 o1 o2 K2 hbl h1 e1 e2
          generalize hbb : B s k = b at *
          clear hbb
          go_wp2_with fail
          refine (K1.out _).mono ?_
          rintro e w1 ⟨rfl, rfl⟩
          go_wp2_with fail
          go_loop [1] (fun v => ∃ j : Nat, k ≤ j ∧ j ≤ s.size ∧ v = .int .i64 j ∧ lineE s j = lineE s k) (fun v => s.size - (intOf v).toNat)
          case atStart => exact ⟨k, by omega, hk, rfl, rfl⟩
          case round =>
            obtain ⟨j, hj1, hj, rfl, hl⟩ := hrel
            by_cases hjl : j < s.size
            · have hbj := B_at s j hjl
              by_cases h10 : B s j = 10
              · have HL := Lib.hid (hl.symm.trans (line_stop (fun h => h.2 h10)))
                have hkj : k < j := by have := HL.out; omega
                clear hl
                rw [h10] at hbj
                clear h10
                go_wp2_with fail
                go_round
                case rel => exact ⟨j, by omega, hj, rfl, by rw [← HC.out, G.out, HL.out]⟩
                case measure => simp [intOf]; omega
              · have t5 : (((B s j : Nat) : Int) != 10) = true := by simp; omega
                have HL := Lib.hid ((line_go hjl h10).symm.trans hl)
                clear hl h10
                go_wp2_with fail
                go_round
                case rel => exact ⟨j + 1, by omega, by omega, by go_num, HL.out⟩
                case measure => simp [intOf]; omega
            · obtain rfl : j = s.size := by omega
              have HL := Lib.hid (hl.symm.trans (line_stop (fun h => hjl h.1)))
              clear hl
              go_wp2_with fail
              go_round
              case rel => exact ⟨s.size, by omega, hj, rfl, by rw [← HC.out, G.out, HL.out]⟩
              case measure => simp [intOf]; omega
        | false =>
          rw [h1] at K1
          have n1 : ¬ (B s k = 47 ∧ B s (k + 1) = 47) := fun h => Bool.false_ne_true (h1.symm.trans (o1.2 h))
          cases h2 : occ s k [47, 42] with
          | true =>
            rw [h2] at K2
            have h2' := o2.1 h2
            have hk2 := occ_fit s [47, 42] k (by decide) h2 hk
            simp only [List.length_cons, List.length_nil] at hk2
            have SS := Lib.hid (show skipStep s k = if closeE s (k + 2) < s.size then some (closeE s (k + 2) + 2) else none by
              unfold skipStep
              rw [if_neg (by simp [hbl]), if_neg n1]
              by_cases hcl : closeE s (k + 2) < s.size
              · rw [if_pos ⟨h2'.1, h2'.2, hcl⟩, if_pos hcl]
              · rw [if_neg (fun h => hcl h.2.2), if_neg hcl])
            clear hne n32 n9 n10 n13 o1 o2 hbl h1 h2 h2' n1
            generalize hbb : B s k = b at *
            clear hbb
            go_wp2_with fail
            refine (K1.out _).mono ?_
            rintro e w1 ⟨rfl, rfl⟩
            go_wp2_with fail
            refine (K2.out _).mono ?_
            rintro e w1 ⟨rfl, rfl⟩
            go_wp2_with fail
            go_loop [5] (fun v => ∃ j : Nat, k + 2 ≤ j ∧ j ≤ s.size ∧ v = .int .i64 j ∧ closeE s j = closeE s (k + 2)) (fun v => s.size - (intOf v).toNat)
            case atStart => exact ⟨k + 2, by omega, by omega, by go_num, rfl⟩
            case round =>
              obtain ⟨j, hj1, hj, rfl, hl⟩ := hrel
              by_cases hjl : j < s.size
              · have K3 := Lib.hid (fun W => begins_ref s ⟨#[42, 47]⟩ j W hs (by omega) (by decide) (by decide))
                rw [show (⟨#[42, 47]⟩ : ByteArray).data.toList = [42, 47] from rfl] at K3
                have o3 := occ_two s j 42 47
                cases h3 : occ s j [42, 47] with
                | true =>
                  rw [h3] at K3
                  have hf := occ_fit s [42, 47] j (by decide) h3 hj
                  simp only [List.length_cons, List.length_nil] at hf
                  have HL := Lib.hid (hl.symm.trans (close_here (o3.1 h3)))
                  have G := Lib.hid (skip_go hlt (show skipStep s k = some (j + 2) by rw [SS.out, HL.out, if_pos hjl]))
                  have tg : decide (s.size ≤ j) = false := by simp; omega
                  clear hl o3 h3
                  go_wp2_with fail
                  refine (K3.out _).mono ?_
                  rintro e w1 ⟨rfl, rfl⟩
                  go_wp2_with fail
                  go_round
                  case rel => exact ⟨j + 2, by omega, by omega, by go_num, by rw [← HC.out, G.out]⟩
                  case measure => simp [intOf]; omega
                | false =>
                  rw [h3] at K3
                  have HL := Lib.hid ((close_go hjl (fun h => Bool.false_ne_true (h3.symm.trans (o3.2 h)))).symm.trans hl)
                  clear hl o3 h3
                  go_wp2_with fail
                  refine (K3.out _).mono ?_
                  rintro e w1 ⟨rfl, rfl⟩
                  go_wp2_with fail
                  go_round
                  case rel => exact ⟨j + 1, by omega, by omega, by go_num, HL.out⟩
                  case measure => simp [intOf]; omega
              · obtain rfl : j = s.size := by omega
                have HL := Lib.hid (hl.symm.trans (close_end (Nat.le_refl _)))
                have G := Lib.hid (skip_stop (show skipStep s k = none by rw [SS.out, HL.out, if_neg (by omega)]))
                clear hl
                go_wp2_with fail
                go_ret
                exact ⟨ret_int (by rw [← HC.out, G.out]), rfl⟩
          | false =>
            rw [h2] at K2
            have G := Lib.hid (skip_stop (show skipStep s k = none by
              unfold skipStep
              rw [if_neg (by simp [hbl]), if_neg n1, if_neg (fun h => Bool.false_ne_true (h2.symm.trans (o2.2 ⟨h.1, h.2.1⟩)))]))
            clear hne n32 n9 n10 n13 o1 o2 hbl h1 h2 n1
            generalize hbb : B s k = b at *
            clear hbb
            go_wp2_with fail
            refine (K1.out _).mono ?_
            rintro e w1 ⟨rfl, rfl⟩
            go_wp2_with fail
            refine (K2.out _).mono ?_
            rintro e w1 ⟨rfl, rfl⟩
            go_wp2_with fail
            go_ret
            exact ⟨ret_int (by rw [← HC.out, G.out]), rfl⟩
    · obtain rfl : k = s.size := by omega
      have G := Lib.hid (skip_end (Nat.le_refl s.size))
      go_wp2_with fail
      go_ret
      exact ⟨ret_int (by rw [← HC.out, G.out]), rfl⟩
end Go.Proofs.YtlgklkokadbpeaaDoor
