import Derived.Test.YteghbblbkljdhaaDoorSoE
import Derived.BigQuiet
namespace Go.Proofs.YteghbblbkljdhaaDoor
open Go.RowKit
theorem rot_seg {α : Type} (N : Nat) : ∀ (s i j m : Nat) (f : Nat → α), i + j ≤ s → 0 < i → 0 < j → i ≤ m → m + j ≤ N → Seg N (m - i) (m + j) f (rot f (m - i) m (m + j)) := by
  intro s
  induction s with
  | zero => intro i j m f h hi; omega
  | succ s ih =>
    intro i j m f h hi hj him hmj
    rcases Nat.lt_trichotomy i j with hij | hij | hij
    · rw [← rot_right f m i j him hij]
      have h1 : Seg N (m - i) (m + j) f (swr f (m - i) (m + j - i) i) := swr_seg f N (m - i) (m + j - i) i (by omega) (by omega) (by omega) (by omega) hmj i (Nat.le_refl _)
      exact h1.trans ((ih i (j - i) m (swr f (m - i) (m + j - i) i) (by omega) hi (by omega) him (by omega)).widen (Nat.le_refl _) (by omega))
    · subst hij
      rw [rot_end f m i him]
      exact swr_seg f N (m - i) m i (by omega) (by omega) (by omega) (by omega) hmj i (Nat.le_refl _)
    · rw [← rot_left f m i j him hij]
      have h1 : Seg N (m - i) (m + j) f (swr f (m - i) m j) := swr_seg f N (m - i) m j (by omega) (by omega) (by omega) (by omega) hmj j (Nat.le_refl _)
      exact h1.trans ((ih (i - j) j m (swr f (m - i) m j) (by omega) (by omega) hj (by omega) hmj).widen (by omega) (Nat.le_refl _))
set_option maxRecDepth 100000 in
set_option maxHeartbeats 4000000 in
/-- rotate: what stands from a up to m behind what stands from m up to b. -/
theorem rotate_ok (g N c a m b : Nat) (f : Nat → DiagD) (fv : Value) (w : World) (h : Row w g N f) (ham : a < m) (hmb : m < b) (hb : b ≤ N) (hN : N ≤ 1000000) (hc : N ≤ c) :
    Calls Tryd.prog 82 #[.slice (some ⟨g, 0, none⟩) N c, .int .i64 a, .int .i64 m, .int .i64 b, fv] w fun e w' => e = .returned (.tuple #[]) ∧ Row w' g N (rot f a m b) ∧ Kp (fun k => k ≠ g) w w' := by
  have HR := Lib.hid h
  clear h
  go_enter Tryd.func82, Tryd.ntmps82
  go_wp2_with fail
  go_loopw [10, 11] (fun v u wr => ∃ (i j : Nat) (f' : Nat → DiagD), 0 < i ∧ 0 < j ∧ i ≤ m - a ∧ j ≤ b - m ∧ v = .int .i64 i ∧ u = .int .i64 j ∧ Row wr g N f' ∧ rot f' (m - i) m (m + j) = rot f a m b ∧ Kp (fun k => k ≠ g) w wr) (fun v u _ => (intOf v).toNat + (intOf u).toNat)
  case atStart => exact ⟨m - a, b - m, f, by omega, by omega, by omega, by omega, by go_num, by go_num, HR.out, by rw [show m - (m - a) = a by omega, show m + (b - m) = b by omega], Kp.refl _ _⟩
  case round =>
    obtain ⟨i, j, f', hi, hj, hi2, hj2, rfl, rfl, hr, hrot, hk⟩ := hrel
    have HRi := Lib.hid hr
    have HK := Lib.hid hk
    have HT := Lib.hid hrot
    clear hk hr hrot
    rcases Nat.lt_trichotomy i j with hij | hij | hij
    · have t1 : ((i : Int) != (j : Int)) = true := by simp; omega
      have t2 : decide ((j : Int) < (i : Int)) = false := by simp; omega
      have t3 : decide (j < i) = false := by simp; omega
      have HL := Lib.hid hij
      clear hij
      go_wp2_with (go_at_call 92; refine (swapr_i (a := m - i) (b := m + j - i) (n := i) HRi.out (by have := HL.out; omega) (by have := HL.out; omega) hN hc _ _ _ _ (by omega) (by have := HL.out; omega) (by omega)).mono ?_; rintro e w2 ⟨rfl, hr2, hk2⟩; have HR2 := Lib.hid hr2; have HK2 := Lib.hid hk2; clear hr2 hk2)
      have hlt := HL.out
      exact ⟨⟨i, j - i, _, hi, by omega, hi2, by omega, rfl, by go_num, HR2.out, (rot_right f' m i j (by omega) hlt).trans HT.out, HK.out.trans HK2.out⟩, by simp [intOf]; omega⟩
    · subst hij
      have t1 : ((i : Int) != (i : Int)) = false := by simp
      go_wp2_with (go_at_call 92; refine (swapr_i (a := m - i) (b := m) (n := i) HRi.out (by omega) (by omega) hN hc _ _ _ _ (by omega) (by omega) (by omega)).mono ?_; rintro e w2 ⟨rfl, hr2, hk2⟩; have HR2 := Lib.hid hr2; have HK2 := Lib.hid hk2; clear hr2 hk2)
      refine bodyPost_end (v := .tuple #[]) (by simp [results, Tryd.results82, go_sem]) rfl ⟨rfl, ?_, HK.out.trans HK2.out⟩
      have h1 := HR2.out
      rw [← rot_end f' m i (by omega), HT.out] at h1
      exact h1
    · have t1 : ((i : Int) != (j : Int)) = true := by simp; omega
      have t2 : decide ((j : Int) < (i : Int)) = true := by simp; omega
      have t3 : decide (j < i) = true := by simp; omega
      have HL := Lib.hid hij
      clear hij
      go_wp2_with (go_at_call 92; refine (swapr_i (a := m - i) (b := m) (n := j) HRi.out (by have := HL.out; omega) (by omega) hN hc _ _ _ _ (by omega) (by omega) (by omega)).mono ?_; rintro e w2 ⟨rfl, hr2, hk2⟩; have HR2 := Lib.hid hr2; have HK2 := Lib.hid hk2; clear hr2 hk2)
      have hlt := HL.out
      exact ⟨⟨i - j, j, _, by omega, hj, by omega, hj2, by go_num, rfl, HR2.out, (rot_left f' m i j (by omega) hlt).trans HT.out, HK.out.trans HK2.out⟩, by simp [intOf]; omega⟩
theorem rotate_i {g N c a m b : Nat} {f : Nat → DiagD} {w : World} (h : Row w g N f) (ham : a < m) (hmb : m < b) (hb : b ≤ N) (hN : N ≤ 1000000) (hc : N ≤ c) (x y z : Int) (fv : Value) (hx : x = a) (hy : y = m) (hz : z = b) :
    Calls Tryd.prog 82 #[.slice (some ⟨g, 0, none⟩) N c, .int .i64 x, .int .i64 y, .int .i64 z, fv] w fun e w' => e = .returned (.tuple #[]) ∧ Row w' g N (rot f a m b) ∧ Seg N a b f (rot f a m b) ∧ Kp (fun k => k ≠ g) w w' := by
  subst hx hy hz
  refine (rotate_ok g N c a m b f fv w h ham hmb hb hN hc).mono ?_
  rintro e w' ⟨he, hr, hk⟩
  refine ⟨he, hr, ?_, hk⟩
  have h1 := rot_seg N (b - a) (m - a) (b - m) m f (by omega) (by omega) (by omega) (by omega) (by omega)
  rw [show m - (m - a) = a by omega, show m + (b - m) = b by omega] at h1
  exact h1
end Go.Proofs.YteghbblbkljdhaaDoor
