import Derived.Test.YtogoolpgajopcaaTrFt
import Derived.Test.YtogoolpgajopcaaTrFr
namespace Go.Proofs.Ytogoolpgajopcaa
open Go.RowKit
theorem runN_cons (K : Int) (x : Inf) (l : List Inf) : runN K (x :: l) = if x.kind == K then runN K l + 1 else 0 := by
  unfold runN
  rw [List.takeWhile_cons]
  split <;> simp_all
set_option maxRecDepth 100000 in
set_option maxHeartbeats 2000000 in
theorem run_any (F : Fo) (K : Int) (i : Nat) (A : Option Addr) (c : Nat) (w : World) (hH : Holds w w.heap.size F A 0) (hi : i ≤ F.len) (hl : F.len ≤ 1000000000000000) :
    Calls Try.prog 82 #[.slice A F.len c, .int .i64 i, .int .i64 K] w fun e w' => e = .returned (.int .i64 (runN K (F.inf.drop i))) ∧ w = w' := by
  have HH := Lib.hid hH
  clear hH
  go_enter Try.func82, Try.ntmps82
  go_wp2_with fail
  go_loop [7] (fun v => ∃ j : Nat, i + j ≤ F.len ∧ v = .int .i64 j ∧ runN K (F.inf.drop (i + j)) + j = runN K (F.inf.drop i)) (fun v => F.len - i - (intOf v).toNat)
  case atStart => exact ⟨0, by omega, by go_num, by simp⟩
  case round =>
    obtain ⟨j, hj, rfl, hr⟩ := hrel
    have HR := Lib.hid hr
    clear hr
    by_cases hlt : i + j < F.len
    case neg =>
      have hil : F.inf.drop (i + j) = [] := List.eq_nil_of_length_eq_zero (by simp [inf_len]; omega)
      have HE : Hid (((j : Nat) : Int) = (runN K (F.inf.drop i) : Nat)) := Lib.hid (by rw [← HR.out, hil]; simp [runN])
      have tl : decide ((i : Int) + (j : Int) < (F.len : Int)) = false := by simp; omega
      clear hil hlt
      go_wp2_with fail
      go_ret
      exact ⟨ret_int HE.out, rfl⟩
    obtain ⟨k1, t1, n1, m1, a1, Q1, ad, A1, d1, R1, rfl, hd1, hR1, hP1⟩ := part_at HH.out hlt
    have h0 := (hP1.cells w (Below.refl _ _)).1
    have tl : decide ((i : Int) + (j : Int) < (F.len : Int)) = true := by simp; omega
    rw [hd1, runN_cons, hR1] at HR
    clear hd1 hR1 hP1
    by_cases hk : k1 = K
    · have tk : (k1 == K) = true := by simpa using hk
      have HE : Hid (runN K (F.inf.drop (i + (j + 1))) + (j + 1) = runN K (F.inf.drop i)) := Lib.hid (by
        rw [← HR.out, show (mk k1 t1 n1 m1 Q1.inf).kind = k1 from rfl, tk, if_pos rfl, Nat.add_assoc i j 1]; omega)
      clear HR hk
      go_wp2_with fail
      go_round
      case rel => exact ⟨j + 1, by omega, by go_num, HE.out⟩
      case measure => simp [intOf]; omega
    · have tk : (k1 == K) = false := beq_eq_false_iff_ne.2 hk
      have HE : Hid (((j : Nat) : Int) = (runN K (F.inf.drop i) : Nat)) := Lib.hid (by
        rw [← HR.out, show (mk k1 t1 n1 m1 Q1.inf).kind = k1 from rfl, tk, if_neg (by simp)]; simp)
      clear HR hk
      go_wp2_with fail
      go_ret
      exact ⟨ret_int HE.out, rfl⟩
end Go.Proofs.Ytogoolpgajopcaa
