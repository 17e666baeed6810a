import Derived.Test.YteghbblbkljdhaaDoorSoD
import Derived.RegionTactic
namespace Go.Proofs.YteghbblbkljdhaaDoor
open Go.RowKit
theorem Row.drew {w : World} {g n : Nat} {f : Nat → DiagD} (h : Row w g n f) : Row w.drew g n f := ⟨h.c0, h.c1, h.c2, h.c3, h.fz⟩
theorem Kp.drew {K : Nat → Prop} {a w : World} (h : Kp K a w) : Kp K a w.drew := ⟨h.os, h.tape, h.output, h.size, h.block⟩
theorem swap_kp (w : World) (g i j : Nat) (d e : DiagD) : Kp (fun k => k ≠ g) w (set4 (set4 w g i d) g j e) := (set4_kp w (fun h => h rfl) i d).trans (set4_kp _ (fun h => h rfl) j e)
set_option maxRecDepth 100000 in
set_option maxHeartbeats 2000000 in
/-- swapRange: n places from a on for those from b on. -/
theorem swapr (g N c a b n : Nat) (f : Nat → DiagD) (fv : Value) (w : World) (h : Row w g N f) (hab : a + n ≤ b) (hb : b + n ≤ N) (hN : N ≤ 1000000) (_hc : N ≤ c) :
    Calls Tryd.prog 92 #[.slice (some ⟨g, 0, none⟩) N c, .int .i64 a, .int .i64 b, .int .i64 n, fv] w fun e w' => e = .returned (.tuple #[]) ∧ Row w' g N (swr f a b n) ∧ Kp (fun k => k ≠ g) w w' := by
  have HR := Lib.hid h
  clear h
  go_enter Tryd.func92, Tryd.ntmps92
  go_wp2_with fail
  go_loopw [10] (fun v wr => ∃ i : Nat, i ≤ n ∧ v = .int .i64 i ∧ Row wr g N (swr f a b i) ∧ Kp (fun k => k ≠ g) w wr) (fun v _ => n - (intOf v).toNat)
  case atStart => exact ⟨0, by omega, rfl, by rw [swr_start]; exact HR.out, Kp.refl _ _⟩
  case round =>
    obtain ⟨i, hi, rfl, hr, hk⟩ := hrel
    have HRi := Lib.hid hr
    have HK := Lib.hid hk
    clear hk
    by_cases hlt : i < n
    case neg =>
      obtain rfl : i = n := by omega
      have tl : decide ((i : Int) < (i : Int)) = false := by simp
      clear hlt hr
      go_wp2_with fail
      exact bodyPost_end (v := .tuple #[]) (by simp [results, Tryd.results92, go_sem]) rfl ⟨rfl, HRi.out, HK.out⟩
    have tl : decide ((i : Int) < (n : Int)) = true := by simp; omega
    have a0 := hr.c0 (a + i) (by omega)
    have a1 := hr.c1 (a + i) (by omega)
    have a2 := hr.c2 (a + i) (by omega)
    have a3 := hr.c3 (a + i) (by omega)
    have b0 := hr.c0 (b + i) (by omega)
    have b1 := hr.c1 (b + i) (by omega)
    have b2 := hr.c2 (b + i) (by omega)
    have b3 := hr.c3 (b + i) (by omega)
    have fz := hr.fz
    clear hr
    go_wp2_with fail
    go_region
    go_wp2_with fail
    exact ⟨⟨i + 1, by omega, by go_num, by rw [← swr_step f a b n i hab hlt]; exact (HRi.out.swap (by omega) (by omega) (by omega)).drew, (HK.out.trans (swap_kp wr g _ _ _ _)).drew⟩, by simp [intOf]; omega⟩
/-- The same, its numbers as the walk spells them. -/
theorem swapr_i {g N c a b n : Nat} {f : Nat → DiagD} {w : World} (h : Row w g N f) (hab : a + n ≤ b) (hb : b + n ≤ N) (hN : N ≤ 1000000) (hc : N ≤ c) (x y z : Int) (fv : Value) (hx : x = a) (hy : y = b) (hz : z = n) :
    Calls Tryd.prog 92 #[.slice (some ⟨g, 0, none⟩) N c, .int .i64 x, .int .i64 y, .int .i64 z, fv] w fun e w' => e = .returned (.tuple #[]) ∧ Row w' g N (swr f a b n) ∧ Kp (fun k => k ≠ g) w w' := by
  subst hx hy hz
  exact swapr g N c a b n f fv w h hab hb hN hc
end Go.Proofs.YteghbblbkljdhaaDoor
