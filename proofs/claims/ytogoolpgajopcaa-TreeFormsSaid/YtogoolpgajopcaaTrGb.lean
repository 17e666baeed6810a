import Derived.Test.YtogoolpgajopcaaTrFs
import Derived.StillTailTactics
namespace Go.Proofs.Ytogoolpgajopcaa
open Go.RowKit
set_option maxRecDepth 100000 in
set_option maxHeartbeats 8000000 in
theorem class_any (P : Fo) (k : Int) (t : ByteArray) (n m a : Int) (A : Option Addr) (c : Nat) {g B : Nat} (W : World) (hW : Wk g 0 P A c B W) (hlc : P.len ≤ c) (hcc : c ≤ 1000000000000000) :
    Calls Try.prog 80 #[.agg #[.int .i64 k, .string t, .int .i64 n, .int .i64 m, .int .i64 a, .slice A P.len c], .pointer (some ⟨g, 0, none⟩)] W fun e w' => e = .returned (.bool (classD n P.inf)) ∧ Below B W w' := by
  have hl : P.len ≤ 1000000000000000 := by omega
  obtain ⟨y, hy⟩ : ∃ y, classD n P.inf = y := ⟨_, rfl⟩
  rw [hy]
  unfold classD at hy
  have HBd : Hid (Below B W (W.alloc (.cells #[.int .i64 k, .string t, .int .i64 n, .int .i64 m, .int .i64 a, .slice A P.len c] 24))) := Lib.hid ((Below.refl _ _).alloc (by have := hW.lt; have := hW.ge; omega) _)
  have HK := Lib.hid (hW.later ((Below.refl W.heap.size W).alloc (Nat.le_refl _) (.cells #[.int .i64 k, .string t, .int .i64 n, .int .i64 m, .int .i64 a, .slice A P.len c] 24)))
  have HY := Lib.hid hy
  clear hy hW
  go_enter Try.func80, Try.ntmps80
  go_wp2_with fail
  refine (times_param P (allPa P) n HK.out (Nat.zero_le _) hlc hcc).mono ?_
  rintro e w2 ⟨b, rfl, hb, hk, hbel⟩
  have HB2 := Lib.hid (HBd.out.trans hbel)
  try simp only [List.drop_zero] at hb
  have HBq := Lib.hid hb
  have HKq := Lib.hid hk
  clear hk hbel hb
  cases b with
  | false =>
    have HZ : Hid (false = y) := Lib.hid (by rw [← HY.out, ← HBq.out]; simp)
    clear HBq HKq HY
    go_wp2_with fail
    go_ret
    exact ⟨ret_bool HZ.out, HB2.out⟩
  | true =>
  have HKn : Hid (Wk g (n.toNat) P A c B w2) := Lib.hid (by first | exact HKq.out rfl | simpa using HKq.out rfl)
  have hin : n.toNat ≤ P.len := by
    have hb := HBq.out
    have := timesB_le hb.symm; simpa [inf_len] using this
  have HYn := Lib.hid (by have h := HY.out; rw [← HBq.out, Bool.true_and] at h; exact h)
  clear HBd HK HY HBq HKq
  have HBd := HB2
  have HK := HKn
  have HY := HYn
  clear HB2 HKn HYn
  generalize n.toNat = i at *
  have c0 := HK.out.c0
  have c1 := HK.out.c1
  by_cases hlt : i < P.len
  case neg =>
    have tl : decide ((i : Int) < (P.len : Int)) = false := by simp; omega
    have tl2 : decide (i < P.len) = false := by simp; omega
    have hil : P.inf.drop i = [] := List.eq_nil_of_length_eq_zero (by simp [inf_len]; omega)
    have HYn : Hid (classT P.inf i = y) := Lib.hid (by have h := HY.out; rw [hil, if_neg (by simp [hd75])] at h; exact h)
    clear HY hil hlt
    have HY := HYn
    clear HYn
    unfold classT at HY
    go_wp2_with fail
    go_quiet (fail)
    have HKn := Lib.hid (HK.out.later (below_drewN (Below.refl _ _) nq))
    have HBn := Lib.hid (below_drewN HBd.out nq)
    clear HK HBd c0 c1
    have HK := HKn
    have HBd := HBn
    clear HKn HBn
    go_wp2_with fail
    refine (while_refers77 P (allRf P) HK.out hin hlc hcc).mono ?_
    rintro e w2 ⟨b, rfl, hb, hk, hbel⟩
    have HB2 := Lib.hid (HBd.out.trans hbel)
    try simp only [List.drop_zero] at hb
    have HBq := Lib.hid hb
    have HKq := Lib.hid hk
    clear hk hbel hb
    cases b with
    | false =>
      have HZ : Hid (false = y) := Lib.hid (by rw [← HY.out, ← HBq.out]; simp)
      clear HBq HKq HY
      go_wp2_with fail
      go_ret
      exact ⟨ret_bool HZ.out, HB2.out⟩
    | true =>
    have HKn : Hid (Wk g (i + runN 77 (P.inf.drop (i))) P A c B w2) := Lib.hid (by first | exact HKq.out rfl | simpa using HKq.out rfl)
    have hin : i + runN 77 (P.inf.drop (i)) ≤ P.len := by
      have hb := HBq.out
      have := runN_le 77 (P.inf.drop (i)); simp only [List.length_drop, inf_len] at this; omega
    have HYn := Lib.hid (by have h := HY.out; rw [← HBq.out, Bool.true_and] at h; exact h)
    clear HBd HK HY HBq HKq
    have HBd := HB2
    have HK := HKn
    have HY := HYn
    clear HB2 HKn HYn
    go_wp2_with fail
    refine (while_holds78 P (allHo P) HK.out hin hlc hcc).mono ?_
    rintro e w2 ⟨b, rfl, hb, hk, hbel⟩
    have HB2 := Lib.hid (HBd.out.trans hbel)
    try simp only [List.drop_zero] at hb
    have HBq := Lib.hid hb
    have HKq := Lib.hid hk
    clear hk hbel hb
    cases b with
    | false =>
      have HZ : Hid (false = y) := Lib.hid (by rw [← HY.out, ← HBq.out]; simp)
      clear HBq HKq HY
      go_wp2_with fail
      go_ret
      exact ⟨ret_bool HZ.out, HB2.out⟩
    | true =>
    have HKn : Hid (Wk g (i + runN 77 (P.inf.drop (i)) + runN 78 (P.inf.drop (i + runN 77 (P.inf.drop (i))))) P A c B w2) := Lib.hid (by first | exact HKq.out rfl | simpa using HKq.out rfl)
    have hin : i + runN 77 (P.inf.drop (i)) + runN 78 (P.inf.drop (i + runN 77 (P.inf.drop (i)))) ≤ P.len := by
      have hb := HBq.out
      have := runN_le 78 (P.inf.drop (i + runN 77 (P.inf.drop (i)))); simp only [List.length_drop, inf_len] at this; omega
    have HYn := Lib.hid (by have h := HY.out; rw [← HBq.out, Bool.true_and] at h; exact h)
    clear HBd HK HY HBq HKq
    have HBd := HB2
    have HK := HKn
    have HY := HYn
    clear HB2 HKn HYn
    go_wp2_with fail
    refine (while_method79 P (allMe P) HK.out hin hlc hcc).mono ?_
    rintro e w2 ⟨b, rfl, hb, hk, hbel⟩
    have HB2 := Lib.hid (HBd.out.trans hbel)
    try simp only [List.drop_zero] at hb
    have HBq := Lib.hid hb
    have HKq := Lib.hid hk
    clear hk hbel hb
    cases b with
    | false =>
      have HZ : Hid (false = y) := Lib.hid (by rw [← HY.out, ← HBq.out]; simp)
      clear HBq HKq HY
      go_wp2_with fail
      go_ret
      exact ⟨ret_bool HZ.out, HB2.out⟩
    | true =>
    have HKn : Hid (Wk g (i + runN 77 (P.inf.drop (i)) + runN 78 (P.inf.drop (i + runN 77 (P.inf.drop (i)))) + runN 79 (P.inf.drop (i + runN 77 (P.inf.drop (i)) + runN 78 (P.inf.drop (i + runN 77 (P.inf.drop (i))))))) P A c B w2) := Lib.hid (by first | exact HKq.out rfl | simpa using HKq.out rfl)
    have hin : i + runN 77 (P.inf.drop (i)) + runN 78 (P.inf.drop (i + runN 77 (P.inf.drop (i)))) + runN 79 (P.inf.drop (i + runN 77 (P.inf.drop (i)) + runN 78 (P.inf.drop (i + runN 77 (P.inf.drop (i)))))) ≤ P.len := by
      have hb := HBq.out
      have := runN_le 79 (P.inf.drop (i + runN 77 (P.inf.drop (i)) + runN 78 (P.inf.drop (i + runN 77 (P.inf.drop (i)))))); simp only [List.length_drop, inf_len] at this; omega
    have HYn := Lib.hid (by have h := HY.out; rw [← HBq.out, Bool.true_and] at h; exact h)
    clear HBd HK HY HBq HKq
    have HBd := HB2
    have HK := HKn
    have HY := HYn
    clear HB2 HKn HYn
    go_wp2_with fail
    refine (done_any HK.out).mono ?_
    rintro e w2 ⟨rfl, hbel⟩
    have HB2 := Lib.hid (HBd.out.trans hbel)
    have HYn : Hid (decide (i + runN 77 (P.inf.drop (i)) + runN 78 (P.inf.drop (i + runN 77 (P.inf.drop (i)))) + runN 79 (P.inf.drop (i + runN 77 (P.inf.drop (i)) + runN 78 (P.inf.drop (i + runN 77 (P.inf.drop (i)))))) = P.len) = y) := Lib.hid (by have h := HY.out; rw [inf_len] at h; exact h)
    clear hbel HY
    generalize decide (i + runN 77 (P.inf.drop (i)) + runN 78 (P.inf.drop (i + runN 77 (P.inf.drop (i)))) + runN 79 (P.inf.drop (i + runN 77 (P.inf.drop (i)) + runN 78 (P.inf.drop (i + runN 77 (P.inf.drop (i)))))) = P.len) = z at *
    go_wp2_with fail
    go_ret
    exact ⟨ret_bool HYn.out, HB2.out⟩
  obtain ⟨k1, t1, n1, m1, a1, Q1, ad, A1, d1, R1, rfl, hd1, hR1, hP1⟩ := part_at (HK.out.hold.more (by have := HK.out.lt; have := HK.out.ge; omega)) (j := i) hlt
  have h0 := (hP1.cells _ (Below.refl _ _)).1
  have tl : decide ((i : Int) < (P.len : Int)) = true := by simp; omega
  have tl2 : decide (i < P.len) = true := by simp; omega
  by_cases hk : k1 = 75
  case neg =>
    have tk : (k1 == 75) = false := beq_eq_false_iff_ne.2 hk
    have HYn : Hid (classT P.inf i = y) := Lib.hid (by have h := HY.out; rw [hd1, if_neg (by simp [hd75, mk, hk])] at h; exact h)
    clear HY hk hd1 hR1 hP1
    have HY := HYn
    clear HYn
    unfold classT at HY
    go_wp2_with fail
    go_quiet (fail)
    have HKn := Lib.hid (HK.out.later (below_drewN (Below.refl _ _) nq))
    have HBn := Lib.hid (below_drewN HBd.out nq)
    clear HK HBd c0 c1 h0
    have HK := HKn
    have HBd := HBn
    clear HKn HBn
    go_wp2_with fail
    refine (while_refers77 P (allRf P) HK.out hin hlc hcc).mono ?_
    rintro e w2 ⟨b, rfl, hb, hk, hbel⟩
    have HB2 := Lib.hid (HBd.out.trans hbel)
    try simp only [List.drop_zero] at hb
    have HBq := Lib.hid hb
    have HKq := Lib.hid hk
    clear hk hbel hb
    cases b with
    | false =>
      have HZ : Hid (false = y) := Lib.hid (by rw [← HY.out, ← HBq.out]; simp)
      clear HBq HKq HY
      go_wp2_with fail
      go_ret
      exact ⟨ret_bool HZ.out, HB2.out⟩
    | true =>
    have HKn : Hid (Wk g (i + runN 77 (P.inf.drop (i))) P (some ad) c B w2) := Lib.hid (by first | exact HKq.out rfl | simpa using HKq.out rfl)
    have hin : i + runN 77 (P.inf.drop (i)) ≤ P.len := by
      have hb := HBq.out
      have := runN_le 77 (P.inf.drop (i)); simp only [List.length_drop, inf_len] at this; omega
    have HYn := Lib.hid (by have h := HY.out; rw [← HBq.out, Bool.true_and] at h; exact h)
    clear HBd HK HY HBq HKq
    have HBd := HB2
    have HK := HKn
    have HY := HYn
    clear HB2 HKn HYn
    go_wp2_with fail
    refine (while_holds78 P (allHo P) HK.out hin hlc hcc).mono ?_
    rintro e w2 ⟨b, rfl, hb, hk, hbel⟩
    have HB2 := Lib.hid (HBd.out.trans hbel)
    try simp only [List.drop_zero] at hb
    have HBq := Lib.hid hb
    have HKq := Lib.hid hk
    clear hk hbel hb
    cases b with
    | false =>
      have HZ : Hid (false = y) := Lib.hid (by rw [← HY.out, ← HBq.out]; simp)
      clear HBq HKq HY
      go_wp2_with fail
      go_ret
      exact ⟨ret_bool HZ.out, HB2.out⟩
    | true =>
    have HKn : Hid (Wk g (i + runN 77 (P.inf.drop (i)) + runN 78 (P.inf.drop (i + runN 77 (P.inf.drop (i))))) P (some ad) c B w2) := Lib.hid (by first | exact HKq.out rfl | simpa using HKq.out rfl)
    have hin : i + runN 77 (P.inf.drop (i)) + runN 78 (P.inf.drop (i + runN 77 (P.inf.drop (i)))) ≤ P.len := by
      have hb := HBq.out
      have := runN_le 78 (P.inf.drop (i + runN 77 (P.inf.drop (i)))); simp only [List.length_drop, inf_len] at this; omega
    have HYn := Lib.hid (by have h := HY.out; rw [← HBq.out, Bool.true_and] at h; exact h)
    clear HBd HK HY HBq HKq
    have HBd := HB2
    have HK := HKn
    have HY := HYn
    clear HB2 HKn HYn
    go_wp2_with fail
    refine (while_method79 P (allMe P) HK.out hin hlc hcc).mono ?_
    rintro e w2 ⟨b, rfl, hb, hk, hbel⟩
    have HB2 := Lib.hid (HBd.out.trans hbel)
    try simp only [List.drop_zero] at hb
    have HBq := Lib.hid hb
    have HKq := Lib.hid hk
    clear hk hbel hb
    cases b with
    | false =>
      have HZ : Hid (false = y) := Lib.hid (by rw [← HY.out, ← HBq.out]; simp)
      clear HBq HKq HY
      go_wp2_with fail
      go_ret
      exact ⟨ret_bool HZ.out, HB2.out⟩
    | true =>
    have HKn : Hid (Wk g (i + runN 77 (P.inf.drop (i)) + runN 78 (P.inf.drop (i + runN 77 (P.inf.drop (i)))) + runN 79 (P.inf.drop (i + runN 77 (P.inf.drop (i)) + runN 78 (P.inf.drop (i + runN 77 (P.inf.drop (i))))))) P (some ad) c B w2) := Lib.hid (by first | exact HKq.out rfl | simpa using HKq.out rfl)
    have hin : i + runN 77 (P.inf.drop (i)) + runN 78 (P.inf.drop (i + runN 77 (P.inf.drop (i)))) + runN 79 (P.inf.drop (i + runN 77 (P.inf.drop (i)) + runN 78 (P.inf.drop (i + runN 77 (P.inf.drop (i)))))) ≤ P.len := by
      have hb := HBq.out
      have := runN_le 79 (P.inf.drop (i + runN 77 (P.inf.drop (i)) + runN 78 (P.inf.drop (i + runN 77 (P.inf.drop (i)))))); simp only [List.length_drop, inf_len] at this; omega
    have HYn := Lib.hid (by have h := HY.out; rw [← HBq.out, Bool.true_and] at h; exact h)
    clear HBd HK HY HBq HKq
    have HBd := HB2
    have HK := HKn
    have HY := HYn
    clear HB2 HKn HYn
    go_wp2_with fail
    refine (done_any HK.out).mono ?_
    rintro e w2 ⟨rfl, hbel⟩
    have HB2 := Lib.hid (HBd.out.trans hbel)
    have HYn : Hid (decide (i + runN 77 (P.inf.drop (i)) + runN 78 (P.inf.drop (i + runN 77 (P.inf.drop (i)))) + runN 79 (P.inf.drop (i + runN 77 (P.inf.drop (i)) + runN 78 (P.inf.drop (i + runN 77 (P.inf.drop (i)))))) = P.len) = y) := Lib.hid (by have h := HY.out; rw [inf_len] at h; exact h)
    clear hbel HY
    generalize decide (i + runN 77 (P.inf.drop (i)) + runN 78 (P.inf.drop (i + runN 77 (P.inf.drop (i)))) + runN 79 (P.inf.drop (i + runN 77 (P.inf.drop (i)) + runN 78 (P.inf.drop (i + runN 77 (P.inf.drop (i)))))) = P.len) = z at *
    go_wp2_with fail
    go_ret
    exact ⟨ret_bool HYn.out, HB2.out⟩
  subst hk
  have HYn : Hid ((timesB (·.base) (P.inf.drop i) 1 && classT P.inf (i + 1)) = y) := Lib.hid (by have h := HY.out; rw [if_pos (by rw [hd1]; simp [hd75, mk])] at h; exact h)
  clear HY hd1 hR1 hP1
  have HY := HYn
  clear HYn
  have tk : ((75 : Int) == 75) = true := rfl
  have HKn := Lib.hid (HK.out.later (Below.drew (Below.refl _ _)))
  have HBn := Lib.hid (Below.drew HBd.out)
  clear HK HBd
  have HK := HKn
  have HBd := HBn
  clear HKn HBn
  go_wp2_with fail
  go_still_tail 28, (by kernel_rfl)
  change wpList _ _ _ _ _ w2.drew
  clear c0 c1 h0
  generalize w2.drew = w3 at *
  go_wp2_with fail
  refine (times_base P (allBa P) 1 HK.out (by omega) hlc hcc).mono ?_
  rintro e w2 ⟨b, rfl, hb, hk, hbel⟩
  have HB2 := Lib.hid (HBd.out.trans hbel)
  try simp only [List.drop_zero] at hb
  have HBq := Lib.hid hb
  have HKq := Lib.hid hk
  clear hk hbel hb
  cases b with
  | false =>
    have HZ : Hid (false = y) := Lib.hid (by rw [← HY.out, ← HBq.out]; simp)
    clear HBq HKq HY
    go_wp2_with fail
    go_ret
    exact ⟨ret_bool HZ.out, HB2.out⟩
  | true =>
  have HKn : Hid (Wk g (i + 1) P (some ad) c B w2) := Lib.hid (by first | exact HKq.out rfl | simpa using HKq.out rfl)
  have hin : i + 1 ≤ P.len := by
    have hb := HBq.out
    have := timesB_le hb.symm; simp only [List.length_drop, inf_len] at this; simp at this; omega
  have HYn := Lib.hid (by have h := HY.out; rw [← HBq.out, Bool.true_and] at h; exact h)
  clear HBd HK HY HBq HKq
  have HBd := HB2
  have HK := HKn
  have HY := HYn
  clear HB2 HKn HYn
  unfold classT at HY
  go_wp2_with fail
  refine (while_refers77 P (allRf P) HK.out hin hlc hcc).mono ?_
  rintro e w2 ⟨b, rfl, hb, hk, hbel⟩
  have HB2 := Lib.hid (HBd.out.trans hbel)
  try simp only [List.drop_zero] at hb
  have HBq := Lib.hid hb
  have HKq := Lib.hid hk
  clear hk hbel hb
  cases b with
  | false =>
    have HZ : Hid (false = y) := Lib.hid (by rw [← HY.out, ← HBq.out]; simp)
    clear HBq HKq HY
    go_wp2_with fail
    go_ret
    exact ⟨ret_bool HZ.out, HB2.out⟩
  | true =>
  have HKn : Hid (Wk g (i + 1 + runN 77 (P.inf.drop (i + 1))) P (some ad) c B w2) := Lib.hid (by first | exact HKq.out rfl | simpa using HKq.out rfl)
  have hin : i + 1 + runN 77 (P.inf.drop (i + 1)) ≤ P.len := by
    have hb := HBq.out
    have := runN_le 77 (P.inf.drop (i + 1)); simp only [List.length_drop, inf_len] at this; omega
  have HYn := Lib.hid (by have h := HY.out; rw [← HBq.out, Bool.true_and] at h; exact h)
  clear HBd HK HY HBq HKq
  have HBd := HB2
  have HK := HKn
  have HY := HYn
  clear HB2 HKn HYn
  go_wp2_with fail
  refine (while_holds78 P (allHo P) HK.out hin hlc hcc).mono ?_
  rintro e w2 ⟨b, rfl, hb, hk, hbel⟩
  have HB2 := Lib.hid (HBd.out.trans hbel)
  try simp only [List.drop_zero] at hb
  have HBq := Lib.hid hb
  have HKq := Lib.hid hk
  clear hk hbel hb
  cases b with
  | false =>
    have HZ : Hid (false = y) := Lib.hid (by rw [← HY.out, ← HBq.out]; simp)
    clear HBq HKq HY
    go_wp2_with fail
    go_ret
    exact ⟨ret_bool HZ.out, HB2.out⟩
  | true =>
  have HKn : Hid (Wk g (i + 1 + runN 77 (P.inf.drop (i + 1)) + runN 78 (P.inf.drop (i + 1 + runN 77 (P.inf.drop (i + 1))))) P (some ad) c B w2) := Lib.hid (by first | exact HKq.out rfl | simpa using HKq.out rfl)
  have hin : i + 1 + runN 77 (P.inf.drop (i + 1)) + runN 78 (P.inf.drop (i + 1 + runN 77 (P.inf.drop (i + 1)))) ≤ P.len := by
    have hb := HBq.out
    have := runN_le 78 (P.inf.drop (i + 1 + runN 77 (P.inf.drop (i + 1)))); simp only [List.length_drop, inf_len] at this; omega
  have HYn := Lib.hid (by have h := HY.out; rw [← HBq.out, Bool.true_and] at h; exact h)
  clear HBd HK HY HBq HKq
  have HBd := HB2
  have HK := HKn
  have HY := HYn
  clear HB2 HKn HYn
  go_wp2_with fail
  refine (while_method79 P (allMe P) HK.out hin hlc hcc).mono ?_
  rintro e w2 ⟨b, rfl, hb, hk, hbel⟩
  have HB2 := Lib.hid (HBd.out.trans hbel)
  try simp only [List.drop_zero] at hb
  have HBq := Lib.hid hb
  have HKq := Lib.hid hk
  clear hk hbel hb
  cases b with
  | false =>
    have HZ : Hid (false = y) := Lib.hid (by rw [← HY.out, ← HBq.out]; simp)
    clear HBq HKq HY
    go_wp2_with fail
    go_ret
    exact ⟨ret_bool HZ.out, HB2.out⟩
  | true =>
  have HKn : Hid (Wk g (i + 1 + runN 77 (P.inf.drop (i + 1)) + runN 78 (P.inf.drop (i + 1 + runN 77 (P.inf.drop (i + 1)))) + runN 79 (P.inf.drop (i + 1 + runN 77 (P.inf.drop (i + 1)) + runN 78 (P.inf.drop (i + 1 + runN 77 (P.inf.drop (i + 1))))))) P (some ad) c B w2) := Lib.hid (by first | exact HKq.out rfl | simpa using HKq.out rfl)
  have hin : i + 1 + runN 77 (P.inf.drop (i + 1)) + runN 78 (P.inf.drop (i + 1 + runN 77 (P.inf.drop (i + 1)))) + runN 79 (P.inf.drop (i + 1 + runN 77 (P.inf.drop (i + 1)) + runN 78 (P.inf.drop (i + 1 + runN 77 (P.inf.drop (i + 1)))))) ≤ P.len := by
    have hb := HBq.out
    have := runN_le 79 (P.inf.drop (i + 1 + runN 77 (P.inf.drop (i + 1)) + runN 78 (P.inf.drop (i + 1 + runN 77 (P.inf.drop (i + 1)))))); simp only [List.length_drop, inf_len] at this; omega
  have HYn := Lib.hid (by have h := HY.out; rw [← HBq.out, Bool.true_and] at h; exact h)
  clear HBd HK HY HBq HKq
  have HBd := HB2
  have HK := HKn
  have HY := HYn
  clear HB2 HKn HYn
  go_wp2_with fail
  refine (done_any HK.out).mono ?_
  rintro e w2 ⟨rfl, hbel⟩
  have HB2 := Lib.hid (HBd.out.trans hbel)
  have HYn : Hid (decide (i + 1 + runN 77 (P.inf.drop (i + 1)) + runN 78 (P.inf.drop (i + 1 + runN 77 (P.inf.drop (i + 1)))) + runN 79 (P.inf.drop (i + 1 + runN 77 (P.inf.drop (i + 1)) + runN 78 (P.inf.drop (i + 1 + runN 77 (P.inf.drop (i + 1)))))) = P.len) = y) := Lib.hid (by have h := HY.out; rw [inf_len] at h; exact h)
  clear hbel HY
  generalize decide (i + 1 + runN 77 (P.inf.drop (i + 1)) + runN 78 (P.inf.drop (i + 1 + runN 77 (P.inf.drop (i + 1)))) + runN 79 (P.inf.drop (i + 1 + runN 77 (P.inf.drop (i + 1)) + runN 78 (P.inf.drop (i + 1 + runN 77 (P.inf.drop (i + 1)))))) = P.len) = z at *
  go_wp2_with fail
  go_ret
  exact ⟨ret_bool HYn.out, HB2.out⟩
set_option maxRecDepth 100000 in
set_option maxHeartbeats 4000000 in
theorem decl_76 (P : Fo) (t : ByteArray) (n m a : Int) (A : Option Addr) (c : Nat) (w : World) (hH : Holds w w.heap.size P A 0) (hlc : P.len ≤ c) (hcc : c ≤ 1000000000000000) (ht : t.size ≤ 1000000000000000) (hm : m = 0 ∨ m = 1) (hid : idB t = true) :
    Calls Try.prog 59 #[.agg #[.int .i64 76, .string t, .int .i64 n, .int .i64 m, .int .i64 a, .slice A P.len c]] w fun e w' => e = .returned (.bool (classD n P.inf)) ∧ Below w.heap.size w w' := by
  have HS := Lib.hid (fun o => Wk.start w o P A c hH)
  have KI := Lib.hid (fun W => isname_any 76 t n m a P.len A c ht W)
  rw [hid] at KI
  have KC := Lib.hid (fun W (h : Wk (w.heap.size + 1) 0 P A c (w.heap.size + 1) W) M => class_any P 76 t n M a A c W h hlc hcc)
  generalize classD n P.inf = y at *
  clear hH
  rcases hm with rfl | rfl
  · go_enter Try.func59, Try.ntmps59
    go_wp2_with fail
    refine (KI.out _).mono ?_
    rintro e w1 ⟨rfl, hb1⟩
    have HK := Lib.hid ((HS.out _).later hb1)
    have bx := ((Box.new w 76 t n _ a P.len A c).later ((Below.refl _ _).alloc (Nat.le_refl _) (.cells #[.int .i64 0, .slice A P.len c] 56))).later hb1
    have HBd : Hid (Below (w.heap.size + 1) (w.alloc (.cells #[.int .i64 76, .string t, .int .i64 n, .int .i64 0, .int .i64 a, .slice A P.len c] 24)) w1) := Lib.hid (by
      have h2 : Below (w.heap.size + 1) (w.alloc (.cells #[.int .i64 76, .string t, .int .i64 n, .int .i64 0, .int .i64 a, .slice A P.len c] 24)) ((w.alloc (.cells #[.int .i64 76, .string t, .int .i64 n, .int .i64 0, .int .i64 a, .slice A P.len c] 24)).alloc (.cells #[.int .i64 0, .slice A P.len c] 56)) := (Below.refl _ _).alloc (by simp) _
      exact h2.trans (hb1.mono (by simp)))
    have HB0 := Lib.hid (fun w' (h : Below (w.heap.size + 1) (w.alloc (.cells #[.int .i64 76, .string t, .int .i64 n, .int .i64 0, .int .i64 a, .slice A P.len c] 24)) w') => ((Below.refl w.heap.size w).alloc (Nat.le_refl _) (.cells #[.int .i64 76, .string t, .int .i64 n, .int .i64 0, .int .i64 a, .slice A P.len c] 24)).trans (h.mono (by omega)))
    obtain ⟨-, -, c0, c1, c2, c3, c4, c5⟩ := bx
    have KC1 := Lib.hid (KC.out _ HK.out 0)
    clear hb1 HS KI KC HK
    go_wp2_with fail
    refine KC1.out.mono ?_
    rintro e w2 ⟨rfl, hbel⟩
    have HB2 := Lib.hid (HBd.out.trans hbel)
    clear hbel
    go_wp2_with fail
    go_ret
    exact ⟨rfl, HB0.out _ HB2.out⟩
  · go_enter Try.func59, Try.ntmps59
    go_wp2_with fail
    refine (KI.out _).mono ?_
    rintro e w1 ⟨rfl, hb1⟩
    have HK := Lib.hid ((HS.out _).later hb1)
    have bx := ((Box.new w 76 t n _ a P.len A c).later ((Below.refl _ _).alloc (Nat.le_refl _) (.cells #[.int .i64 0, .slice A P.len c] 56))).later hb1
    have HBd : Hid (Below (w.heap.size + 1) (w.alloc (.cells #[.int .i64 76, .string t, .int .i64 n, .int .i64 1, .int .i64 a, .slice A P.len c] 24)) w1) := Lib.hid (by
      have h2 : Below (w.heap.size + 1) (w.alloc (.cells #[.int .i64 76, .string t, .int .i64 n, .int .i64 1, .int .i64 a, .slice A P.len c] 24)) ((w.alloc (.cells #[.int .i64 76, .string t, .int .i64 n, .int .i64 1, .int .i64 a, .slice A P.len c] 24)).alloc (.cells #[.int .i64 0, .slice A P.len c] 56)) := (Below.refl _ _).alloc (by simp) _
      exact h2.trans (hb1.mono (by simp)))
    have HB0 := Lib.hid (fun w' (h : Below (w.heap.size + 1) (w.alloc (.cells #[.int .i64 76, .string t, .int .i64 n, .int .i64 1, .int .i64 a, .slice A P.len c] 24)) w') => ((Below.refl w.heap.size w).alloc (Nat.le_refl _) (.cells #[.int .i64 76, .string t, .int .i64 n, .int .i64 1, .int .i64 a, .slice A P.len c] 24)).trans (h.mono (by omega)))
    obtain ⟨-, -, c0, c1, c2, c3, c4, c5⟩ := bx
    have KC1 := Lib.hid (KC.out _ HK.out 1)
    clear hb1 HS KI KC HK
    go_wp2_with fail
    refine KC1.out.mono ?_
    rintro e w2 ⟨rfl, hbel⟩
    have HB2 := Lib.hid (HBd.out.trans hbel)
    clear hbel
    go_wp2_with fail
    go_ret
    exact ⟨rfl, HB0.out _ HB2.out⟩
end Go.Proofs.Ytogoolpgajopcaa
