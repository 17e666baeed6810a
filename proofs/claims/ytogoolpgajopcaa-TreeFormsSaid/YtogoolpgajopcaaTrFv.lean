import Derived.Test.YtogoolpgajopcaaTrFu
namespace Go.Proofs.Ytogoolpgajopcaa
open Go.RowKit
theorem allrV (P : Fo) : AllC (FunP 95 (·.var)) P := AllC.of rVar_any P
set_option maxHeartbeats 2000000 in
theorem vars_in (G : Fo) (x y : Nat) (hG : G.len = x) (hxy : x ≤ y) (hall : AllC (FunP 95 (·.var)) G) (A : Option Addr) (c : Nat) (w : World) (hH : Holds w w.heap.size G A 0) (hl : y ≤ 1000000000000000) (hK : Calls Try.prog 82 #[.slice A y c, .int .i64 0, .int .i64 73] w fun e w' => e = .returned (.int .i64 x) ∧ w = w') : Calls Try.prog 83 #[.slice A y c, .int .i64 x] w fun e w' => e = .returned (.bool (G.inf.all (·.var))) ∧ Below w.heap.size w w' := by
  have HL := Lib.hid hall
  have HH := Lib.hid hH
  have KR := Lib.hid hK
  clear hall hH hK
  have t1 : decide ((x : Int) < 0) = false := by simp
  have t2 : (((x : Nat) : Int) != (x : Int)) = false := by simp
  go_enter Try.func83, Try.ntmps83
  go_wp2_with (go_at_call 82; refine KR.out.mono ?_; rintro e w1 ⟨rfl, rfl⟩)
  go_loopw [5] (fun i wr => ∃ (j : Nat) (Q : Fo), j + Q.len = x ∧ i = .int .i64 j ∧ Q.inf.all (·.var) = G.inf.all (·.var) ∧ AllC (FunP 95 (·.var)) Q ∧ Holds wr w.heap.size Q A j ∧ Below w.heap.size w wr) (fun i _ => x - (intOf i).toNat)
  case atStart => exact ⟨0, G, by omega, by go_num, rfl, HL.out, HH.out, Below.refl _ _⟩
  case round =>
    obtain ⟨j, Q, hj, rfl, hq, hlf, hHr, hB⟩ := hrel
    have HBw := Lib.hid hB
    have HQ := Lib.hid hq
    clear hB hq
    cases Q with
    | nil =>
      have tj : decide ((j : Int) < (x : Int)) = false := by simp; simp [Fo.len] at hj; omega
      have tj2 : decide (j < x) = false := by simp; simp [Fo.len] at hj; omega
      clear hj hlf hHr
      go_wp2_with fail
      go_ret
      exact ⟨ret_bool HQ.out, HBw.out⟩
    | cons k1 t1 n1 m1 a1 P1 R1 =>
      obtain ⟨⟨ad, A1, c1, rfl, hblk, hcell, hc1, hc2, ht1, hP1⟩, hR1⟩ := hHr
      obtain ⟨hf1, hlf⟩ := hlf
      have hjl : j + 1 + R1.len = x := by simp only [Fo.len] at hj; omega
      have hjl2 : j < x := by omega
      have hjl3 : j < y := by omega
      obtain ⟨f0, f1, f2, f3, f4, f5⟩ := six hcell
      have hwr := HBw.out.size
      have K := Lib.hid (hf1 k1 t1 n1 m1 a1 A1 c1 wr (hP1.more hwr) hc1 hc2 ht1)
      simp only [val6, cells6] at K
      have HQ2 : Hid (((mk k1 t1 n1 m1 P1.inf).var && R1.inf.all (·.var)) = G.inf.all (·.var)) := Lib.hid (by rw [← HQ.out]; simp [Fo.inf])
      have HR1 := Lib.hid hR1
      have HLF := Lib.hid hlf
      generalize (mk k1 t1 n1 m1 P1.inf).var = b at *
      clear hcell hR1 hlf hj hP1 hf1 HQ
      go_wp2_with fail
      refine K.out.mono ?_
      rintro e w2 ⟨rfl, hb⟩
      have HB3 := Lib.hid hb
      have HH2 := Lib.hid (HR1.out.below (HB3.out.mono HBw.out.size))
      clear hb
      cases b with
      | false =>
        have HD : Hid (G.inf.all (·.var) = false) := Lib.hid (by rw [← HQ2.out]; rfl)
        go_wp2_with fail
        go_ret
        exact ⟨ret_bool HD.out.symm, below_step HBw.out HB3.out⟩
      | true =>
        have HD : Hid (R1.inf.all (·.var) = G.inf.all (·.var)) := Lib.hid (by rw [← HQ2.out]; rfl)
        go_wp2_with fail
        go_roundw
        case rel => exact ⟨j + 1, R1, hjl, by go_num, HD.out, HLF.out, HH2.out, below_step HBw.out HB3.out⟩
        case measure => simp [intOf]; omega
theorem vars_any (F : Fo) (q : Int) (A : Option Addr) (c : Nat) (w : World) (hH : Holds w w.heap.size F A 0) (hl : F.len ≤ 1000000000000000) : Calls Try.prog 83 #[.slice A F.len c, .int .i64 q] w fun e w' => e = .returned (.bool (varsB F.inf q)) ∧ Below w.heap.size w w' := by
  have K := run_any F 73 0 A c w hH (Nat.zero_le _) hl
  rw [List.drop_zero] at K
  have hle : runN 73 F.inf ≤ F.len := by have := runN_le 73 F.inf; rwa [inf_len] at this
  by_cases h0 : 0 ≤ q ∧ (runN 73 F.inf : Int) = q
  · obtain ⟨x, rfl⟩ : ∃ x : Nat, q = x := ⟨q.toNat, by omega⟩
    have hx : x ≤ F.len := by omega
    have e : varsB F.inf x = (F.take x).inf.all (·.var) := by
      unfold varsB
      rw [decide_eq_true h0, take_inf]; simp
    rw [e]
    rw [h0.2] at K
    exact vars_in (F.take x) x F.len (take_len F x hx) hx ((allrV F).take x) A c w (hH.take x) hl K
  · have e : varsB F.inf q = false := by
      unfold varsB
      rw [decide_eq_false h0]; rfl
    rw [e]
    have KR := Lib.hid K
    clear hH e K
    generalize runN 73 F.inf = r at *
    generalize F.len = y at *
    rcases Int.lt_or_le q 0 with h1 | h1
    · have t1 : decide (q < 0) = true := by simpa using h1
      clear h0
      go_enter Try.func83, Try.ntmps83
      go_wp2_with fail
      go_ret
      exact ⟨rfl, Below.refl _ _⟩
    · have t1 : ¬ q < 0 := by omega
      have t2 : (((r : Nat) : Int) != q) = true := by rw [bne_iff_ne]; omega
      clear h0 h1
      go_enter Try.func83, Try.ntmps83
      go_wp2_with (go_at_call 82; refine KR.out.mono ?_; rintro e w1 ⟨rfl, rfl⟩)
      go_ret
      exact ⟨rfl, Below.refl _ _⟩
end Go.Proofs.Ytogoolpgajopcaa
