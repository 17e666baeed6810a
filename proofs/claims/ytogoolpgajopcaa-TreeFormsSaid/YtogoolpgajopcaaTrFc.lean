import Derived.Test.YtogoolpgajopcaaTrFb
namespace Go.Proofs.Ytogoolpgajopcaa
open Go.RowKit
def parsB (l : List Inf) (q : Int) : Bool := decide (0 ≤ q ∧ q ≤ (l.length : Int)) && (l.take q.toNat).all (·.par)
set_option maxHeartbeats 2000000 in
theorem rpars_in (G : Fo) (x y : Nat) (hG : G.len = x) (hxy : x ≤ y) (hall : AllC (FunP 72 (·.par)) G) (A : Option Addr) (c : Nat) (w : World) (hH : Holds w w.heap.size G A 0) (hl : y ≤ 1000000000000000) : Calls Try.prog 43 #[.slice A y c, .int .i64 x] w fun e w' => e = .returned (.bool (G.inf.all (·.par))) ∧ Below w.heap.size w w' := by
  have HL := Lib.hid hall
  have HH := Lib.hid hH
  clear hall hH
  have t1 : decide ((x : Int) < 0) = false := by simp
  have t2 : decide ((y : Int) < (x : Int)) = false := by simp; omega
  have t3 : decide (y < x) = false := by simp; omega
  go_enter Try.func43, Try.ntmps43
  go_wp2_with fail
  go_loopw [5] (fun i wr => ∃ (j : Nat) (Q : Fo), j + Q.len = x ∧ i = .int .i64 j ∧ Q.inf.all (·.par) = G.inf.all (·.par) ∧ AllC (FunP 72 (·.par)) Q ∧ Holds wr w.heap.size Q A j ∧ Below w.heap.size w wr) (fun i _ => x - (intOf i).toNat)
  case atStart => exact ⟨0, G, by omega, by go_num, rfl, HL.out, HH.out, Below.refl _ _⟩
  case round =>
    obtain ⟨j, Q, hj, rfl, hq, hlf, hHr, hB⟩ := hrel
    have HBw := Lib.hid hB
    have HQ := Lib.hid hq
    clear hB hq
    cases Q with
    | nil =>
      have tj : decide ((j : Int) < (x : Int)) = false := by simp; simp [Fo.len] at hj; omega
      have tj2 : decide (j < x) = false := by simp; simp [Fo.len] at hj; omega
      clear hj hlf hHr
      go_wp2_with fail
      go_ret
      exact ⟨ret_bool HQ.out, HBw.out⟩
    | cons k1 t1 n1 m1 a1 P1 R1 =>
      obtain ⟨⟨ad, A1, c1, rfl, hblk, hcell, hc1, hc2, ht1, hP1⟩, hR1⟩ := hHr
      obtain ⟨hf1, hlf⟩ := hlf
      have hjl : j + 1 + R1.len = x := by simp only [Fo.len] at hj; omega
      have hjl2 : j < x := by omega
      have hjl3 : j < y := by omega
      obtain ⟨f0, f1, f2, f3, f4, f5⟩ := six hcell
      have hwr := HBw.out.size
      have K := Lib.hid (hf1 k1 t1 n1 m1 a1 A1 c1 wr (hP1.more hwr) hc1 hc2 ht1)
      simp only [val6, cells6] at K
      have HQ2 : Hid (((mk k1 t1 n1 m1 P1.inf).par && R1.inf.all (·.par)) = G.inf.all (·.par)) := Lib.hid (by rw [← HQ.out]; simp [Fo.inf])
      have HR1 := Lib.hid hR1
      have HLF := Lib.hid hlf
      generalize (mk k1 t1 n1 m1 P1.inf).par = b at *
      clear hcell hR1 hlf hj hP1 hf1 HQ
      go_wp2_with fail
      refine K.out.mono ?_
      rintro e w2 ⟨rfl, hb⟩
      have HB3 := Lib.hid hb
      have HH2 := Lib.hid (HR1.out.below (HB3.out.mono HBw.out.size))
      clear hb
      cases b with
      | false =>
        have HD : Hid (G.inf.all (·.par) = false) := Lib.hid (by rw [← HQ2.out]; rfl)
        go_wp2_with fail
        go_ret
        exact ⟨ret_bool HD.out.symm, below_step HBw.out HB3.out⟩
      | true =>
        have HD : Hid (R1.inf.all (·.par) = G.inf.all (·.par)) := Lib.hid (by rw [← HQ2.out]; rfl)
        go_wp2_with fail
        go_roundw
        case rel => exact ⟨j + 1, R1, hjl, by go_num, HD.out, HLF.out, HH2.out, below_step HBw.out HB3.out⟩
        case measure => simp [intOf]; omega
theorem rpars_any (F : Fo) (hall : AllC (FunP 72 (·.par)) F) (q : Int) (A : Option Addr) (c : Nat) (w : World) (hH : Holds w w.heap.size F A 0) (hl : F.len ≤ 1000000000000000) : Calls Try.prog 43 #[.slice A F.len c, .int .i64 q] w fun e w' => e = .returned (.bool (parsB F.inf q)) ∧ Below w.heap.size w w' := by
  by_cases h0 : 0 ≤ q ∧ q ≤ (F.len : Int)
  · obtain ⟨x, rfl⟩ : ∃ x : Nat, q = x := ⟨q.toNat, by omega⟩
    have hx : x ≤ F.len := by omega
    have e : parsB F.inf x = (F.take x).inf.all (·.par) := by
      unfold parsB
      rw [inf_len, decide_eq_true h0, take_inf]; simp
    rw [e]
    exact rpars_in (F.take x) x F.len (take_len F x hx) hx (hall.take x) A c w (hH.take x) hl
  · have e : parsB F.inf q = false := by
      unfold parsB
      rw [inf_len, decide_eq_false h0]; rfl
    rw [e]
    clear hH hall e
    generalize F.len = y at *
    rcases Int.lt_or_le q 0 with h1 | h1
    · have t1 : decide (q < 0) = true := by simpa using h1
      clear h0
      go_enter Try.func43, Try.ntmps43
      go_wp2_with fail
      go_ret
      exact ⟨rfl, Below.refl _ _⟩
    · have t1 : ¬ q < 0 := by omega
      have t2 : decide ((y : Int) < q) = true := by simp; omega
      clear h0 h1
      go_enter Try.func43, Try.ntmps43
      go_wp2_with fail
      go_ret
      exact ⟨rfl, Below.refl _ _⟩
end Go.Proofs.Ytogoolpgajopcaa
