import Derived.Test.YtogoolpgajopcaaTrV
namespace Go.Proofs.Ytogoolpgajopcaa
open Go.RowKit
theorem word_id (t : ByteArray) (h : wordB t = true) : idB t = false := by
  have hr : resL t.toList = true := by
    simp only [wordB, Bool.or_eq_true, beq_iff_eq] at h
    rcases h with h | h | h | h | h | h | h | h | h <;> rw [h] <;> decide
  simp [idB, hr]
set_option maxHeartbeats 2000000 in
theorem rAll_any (F : Fo) (hall : AllC (FunP 12 (·.ty)) F) (A : Option Addr) (c : Nat) (w : World) (hH : Holds w w.heap.size F A 0) (hl : F.len ≤ 1000000000000000) : Calls Try.prog 40 #[.slice A F.len c] w fun e w' => e = .returned (.bool (F.inf.all (·.ty))) ∧ Below w.heap.size w w' := by
  have HL := Lib.hid hall
  have HH := Lib.hid hH
  clear hall hH
  go_enter Try.func40, Try.ntmps40
  go_wp2_with fail
  go_loopw [3] (fun i wr => ∃ (j : Nat) (Q : Fo), j + Q.len = F.len ∧ i = .int .i64 j ∧ Q.inf.all (·.ty) = F.inf.all (·.ty) ∧ AllC (FunP 12 (·.ty)) Q ∧ Holds wr w.heap.size Q A j ∧ Below w.heap.size w wr) (fun i _ => F.len - (intOf i).toNat)
  case atStart => exact ⟨0, F, by omega, by go_num, rfl, HL.out, HH.out, Below.refl _ _⟩
  case round =>
    obtain ⟨j, Q, hj, rfl, hq, hlf, hHr, hB⟩ := hrel
    have HBw := Lib.hid hB
    have HQ := Lib.hid hq
    clear hB hq
    cases Q with
    | nil =>
      have tj : decide ((j : Int) < (F.len : Int)) = false := by simp; simp [Fo.len] at hj; omega
      have tj2 : decide (j < F.len) = false := by simp; simp [Fo.len] at hj; omega
      clear hj hlf hHr
      go_wp2_with fail
      go_ret
      exact ⟨ret_bool HQ.out, HBw.out⟩
    | cons k1 t1 n1 m1 a1 P1 R1 =>
      obtain ⟨⟨ad, A1, c1, rfl, hblk, hcell, hc1, hc2, ht1, hP1⟩, hR1⟩ := hHr
      obtain ⟨hf1, hlf⟩ := hlf
      have hjl : j + 1 + R1.len = F.len := by simp only [Fo.len] at hj; omega
      have hjl2 : j < F.len := by omega
      obtain ⟨f0, f1, f2, f3, f4, f5⟩ := six hcell
      have hwr := HBw.out.size
      have K := Lib.hid (hf1 k1 t1 n1 m1 a1 A1 c1 wr (hP1.more hwr) hc1 hc2 ht1)
      simp only [val6, cells6] at K
      have HQ2 : Hid (((mk k1 t1 n1 m1 P1.inf).ty && R1.inf.all (·.ty)) = F.inf.all (·.ty)) := Lib.hid (by rw [← HQ.out]; simp [Fo.inf])
      have HR1 := Lib.hid hR1
      have HLF := Lib.hid hlf
      generalize (mk k1 t1 n1 m1 P1.inf).ty = b at *
      clear hcell hR1 hlf hj hP1 hf1 HQ
      go_wp2_with fail
      refine K.out.mono ?_
      rintro e w2 ⟨rfl, hb⟩
      have HB3 := Lib.hid hb
      have HH2 := Lib.hid (HR1.out.below (HB3.out.mono HBw.out.size))
      clear hb
      cases b with
      | false =>
        have HD : Hid (F.inf.all (·.ty) = false) := Lib.hid (by rw [← HQ2.out]; rfl)
        go_wp2_with fail
        go_ret
        exact ⟨ret_bool HD.out.symm, below_step HBw.out HB3.out⟩
      | true =>
        have HD : Hid (R1.inf.all (·.ty) = F.inf.all (·.ty)) := Lib.hid (by rw [← HQ2.out]; rfl)
        go_wp2_with fail
        go_roundw
        case rel => exact ⟨j + 1, R1, hjl, by go_num, HD.out, HLF.out, HH2.out, below_step HBw.out HB3.out⟩
        case measure => simp [intOf]; omega
set_option maxHeartbeats 2000000 in
theorem rfields_any (F : Fo) (hall : AllC (FunP 73 (·.fld)) F) (A : Option Addr) (c : Nat) (w : World) (hH : Holds w w.heap.size F A 0) (hl : F.len ≤ 1000000000000000) : Calls Try.prog 44 #[.slice A F.len c] w fun e w' => e = .returned (.bool (F.inf.all (·.fld))) ∧ Below w.heap.size w w' := by
  have HL := Lib.hid hall
  have HH := Lib.hid hH
  clear hall hH
  go_enter Try.func44, Try.ntmps44
  go_wp2_with fail
  go_loopw [3] (fun i wr => ∃ (j : Nat) (Q : Fo), j + Q.len = F.len ∧ i = .int .i64 j ∧ Q.inf.all (·.fld) = F.inf.all (·.fld) ∧ AllC (FunP 73 (·.fld)) Q ∧ Holds wr w.heap.size Q A j ∧ Below w.heap.size w wr) (fun i _ => F.len - (intOf i).toNat)
  case atStart => exact ⟨0, F, by omega, by go_num, rfl, HL.out, HH.out, Below.refl _ _⟩
  case round =>
    obtain ⟨j, Q, hj, rfl, hq, hlf, hHr, hB⟩ := hrel
    have HBw := Lib.hid hB
    have HQ := Lib.hid hq
    clear hB hq
    cases Q with
    | nil =>
      have tj : decide ((j : Int) < (F.len : Int)) = false := by simp; simp [Fo.len] at hj; omega
      have tj2 : decide (j < F.len) = false := by simp; simp [Fo.len] at hj; omega
      clear hj hlf hHr
      go_wp2_with fail
      go_ret
      exact ⟨ret_bool HQ.out, HBw.out⟩
    | cons k1 t1 n1 m1 a1 P1 R1 =>
      obtain ⟨⟨ad, A1, c1, rfl, hblk, hcell, hc1, hc2, ht1, hP1⟩, hR1⟩ := hHr
      obtain ⟨hf1, hlf⟩ := hlf
      have hjl : j + 1 + R1.len = F.len := by simp only [Fo.len] at hj; omega
      have hjl2 : j < F.len := by omega
      obtain ⟨f0, f1, f2, f3, f4, f5⟩ := six hcell
      have hwr := HBw.out.size
      have K := Lib.hid (hf1 k1 t1 n1 m1 a1 A1 c1 wr (hP1.more hwr) hc1 hc2 ht1)
      simp only [val6, cells6] at K
      have HQ2 : Hid (((mk k1 t1 n1 m1 P1.inf).fld && R1.inf.all (·.fld)) = F.inf.all (·.fld)) := Lib.hid (by rw [← HQ.out]; simp [Fo.inf])
      have HR1 := Lib.hid hR1
      have HLF := Lib.hid hlf
      generalize (mk k1 t1 n1 m1 P1.inf).fld = b at *
      clear hcell hR1 hlf hj hP1 hf1 HQ
      go_wp2_with fail
      refine K.out.mono ?_
      rintro e w2 ⟨rfl, hb⟩
      have HB3 := Lib.hid hb
      have HH2 := Lib.hid (HR1.out.below (HB3.out.mono HBw.out.size))
      clear hb
      cases b with
      | false =>
        have HD : Hid (F.inf.all (·.fld) = false) := Lib.hid (by rw [← HQ2.out]; rfl)
        go_wp2_with fail
        go_ret
        exact ⟨ret_bool HD.out.symm, below_step HBw.out HB3.out⟩
      | true =>
        have HD : Hid (R1.inf.all (·.fld) = F.inf.all (·.fld)) := Lib.hid (by rw [← HQ2.out]; rfl)
        go_wp2_with fail
        go_roundw
        case rel => exact ⟨j + 1, R1, hjl, by go_num, HD.out, HLF.out, HH2.out, below_step HBw.out HB3.out⟩
        case measure => simp [intOf]; omega
set_option maxHeartbeats 2000000 in
theorem rExprs_any (F : Fo) (hall : AllC (FunP 14 (·.ex)) F) (A : Option Addr) (c : Nat) (w : World) (hH : Holds w w.heap.size F A 0) (hl : F.len ≤ 1000000000000000) : Calls Try.prog 50 #[.slice A F.len c] w fun e w' => e = .returned (.bool (F.inf.all (·.ex))) ∧ Below w.heap.size w w' := by
  have HL := Lib.hid hall
  have HH := Lib.hid hH
  clear hall hH
  go_enter Try.func50, Try.ntmps50
  go_wp2_with fail
  go_loopw [3] (fun i wr => ∃ (j : Nat) (Q : Fo), j + Q.len = F.len ∧ i = .int .i64 j ∧ Q.inf.all (·.ex) = F.inf.all (·.ex) ∧ AllC (FunP 14 (·.ex)) Q ∧ Holds wr w.heap.size Q A j ∧ Below w.heap.size w wr) (fun i _ => F.len - (intOf i).toNat)
  case atStart => exact ⟨0, F, by omega, by go_num, rfl, HL.out, HH.out, Below.refl _ _⟩
  case round =>
    obtain ⟨j, Q, hj, rfl, hq, hlf, hHr, hB⟩ := hrel
    have HBw := Lib.hid hB
    have HQ := Lib.hid hq
    clear hB hq
    cases Q with
    | nil =>
      have tj : decide ((j : Int) < (F.len : Int)) = false := by simp; simp [Fo.len] at hj; omega
      have tj2 : decide (j < F.len) = false := by simp; simp [Fo.len] at hj; omega
      clear hj hlf hHr
      go_wp2_with fail
      go_ret
      exact ⟨ret_bool HQ.out, HBw.out⟩
    | cons k1 t1 n1 m1 a1 P1 R1 =>
      obtain ⟨⟨ad, A1, c1, rfl, hblk, hcell, hc1, hc2, ht1, hP1⟩, hR1⟩ := hHr
      obtain ⟨hf1, hlf⟩ := hlf
      have hjl : j + 1 + R1.len = F.len := by simp only [Fo.len] at hj; omega
      have hjl2 : j < F.len := by omega
      obtain ⟨f0, f1, f2, f3, f4, f5⟩ := six hcell
      have hwr := HBw.out.size
      have K := Lib.hid (hf1 k1 t1 n1 m1 a1 A1 c1 wr (hP1.more hwr) hc1 hc2 ht1)
      simp only [val6, cells6] at K
      have HQ2 : Hid (((mk k1 t1 n1 m1 P1.inf).ex && R1.inf.all (·.ex)) = F.inf.all (·.ex)) := Lib.hid (by rw [← HQ.out]; simp [Fo.inf])
      have HR1 := Lib.hid hR1
      have HLF := Lib.hid hlf
      generalize (mk k1 t1 n1 m1 P1.inf).ex = b at *
      clear hcell hR1 hlf hj hP1 hf1 HQ
      go_wp2_with fail
      refine K.out.mono ?_
      rintro e w2 ⟨rfl, hb⟩
      have HB3 := Lib.hid hb
      have HH2 := Lib.hid (HR1.out.below (HB3.out.mono HBw.out.size))
      clear hb
      cases b with
      | false =>
        have HD : Hid (F.inf.all (·.ex) = false) := Lib.hid (by rw [← HQ2.out]; rfl)
        go_wp2_with fail
        go_ret
        exact ⟨ret_bool HD.out.symm, below_step HBw.out HB3.out⟩
      | true =>
        have HD : Hid (R1.inf.all (·.ex) = F.inf.all (·.ex)) := Lib.hid (by rw [← HQ2.out]; rfl)
        go_wp2_with fail
        go_roundw
        case rel => exact ⟨j + 1, R1, hjl, by go_num, HD.out, HLF.out, HH2.out, below_step HBw.out HB3.out⟩
        case measure => simp [intOf]; omega
theorem rplain_any (k : Int) (t : ByteArray) (n m a : Int) (l : Nat) (A : Option Addr) (c : Nat) : Flat 42 (bareB t n m) k t n m a l A c := by
  intro w
  obtain ⟨y, hy⟩ : ∃ y, bareB t n m = y := ⟨_, rfl⟩
  rw [hy]
  have HY := Lib.hid hy
  clear hy
  go_enter Try.func42, Try.ntmps42
  go_wp2_with fail
  all_goals
    go_ret
    refine ⟨ret_bool ?_, (by first | exact Box.below (by assumption) | exact (Below.refl _ _).alloc (Nat.le_refl _) _)⟩
    rw [← HY.out]; simp [bareB, plainB, emptyB, *]
theorem rnamed_any (k : Int) (t : ByteArray) (n m a : Int) (l : Nat) (A : Option Addr) (c : Nat) (ht : t.size ≤ 1000000000000000) : Flat 41 (idB t && (m == 0)) k t n m a l A c := by
  intro w
  have KI := Lib.hid (fun W => isname_ref t W ht)
  generalize idB t = b1 at *
  go_enter Try.func41, Try.ntmps41
  go_wp2_with (first
    | (go_at_call 39; refine (KI.out _).mono ?_; rintro e w1 ⟨rfl, hb⟩; have bx := Box.later (by first | assumption | exact Box.new _ _ _ _ _ _ _ _ _) hb; have bx2 := bx; obtain ⟨-, -, c0, c1, c2, c3, c4, c5⟩ := bx2))
  all_goals
    go_ret
    refine ⟨ret_bool ?_, (by first | exact Box.below (by assumption) | exact (Below.refl _ _).alloc (Nat.le_refl _) _)⟩
    first | rfl | (simp [*]; done)
end Go.Proofs.Ytogoolpgajopcaa
