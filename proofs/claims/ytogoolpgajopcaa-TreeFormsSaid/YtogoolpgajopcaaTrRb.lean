import Derived.Test.YtogoolpgajopcaaTrR
namespace Go.Proofs.Ytogoolpgajopcaa
open Go.RowKit
set_option maxHeartbeats 2000000 in
theorem all_valueField (p : Inf → Bool) (F : Fo) (hall : AllC (FunP 45 p) F) (A : Option Addr) (c : Nat) (w : World) (hH : Holds w w.heap.size F A 0) (hl : F.len ≤ 1000000000000000) : Calls Try.prog 34 #[.slice A F.len c, .func (.func 45) #[] #[]] w fun e w' => e = .returned (.bool (F.inf.all p)) ∧ Below w.heap.size w w' := by
  have HL := Lib.hid hall
  have HH := Lib.hid hH
  clear hall hH
  go_enter Try.func34, Try.ntmps34
  go_wp2_with fail
  go_loopw [6, 9] (fun _ i wr => ∃ (j : Nat) (R : Fo), j + R.len = F.len ∧ i = .int .i64 j ∧ R.inf.all p = F.inf.all p ∧ AllC (FunP 45 p) R ∧ Holds wr w.heap.size R A j ∧ Below w.heap.size w wr) (fun _ i _ => F.len - (intOf i).toNat)
  case atStart => exact ⟨0, F, by omega, by go_num, rfl, HL.out, HH.out, Below.refl _ _⟩
  case round =>
    obtain ⟨j, R, hj, rfl, hq, hlf, hHr, hB⟩ := hrel
    have HBw := Lib.hid hB
    have HQ := Lib.hid hq
    clear hB hq
    cases R with
    | nil =>
      have tj : decide ((j : Int) < (F.len : Int)) = false := by simp; simp [Fo.len] at hj; omega
      have tj2 : decide (j < F.len) = false := by simp; simp [Fo.len] at hj; omega
      clear hj hlf hHr
      go_wp2_with fail
      go_ret
      exact ⟨ret_bool HQ.out, HBw.out⟩
    | cons k1 t1 n1 m1 a1 P1 R1 =>
      obtain ⟨⟨ad, A1, c1, rfl, hblk, hcell, hc1, hc2, ht1, hP1⟩, hR1⟩ := hHr
      obtain ⟨hf1, hlf⟩ := hlf
      have hjl : j + 1 + R1.len = F.len := by simp only [Fo.len] at hj; omega
      have hjl2 : j < F.len := by omega
      obtain ⟨f0, f1, f2, f3, f4, f5⟩ := six hcell
      have hwr := HBw.out.size
      have K := Lib.hid (fun (o : Obj) => hf1 k1 t1 n1 m1 a1 A1 c1 (wr.alloc o) ((hP1.below ((Below.refl wr.heap.size wr).alloc (Nat.le_refl _) o |>.mono hwr)).more (by simp; omega)) hc1 hc2 ht1)
      simp only [val6, cells6] at K
      have HQ2 : Hid ((p (mk k1 t1 n1 m1 P1.inf) && R1.inf.all p) = F.inf.all p) := Lib.hid (by rw [← HQ.out]; simp [Fo.inf])
      have HR1 := Lib.hid hR1
      have HLF := Lib.hid hlf
      generalize p (mk k1 t1 n1 m1 P1.inf) = b at *
      clear hcell hR1 hlf hj hP1 hf1 HQ
      go_wp2_with fail
      refine (K.out _).mono ?_
      rintro e w2 ⟨rfl, hb⟩
      have HB3 := Lib.hid (((Below.refl wr.heap.size wr).alloc (Nat.le_refl _) _).trans (hb.mono (by simp)))
      have HH2 := Lib.hid (HR1.out.below (HB3.out.mono HBw.out.size))
      clear hb
      cases b with
      | false =>
        have HD : Hid (F.inf.all p = false) := Lib.hid (by rw [← HQ2.out]; rfl)
        go_wp2_with fail
        go_ret
        exact ⟨ret_bool HD.out.symm, below_step HBw.out HB3.out⟩
      | true =>
        have HD : Hid (R1.inf.all p = F.inf.all p) := Lib.hid (by rw [← HQ2.out]; rfl)
        go_wp2_with fail
        go_roundw
        case rel => exact ⟨j + 1, R1, hjl, by go_num, HD.out, HLF.out, HH2.out, below_step HBw.out HB3.out⟩
        case measure => simp [intOf]; omega
set_option maxHeartbeats 2000000 in
theorem all_Expr (p : Inf → Bool) (F : Fo) (hall : AllC (FunP 13 p) F) (A : Option Addr) (c : Nat) (w : World) (hH : Holds w w.heap.size F A 0) (hl : F.len ≤ 1000000000000000) : Calls Try.prog 34 #[.slice A F.len c, .func (.func 13) #[] #[]] w fun e w' => e = .returned (.bool (F.inf.all p)) ∧ Below w.heap.size w w' := by
  have HL := Lib.hid hall
  have HH := Lib.hid hH
  clear hall hH
  go_enter Try.func34, Try.ntmps34
  go_wp2_with fail
  go_loopw [6, 9] (fun _ i wr => ∃ (j : Nat) (R : Fo), j + R.len = F.len ∧ i = .int .i64 j ∧ R.inf.all p = F.inf.all p ∧ AllC (FunP 13 p) R ∧ Holds wr w.heap.size R A j ∧ Below w.heap.size w wr) (fun _ i _ => F.len - (intOf i).toNat)
  case atStart => exact ⟨0, F, by omega, by go_num, rfl, HL.out, HH.out, Below.refl _ _⟩
  case round =>
    obtain ⟨j, R, hj, rfl, hq, hlf, hHr, hB⟩ := hrel
    have HBw := Lib.hid hB
    have HQ := Lib.hid hq
    clear hB hq
    cases R with
    | nil =>
      have tj : decide ((j : Int) < (F.len : Int)) = false := by simp; simp [Fo.len] at hj; omega
      have tj2 : decide (j < F.len) = false := by simp; simp [Fo.len] at hj; omega
      clear hj hlf hHr
      go_wp2_with fail
      go_ret
      exact ⟨ret_bool HQ.out, HBw.out⟩
    | cons k1 t1 n1 m1 a1 P1 R1 =>
      obtain ⟨⟨ad, A1, c1, rfl, hblk, hcell, hc1, hc2, ht1, hP1⟩, hR1⟩ := hHr
      obtain ⟨hf1, hlf⟩ := hlf
      have hjl : j + 1 + R1.len = F.len := by simp only [Fo.len] at hj; omega
      have hjl2 : j < F.len := by omega
      obtain ⟨f0, f1, f2, f3, f4, f5⟩ := six hcell
      have hwr := HBw.out.size
      have K := Lib.hid (fun (o : Obj) => hf1 k1 t1 n1 m1 a1 A1 c1 (wr.alloc o) ((hP1.below ((Below.refl wr.heap.size wr).alloc (Nat.le_refl _) o |>.mono hwr)).more (by simp; omega)) hc1 hc2 ht1)
      simp only [val6, cells6] at K
      have HQ2 : Hid ((p (mk k1 t1 n1 m1 P1.inf) && R1.inf.all p) = F.inf.all p) := Lib.hid (by rw [← HQ.out]; simp [Fo.inf])
      have HR1 := Lib.hid hR1
      have HLF := Lib.hid hlf
      generalize p (mk k1 t1 n1 m1 P1.inf) = b at *
      clear hcell hR1 hlf hj hP1 hf1 HQ
      go_wp2_with fail
      refine (K.out _).mono ?_
      rintro e w2 ⟨rfl, hb⟩
      have HB3 := Lib.hid (((Below.refl wr.heap.size wr).alloc (Nat.le_refl _) _).trans (hb.mono (by simp)))
      have HH2 := Lib.hid (HR1.out.below (HB3.out.mono HBw.out.size))
      clear hb
      cases b with
      | false =>
        have HD : Hid (F.inf.all p = false) := Lib.hid (by rw [← HQ2.out]; rfl)
        go_wp2_with fail
        go_ret
        exact ⟨ret_bool HD.out.symm, below_step HBw.out HB3.out⟩
      | true =>
        have HD : Hid (R1.inf.all p = F.inf.all p) := Lib.hid (by rw [← HQ2.out]; rfl)
        go_wp2_with fail
        go_roundw
        case rel => exact ⟨j + 1, R1, hjl, by go_num, HD.out, HLF.out, HH2.out, below_step HBw.out HB3.out⟩
        case measure => simp [intOf]; omega
set_option maxHeartbeats 2000000 in
theorem all_isBlock (p : Inf → Bool) (F : Fo) (hall : AllC (FunP 57 p) F) (A : Option Addr) (c : Nat) (w : World) (hH : Holds w w.heap.size F A 0) (hl : F.len ≤ 1000000000000000) : Calls Try.prog 34 #[.slice A F.len c, .func (.func 57) #[] #[]] w fun e w' => e = .returned (.bool (F.inf.all p)) ∧ Below w.heap.size w w' := by
  have HL := Lib.hid hall
  have HH := Lib.hid hH
  clear hall hH
  go_enter Try.func34, Try.ntmps34
  go_wp2_with fail
  go_loopw [6, 9] (fun _ i wr => ∃ (j : Nat) (R : Fo), j + R.len = F.len ∧ i = .int .i64 j ∧ R.inf.all p = F.inf.all p ∧ AllC (FunP 57 p) R ∧ Holds wr w.heap.size R A j ∧ Below w.heap.size w wr) (fun _ i _ => F.len - (intOf i).toNat)
  case atStart => exact ⟨0, F, by omega, by go_num, rfl, HL.out, HH.out, Below.refl _ _⟩
  case round =>
    obtain ⟨j, R, hj, rfl, hq, hlf, hHr, hB⟩ := hrel
    have HBw := Lib.hid hB
    have HQ := Lib.hid hq
    clear hB hq
    cases R with
    | nil =>
      have tj : decide ((j : Int) < (F.len : Int)) = false := by simp; simp [Fo.len] at hj; omega
      have tj2 : decide (j < F.len) = false := by simp; simp [Fo.len] at hj; omega
      clear hj hlf hHr
      go_wp2_with fail
      go_ret
      exact ⟨ret_bool HQ.out, HBw.out⟩
    | cons k1 t1 n1 m1 a1 P1 R1 =>
      obtain ⟨⟨ad, A1, c1, rfl, hblk, hcell, hc1, hc2, ht1, hP1⟩, hR1⟩ := hHr
      obtain ⟨hf1, hlf⟩ := hlf
      have hjl : j + 1 + R1.len = F.len := by simp only [Fo.len] at hj; omega
      have hjl2 : j < F.len := by omega
      obtain ⟨f0, f1, f2, f3, f4, f5⟩ := six hcell
      have hwr := HBw.out.size
      have K := Lib.hid (fun (o : Obj) => hf1 k1 t1 n1 m1 a1 A1 c1 (wr.alloc o) ((hP1.below ((Below.refl wr.heap.size wr).alloc (Nat.le_refl _) o |>.mono hwr)).more (by simp; omega)) hc1 hc2 ht1)
      simp only [val6, cells6] at K
      have HQ2 : Hid ((p (mk k1 t1 n1 m1 P1.inf) && R1.inf.all p) = F.inf.all p) := Lib.hid (by rw [← HQ.out]; simp [Fo.inf])
      have HR1 := Lib.hid hR1
      have HLF := Lib.hid hlf
      generalize p (mk k1 t1 n1 m1 P1.inf) = b at *
      clear hcell hR1 hlf hj hP1 hf1 HQ
      go_wp2_with fail
      refine (K.out _).mono ?_
      rintro e w2 ⟨rfl, hb⟩
      have HB3 := Lib.hid (((Below.refl wr.heap.size wr).alloc (Nat.le_refl _) _).trans (hb.mono (by simp)))
      have HH2 := Lib.hid (HR1.out.below (HB3.out.mono HBw.out.size))
      clear hb
      cases b with
      | false =>
        have HD : Hid (F.inf.all p = false) := Lib.hid (by rw [← HQ2.out]; rfl)
        go_wp2_with fail
        go_ret
        exact ⟨ret_bool HD.out.symm, below_step HBw.out HB3.out⟩
      | true =>
        have HD : Hid (R1.inf.all p = F.inf.all p) := Lib.hid (by rw [← HQ2.out]; rfl)
        go_wp2_with fail
        go_roundw
        case rel => exact ⟨j + 1, R1, hjl, by go_num, HD.out, HLF.out, HH2.out, below_step HBw.out HB3.out⟩
        case measure => simp [intOf]; omega
set_option maxHeartbeats 2000000 in
theorem all_Stat (p : Inf → Bool) (F : Fo) (hall : AllC (FunP 15 p) F) (A : Option Addr) (c : Nat) (w : World) (hH : Holds w w.heap.size F A 0) (hl : F.len ≤ 1000000000000000) : Calls Try.prog 34 #[.slice A F.len c, .func (.func 15) #[] #[]] w fun e w' => e = .returned (.bool (F.inf.all p)) ∧ Below w.heap.size w w' := by
  have HL := Lib.hid hall
  have HH := Lib.hid hH
  clear hall hH
  go_enter Try.func34, Try.ntmps34
  go_wp2_with fail
  go_loopw [6, 9] (fun _ i wr => ∃ (j : Nat) (R : Fo), j + R.len = F.len ∧ i = .int .i64 j ∧ R.inf.all p = F.inf.all p ∧ AllC (FunP 15 p) R ∧ Holds wr w.heap.size R A j ∧ Below w.heap.size w wr) (fun _ i _ => F.len - (intOf i).toNat)
  case atStart => exact ⟨0, F, by omega, by go_num, rfl, HL.out, HH.out, Below.refl _ _⟩
  case round =>
    obtain ⟨j, R, hj, rfl, hq, hlf, hHr, hB⟩ := hrel
    have HBw := Lib.hid hB
    have HQ := Lib.hid hq
    clear hB hq
    cases R with
    | nil =>
      have tj : decide ((j : Int) < (F.len : Int)) = false := by simp; simp [Fo.len] at hj; omega
      have tj2 : decide (j < F.len) = false := by simp; simp [Fo.len] at hj; omega
      clear hj hlf hHr
      go_wp2_with fail
      go_ret
      exact ⟨ret_bool HQ.out, HBw.out⟩
    | cons k1 t1 n1 m1 a1 P1 R1 =>
      obtain ⟨⟨ad, A1, c1, rfl, hblk, hcell, hc1, hc2, ht1, hP1⟩, hR1⟩ := hHr
      obtain ⟨hf1, hlf⟩ := hlf
      have hjl : j + 1 + R1.len = F.len := by simp only [Fo.len] at hj; omega
      have hjl2 : j < F.len := by omega
      obtain ⟨f0, f1, f2, f3, f4, f5⟩ := six hcell
      have hwr := HBw.out.size
      have K := Lib.hid (fun (o : Obj) => hf1 k1 t1 n1 m1 a1 A1 c1 (wr.alloc o) ((hP1.below ((Below.refl wr.heap.size wr).alloc (Nat.le_refl _) o |>.mono hwr)).more (by simp; omega)) hc1 hc2 ht1)
      simp only [val6, cells6] at K
      have HQ2 : Hid ((p (mk k1 t1 n1 m1 P1.inf) && R1.inf.all p) = F.inf.all p) := Lib.hid (by rw [← HQ.out]; simp [Fo.inf])
      have HR1 := Lib.hid hR1
      have HLF := Lib.hid hlf
      generalize p (mk k1 t1 n1 m1 P1.inf) = b at *
      clear hcell hR1 hlf hj hP1 hf1 HQ
      go_wp2_with fail
      refine (K.out _).mono ?_
      rintro e w2 ⟨rfl, hb⟩
      have HB3 := Lib.hid (((Below.refl wr.heap.size wr).alloc (Nat.le_refl _) _).trans (hb.mono (by simp)))
      have HH2 := Lib.hid (HR1.out.below (HB3.out.mono HBw.out.size))
      clear hb
      cases b with
      | false =>
        have HD : Hid (F.inf.all p = false) := Lib.hid (by rw [← HQ2.out]; rfl)
        go_wp2_with fail
        go_ret
        exact ⟨ret_bool HD.out.symm, below_step HBw.out HB3.out⟩
      | true =>
        have HD : Hid (R1.inf.all p = F.inf.all p) := Lib.hid (by rw [← HQ2.out]; rfl)
        go_wp2_with fail
        go_roundw
        case rel => exact ⟨j + 1, R1, hjl, by go_num, HD.out, HLF.out, HH2.out, below_step HBw.out HB3.out⟩
        case measure => simp [intOf]; omega
set_option maxHeartbeats 2000000 in
theorem all_decl (p : Inf → Bool) (F : Fo) (hall : AllC (FunP 59 p) F) (A : Option Addr) (c : Nat) (w : World) (hH : Holds w w.heap.size F A 0) (hl : F.len ≤ 1000000000000000) : Calls Try.prog 34 #[.slice A F.len c, .func (.func 59) #[] #[]] w fun e w' => e = .returned (.bool (F.inf.all p)) ∧ Below w.heap.size w w' := by
  have HL := Lib.hid hall
  have HH := Lib.hid hH
  clear hall hH
  go_enter Try.func34, Try.ntmps34
  go_wp2_with fail
  go_loopw [6, 9] (fun _ i wr => ∃ (j : Nat) (R : Fo), j + R.len = F.len ∧ i = .int .i64 j ∧ R.inf.all p = F.inf.all p ∧ AllC (FunP 59 p) R ∧ Holds wr w.heap.size R A j ∧ Below w.heap.size w wr) (fun _ i _ => F.len - (intOf i).toNat)
  case atStart => exact ⟨0, F, by omega, by go_num, rfl, HL.out, HH.out, Below.refl _ _⟩
  case round =>
    obtain ⟨j, R, hj, rfl, hq, hlf, hHr, hB⟩ := hrel
    have HBw := Lib.hid hB
    have HQ := Lib.hid hq
    clear hB hq
    cases R with
    | nil =>
      have tj : decide ((j : Int) < (F.len : Int)) = false := by simp; simp [Fo.len] at hj; omega
      have tj2 : decide (j < F.len) = false := by simp; simp [Fo.len] at hj; omega
      clear hj hlf hHr
      go_wp2_with fail
      go_ret
      exact ⟨ret_bool HQ.out, HBw.out⟩
    | cons k1 t1 n1 m1 a1 P1 R1 =>
      obtain ⟨⟨ad, A1, c1, rfl, hblk, hcell, hc1, hc2, ht1, hP1⟩, hR1⟩ := hHr
      obtain ⟨hf1, hlf⟩ := hlf
      have hjl : j + 1 + R1.len = F.len := by simp only [Fo.len] at hj; omega
      have hjl2 : j < F.len := by omega
      obtain ⟨f0, f1, f2, f3, f4, f5⟩ := six hcell
      have hwr := HBw.out.size
      have K := Lib.hid (fun (o : Obj) => hf1 k1 t1 n1 m1 a1 A1 c1 (wr.alloc o) ((hP1.below ((Below.refl wr.heap.size wr).alloc (Nat.le_refl _) o |>.mono hwr)).more (by simp; omega)) hc1 hc2 ht1)
      simp only [val6, cells6] at K
      have HQ2 : Hid ((p (mk k1 t1 n1 m1 P1.inf) && R1.inf.all p) = F.inf.all p) := Lib.hid (by rw [← HQ.out]; simp [Fo.inf])
      have HR1 := Lib.hid hR1
      have HLF := Lib.hid hlf
      generalize p (mk k1 t1 n1 m1 P1.inf) = b at *
      clear hcell hR1 hlf hj hP1 hf1 HQ
      go_wp2_with fail
      refine (K.out _).mono ?_
      rintro e w2 ⟨rfl, hb⟩
      have HB3 := Lib.hid (((Below.refl wr.heap.size wr).alloc (Nat.le_refl _) _).trans (hb.mono (by simp)))
      have HH2 := Lib.hid (HR1.out.below (HB3.out.mono HBw.out.size))
      clear hb
      cases b with
      | false =>
        have HD : Hid (F.inf.all p = false) := Lib.hid (by rw [← HQ2.out]; rfl)
        go_wp2_with fail
        go_ret
        exact ⟨ret_bool HD.out.symm, below_step HBw.out HB3.out⟩
      | true =>
        have HD : Hid (R1.inf.all p = F.inf.all p) := Lib.hid (by rw [← HQ2.out]; rfl)
        go_wp2_with fail
        go_roundw
        case rel => exact ⟨j + 1, R1, hjl, by go_num, HD.out, HLF.out, HH2.out, below_step HBw.out HB3.out⟩
        case measure => simp [intOf]; omega
set_option maxHeartbeats 2000000 in
theorem all_importName (p : Inf → Bool) (F : Fo) (hall : AllC (FunP 74 p) F) (A : Option Addr) (c : Nat) (w : World) (hH : Holds w w.heap.size F A 0) (hl : F.len ≤ 1000000000000000) : Calls Try.prog 34 #[.slice A F.len c, .func (.func 74) #[] #[]] w fun e w' => e = .returned (.bool (F.inf.all p)) ∧ Below w.heap.size w w' := by
  have HL := Lib.hid hall
  have HH := Lib.hid hH
  clear hall hH
  go_enter Try.func34, Try.ntmps34
  go_wp2_with fail
  go_loopw [6, 9] (fun _ i wr => ∃ (j : Nat) (R : Fo), j + R.len = F.len ∧ i = .int .i64 j ∧ R.inf.all p = F.inf.all p ∧ AllC (FunP 74 p) R ∧ Holds wr w.heap.size R A j ∧ Below w.heap.size w wr) (fun _ i _ => F.len - (intOf i).toNat)
  case atStart => exact ⟨0, F, by omega, by go_num, rfl, HL.out, HH.out, Below.refl _ _⟩
  case round =>
    obtain ⟨j, R, hj, rfl, hq, hlf, hHr, hB⟩ := hrel
    have HBw := Lib.hid hB
    have HQ := Lib.hid hq
    clear hB hq
    cases R with
    | nil =>
      have tj : decide ((j : Int) < (F.len : Int)) = false := by simp; simp [Fo.len] at hj; omega
      have tj2 : decide (j < F.len) = false := by simp; simp [Fo.len] at hj; omega
      clear hj hlf hHr
      go_wp2_with fail
      go_ret
      exact ⟨ret_bool HQ.out, HBw.out⟩
    | cons k1 t1 n1 m1 a1 P1 R1 =>
      obtain ⟨⟨ad, A1, c1, rfl, hblk, hcell, hc1, hc2, ht1, hP1⟩, hR1⟩ := hHr
      obtain ⟨hf1, hlf⟩ := hlf
      have hjl : j + 1 + R1.len = F.len := by simp only [Fo.len] at hj; omega
      have hjl2 : j < F.len := by omega
      obtain ⟨f0, f1, f2, f3, f4, f5⟩ := six hcell
      have hwr := HBw.out.size
      have K := Lib.hid (fun (o : Obj) => hf1 k1 t1 n1 m1 a1 A1 c1 (wr.alloc o) ((hP1.below ((Below.refl wr.heap.size wr).alloc (Nat.le_refl _) o |>.mono hwr)).more (by simp; omega)) hc1 hc2 ht1)
      simp only [val6, cells6] at K
      have HQ2 : Hid ((p (mk k1 t1 n1 m1 P1.inf) && R1.inf.all p) = F.inf.all p) := Lib.hid (by rw [← HQ.out]; simp [Fo.inf])
      have HR1 := Lib.hid hR1
      have HLF := Lib.hid hlf
      generalize p (mk k1 t1 n1 m1 P1.inf) = b at *
      clear hcell hR1 hlf hj hP1 hf1 HQ
      go_wp2_with fail
      refine (K.out _).mono ?_
      rintro e w2 ⟨rfl, hb⟩
      have HB3 := Lib.hid (((Below.refl wr.heap.size wr).alloc (Nat.le_refl _) _).trans (hb.mono (by simp)))
      have HH2 := Lib.hid (HR1.out.below (HB3.out.mono HBw.out.size))
      clear hb
      cases b with
      | false =>
        have HD : Hid (F.inf.all p = false) := Lib.hid (by rw [← HQ2.out]; rfl)
        go_wp2_with fail
        go_ret
        exact ⟨ret_bool HD.out.symm, below_step HBw.out HB3.out⟩
      | true =>
        have HD : Hid (R1.inf.all p = F.inf.all p) := Lib.hid (by rw [← HQ2.out]; rfl)
        go_wp2_with fail
        go_roundw
        case rel => exact ⟨j + 1, R1, hjl, by go_num, HD.out, HLF.out, HH2.out, below_step HBw.out HB3.out⟩
        case measure => simp [intOf]; omega
end Go.Proofs.Ytogoolpgajopcaa
