import Derived.Test.YtfchnfnifpopnaaGreatDoorMa11
import Derived.BigQuiet
namespace Go.Proofs.YtfchnfnifpopnaaGreatDoor
open Go.RowKit
set_option maxRecDepth 100000 in
set_option maxHeartbeats 16000000 in
theorem fits_ffff {w : World} {b o np nf nv c1 c2 c3 : Nat} {t : ByteArray} {n lo hi : Int} {A1 A2 A3 : Option Addr} (x1 : w.cell? ⟨b, o + 1, none⟩ = some (.string t)) (x2 : w.cell? ⟨b, o + 2, none⟩ = some (.int .i64 n)) (x3 : w.cell? ⟨b, o + 3, none⟩ = some (.slice A1 np c1)) (x4 : w.cell? ⟨b, o + 4, none⟩ = some (.slice A2 nf c2)) (x5 : w.cell? ⟨b, o + 5, none⟩ = some (.slice A3 nv c3)) :
  Calls Tryz.prog 48 #[.agg #[.bool false, .bool false, .bool false, .bool false, .int .i64 lo, .int .i64 hi], .pointer (some ⟨b, o, none⟩)] w fun e w' => e = .returned (.bool (fitsB ⟨false, false, false, false, lo, hi, true⟩ t n np nf nv)) ∧ Below w.heap.size w w' := by
 have hlt : b < w.heap.size := World.block_lt_of_cell? _ _ x1
 have HB : Hid (Below w.heap.size w (w.alloc (.cells #[.bool false, .bool false, .bool false, .bool false, .int .i64 lo, .int .i64 hi] 71))) := Lib.hid ((Below.refl _ _).alloc (Nat.le_refl _) _)
 cases q0 : t.toList with
 | nil =>
  have e0 : (t.toList == []) = true := by rw [q0]; rfl
  have Q0 := Lib.hid e0
  by_cases q1 : n = 0
  ·have e1 : (n != 0) = false := by simpa using q1
   have Q1 := Lib.hid q1
   clear q1
   by_cases q2 : nf = 0
   ·have e2 : ¬ 0 < nf := by omega
    have z2 : decide ((0 : Int) < (nf : Int)) = false := by simp; omega
    have Q2 := Lib.hid e2
    clear q2
    by_cases q3 : nv = 0
    ·have e3 : ¬ 0 < nv := by omega
     have z3 : decide ((0 : Int) < (nv : Int)) = false := by simp; omega
     have Q3 := Lib.hid e3
     clear q3
     by_cases h1 : lo ≤ (np : Int)
     ·by_cases h2 : hi = -1
      ·have t2 : (hi == -1) = true := by simpa using h2
       have HR : Hid (fitsB ⟨false, false, false, false, lo, hi, true⟩ t n np nf nv = true) := Lib.hid (by unfold fitsB; simp [Q0.out, Q1.out, Q2.out, Q3.out, h1, h2])
       clear h2
       go_enter Tryz.func48, Tryz.ntmps48
       go_wp2_with fail
       go_quiet (fail)
       go_wp2_with fail
       go_ret
       exact ⟨by rw [HR.out]; first | rfl | (show Ending.returned (.bool (decide ((np : Int) ≤ hi))) = _; rw [t3]), by first | exact HB.out | exact drewN_below HB.out _ | exact HB.out.drew⟩
      ·have t2 : (hi == -1) = false := by simpa using h2
       by_cases h3 : (np : Int) ≤ hi
       ·have t3 : decide ((np : Int) ≤ hi) = true := by simpa using h3
        have HR : Hid (fitsB ⟨false, false, false, false, lo, hi, true⟩ t n np nf nv = true) := Lib.hid (by unfold fitsB; simp [Q0.out, Q1.out, Q2.out, Q3.out, h1, t2, h3])
        clear h2
        go_enter Tryz.func48, Tryz.ntmps48
        go_wp2_with fail
        go_quiet (fail)
        go_wp2_with fail
        go_ret
        exact ⟨by rw [HR.out]; first | rfl | (show Ending.returned (.bool (decide ((np : Int) ≤ hi))) = _; rw [t3]), by first | exact HB.out | exact drewN_below HB.out _ | exact HB.out.drew⟩
       ·have t3 : decide ((np : Int) ≤ hi) = false := by simpa using h3
        have HR : Hid (fitsB ⟨false, false, false, false, lo, hi, true⟩ t n np nf nv = false) := Lib.hid (by unfold fitsB; simp [Q0.out, Q1.out, Q2.out, Q3.out, t2, h3])
        clear h2
        go_enter Tryz.func48, Tryz.ntmps48
        go_wp2_with fail
        go_quiet (fail)
        go_wp2_with fail
        go_ret
        exact ⟨by rw [HR.out]; first | rfl | (show Ending.returned (.bool (decide ((np : Int) ≤ hi))) = _; rw [t3]), by first | exact HB.out | exact drewN_below HB.out _ | exact HB.out.drew⟩
     ·have t1 : decide (lo ≤ (np : Int)) = false := by simpa using h1
      have t1b : (np : Int) < lo := by omega
      have HR : Hid (fitsB ⟨false, false, false, false, lo, hi, true⟩ t n np nf nv = false) := Lib.hid (by unfold fitsB; simp [Q0.out, Q1.out, Q2.out, Q3.out, h1])
      go_enter Tryz.func48, Tryz.ntmps48
      go_wp2_with fail
      go_quiet (fail)
      go_wp2_with fail
      go_ret
      exact ⟨by rw [HR.out]; first | rfl | (show Ending.returned (.bool (decide ((np : Int) ≤ hi))) = _; rw [t3]), by first | exact HB.out | exact drewN_below HB.out _ | exact HB.out.drew⟩
    ·have e3 : 0 < nv := by omega
     have z3 : decide ((0 : Int) < (nv : Int)) = true := by simp; omega
     have Q3 := Lib.hid e3
     clear q3
     have HR : Hid (fitsB ⟨false, false, false, false, lo, hi, true⟩ t n np nf nv = false) := Lib.hid (by unfold fitsB; simp [Q0.out, Q1.out, Q2.out, Q3.out])
     go_enter Tryz.func48, Tryz.ntmps48
     go_wp2_with fail
     go_ret
     exact ⟨by rw [HR.out]; first | rfl | (show Ending.returned (.bool (decide ((np : Int) ≤ hi))) = _; rw [t3]), by first | exact HB.out | exact drewN_below HB.out _ | exact HB.out.drew⟩
   ·have e2 : 0 < nf := by omega
    have z2 : decide ((0 : Int) < (nf : Int)) = true := by simp; omega
    have Q2 := Lib.hid e2
    clear q2
    have HR : Hid (fitsB ⟨false, false, false, false, lo, hi, true⟩ t n np nf nv = false) := Lib.hid (by unfold fitsB; simp [Q0.out, Q1.out, Q2.out])
    go_enter Tryz.func48, Tryz.ntmps48
    go_wp2_with fail
    go_ret
    exact ⟨by rw [HR.out]; first | rfl | (show Ending.returned (.bool (decide ((np : Int) ≤ hi))) = _; rw [t3]), by first | exact HB.out | exact drewN_below HB.out _ | exact HB.out.drew⟩
  ·have e1 : (n != 0) = true := by simpa using q1
   have Q1 := Lib.hid q1
   have HR : Hid (fitsB ⟨false, false, false, false, lo, hi, true⟩ t n np nf nv = false) := Lib.hid (by unfold fitsB; simp [Q0.out, Q1.out])
   clear q1
   go_enter Tryz.func48, Tryz.ntmps48
   go_wp2_with fail
   go_ret
   exact ⟨by rw [HR.out]; first | rfl | (show Ending.returned (.bool (decide ((np : Int) ≤ hi))) = _; rw [t3]), by first | exact HB.out | exact drewN_below HB.out _ | exact HB.out.drew⟩
 | cons hd tl =>
  have e0 : (t.toList == []) = false := by rw [q0]; rfl
  have Q0 := Lib.hid e0
  have HR : Hid (fitsB ⟨false, false, false, false, lo, hi, true⟩ t n np nf nv = false) := Lib.hid (by unfold fitsB; simp [Q0.out])
  go_enter Tryz.func48, Tryz.ntmps48
  go_wp2_with fail
  go_ret
  exact ⟨by rw [HR.out]; first | rfl | (show Ending.returned (.bool (decide ((np : Int) ≤ hi))) = _; rw [t3]), by first | exact HB.out | exact drewN_below HB.out _ | exact HB.out.drew⟩
set_option maxRecDepth 100000 in
set_option maxHeartbeats 16000000 in
theorem fits_tfff {w : World} {b o np nf nv c1 c2 c3 : Nat} {t : ByteArray} {n lo hi : Int} {A1 A2 A3 : Option Addr} (x1 : w.cell? ⟨b, o + 1, none⟩ = some (.string t)) (x2 : w.cell? ⟨b, o + 2, none⟩ = some (.int .i64 n)) (x3 : w.cell? ⟨b, o + 3, none⟩ = some (.slice A1 np c1)) (x4 : w.cell? ⟨b, o + 4, none⟩ = some (.slice A2 nf c2)) (x5 : w.cell? ⟨b, o + 5, none⟩ = some (.slice A3 nv c3)) :
  Calls Tryz.prog 48 #[.agg #[.bool true, .bool false, .bool false, .bool false, .int .i64 lo, .int .i64 hi], .pointer (some ⟨b, o, none⟩)] w fun e w' => e = .returned (.bool (fitsB ⟨true, false, false, false, lo, hi, true⟩ t n np nf nv)) ∧ Below w.heap.size w w' := by
 have hlt : b < w.heap.size := World.block_lt_of_cell? _ _ x1
 have HB : Hid (Below w.heap.size w (w.alloc (.cells #[.bool true, .bool false, .bool false, .bool false, .int .i64 lo, .int .i64 hi] 71))) := Lib.hid ((Below.refl _ _).alloc (Nat.le_refl _) _)
 by_cases q1 : n = 0
 ·have e1 : (n != 0) = false := by simpa using q1
  have Q1 := Lib.hid q1
  clear q1
  by_cases q2 : nf = 0
  ·have e2 : ¬ 0 < nf := by omega
   have z2 : decide ((0 : Int) < (nf : Int)) = false := by simp; omega
   have Q2 := Lib.hid e2
   clear q2
   by_cases q3 : nv = 0
   ·have e3 : ¬ 0 < nv := by omega
    have z3 : decide ((0 : Int) < (nv : Int)) = false := by simp; omega
    have Q3 := Lib.hid e3
    clear q3
    by_cases h1 : lo ≤ (np : Int)
    ·by_cases h2 : hi = -1
     ·have t2 : (hi == -1) = true := by simpa using h2
      have HR : Hid (fitsB ⟨true, false, false, false, lo, hi, true⟩ t n np nf nv = true) := Lib.hid (by unfold fitsB; simp [Q1.out, Q2.out, Q3.out, h1, h2])
      clear h2
      go_enter Tryz.func48, Tryz.ntmps48
      go_wp2_with fail
      go_quiet (fail)
      go_wp2_with fail
      go_ret
      exact ⟨by rw [HR.out]; first | rfl | (show Ending.returned (.bool (decide ((np : Int) ≤ hi))) = _; rw [t3]), by first | exact HB.out | exact drewN_below HB.out _ | exact HB.out.drew⟩
     ·have t2 : (hi == -1) = false := by simpa using h2
      by_cases h3 : (np : Int) ≤ hi
      ·have t3 : decide ((np : Int) ≤ hi) = true := by simpa using h3
       have HR : Hid (fitsB ⟨true, false, false, false, lo, hi, true⟩ t n np nf nv = true) := Lib.hid (by unfold fitsB; simp [Q1.out, Q2.out, Q3.out, h1, t2, h3])
       clear h2
       go_enter Tryz.func48, Tryz.ntmps48
       go_wp2_with fail
       go_quiet (fail)
       go_wp2_with fail
       go_ret
       exact ⟨by rw [HR.out]; first | rfl | (show Ending.returned (.bool (decide ((np : Int) ≤ hi))) = _; rw [t3]), by first | exact HB.out | exact drewN_below HB.out _ | exact HB.out.drew⟩
      ·have t3 : decide ((np : Int) ≤ hi) = false := by simpa using h3
       have HR : Hid (fitsB ⟨true, false, false, false, lo, hi, true⟩ t n np nf nv = false) := Lib.hid (by unfold fitsB; simp [Q1.out, Q2.out, Q3.out, t2, h3])
       clear h2
       go_enter Tryz.func48, Tryz.ntmps48
       go_wp2_with fail
       go_quiet (fail)
       go_wp2_with fail
       go_ret
       exact ⟨by rw [HR.out]; first | rfl | (show Ending.returned (.bool (decide ((np : Int) ≤ hi))) = _; rw [t3]), by first | exact HB.out | exact drewN_below HB.out _ | exact HB.out.drew⟩
    ·have t1 : decide (lo ≤ (np : Int)) = false := by simpa using h1
     have t1b : (np : Int) < lo := by omega
     have HR : Hid (fitsB ⟨true, false, false, false, lo, hi, true⟩ t n np nf nv = false) := Lib.hid (by unfold fitsB; simp [Q1.out, Q2.out, Q3.out, h1])
     go_enter Tryz.func48, Tryz.ntmps48
     go_wp2_with fail
     go_quiet (fail)
     go_wp2_with fail
     go_ret
     exact ⟨by rw [HR.out]; first | rfl | (show Ending.returned (.bool (decide ((np : Int) ≤ hi))) = _; rw [t3]), by first | exact HB.out | exact drewN_below HB.out _ | exact HB.out.drew⟩
   ·have e3 : 0 < nv := by omega
    have z3 : decide ((0 : Int) < (nv : Int)) = true := by simp; omega
    have Q3 := Lib.hid e3
    clear q3
    have HR : Hid (fitsB ⟨true, false, false, false, lo, hi, true⟩ t n np nf nv = false) := Lib.hid (by unfold fitsB; simp [Q1.out, Q2.out, Q3.out])
    go_enter Tryz.func48, Tryz.ntmps48
    go_wp2_with fail
    go_ret
    exact ⟨by rw [HR.out]; first | rfl | (show Ending.returned (.bool (decide ((np : Int) ≤ hi))) = _; rw [t3]), by first | exact HB.out | exact drewN_below HB.out _ | exact HB.out.drew⟩
  ·have e2 : 0 < nf := by omega
   have z2 : decide ((0 : Int) < (nf : Int)) = true := by simp; omega
   have Q2 := Lib.hid e2
   clear q2
   have HR : Hid (fitsB ⟨true, false, false, false, lo, hi, true⟩ t n np nf nv = false) := Lib.hid (by unfold fitsB; simp [Q1.out, Q2.out])
   go_enter Tryz.func48, Tryz.ntmps48
   go_wp2_with fail
   go_ret
   exact ⟨by rw [HR.out]; first | rfl | (show Ending.returned (.bool (decide ((np : Int) ≤ hi))) = _; rw [t3]), by first | exact HB.out | exact drewN_below HB.out _ | exact HB.out.drew⟩
 ·have e1 : (n != 0) = true := by simpa using q1
  have Q1 := Lib.hid q1
  have HR : Hid (fitsB ⟨true, false, false, false, lo, hi, true⟩ t n np nf nv = false) := Lib.hid (by unfold fitsB; simp [Q1.out])
  clear q1
  go_enter Tryz.func48, Tryz.ntmps48
  go_wp2_with fail
  go_ret
  exact ⟨by rw [HR.out]; first | rfl | (show Ending.returned (.bool (decide ((np : Int) ≤ hi))) = _; rw [t3]), by first | exact HB.out | exact drewN_below HB.out _ | exact HB.out.drew⟩
set_option maxRecDepth 100000 in
set_option maxHeartbeats 16000000 in
theorem fits_ttff {w : World} {b o np nf nv c1 c2 c3 : Nat} {t : ByteArray} {n lo hi : Int} {A1 A2 A3 : Option Addr} (x1 : w.cell? ⟨b, o + 1, none⟩ = some (.string t)) (_x2 : w.cell? ⟨b, o + 2, none⟩ = some (.int .i64 n)) (x3 : w.cell? ⟨b, o + 3, none⟩ = some (.slice A1 np c1)) (x4 : w.cell? ⟨b, o + 4, none⟩ = some (.slice A2 nf c2)) (x5 : w.cell? ⟨b, o + 5, none⟩ = some (.slice A3 nv c3)) :
  Calls Tryz.prog 48 #[.agg #[.bool true, .bool true, .bool false, .bool false, .int .i64 lo, .int .i64 hi], .pointer (some ⟨b, o, none⟩)] w fun e w' => e = .returned (.bool (fitsB ⟨true, true, false, false, lo, hi, true⟩ t n np nf nv)) ∧ Below w.heap.size w w' := by
 have hlt : b < w.heap.size := World.block_lt_of_cell? _ _ x1
 have HB : Hid (Below w.heap.size w (w.alloc (.cells #[.bool true, .bool true, .bool false, .bool false, .int .i64 lo, .int .i64 hi] 71))) := Lib.hid ((Below.refl _ _).alloc (Nat.le_refl _) _)
 by_cases q2 : nf = 0
 ·have e2 : ¬ 0 < nf := by omega
  have z2 : decide ((0 : Int) < (nf : Int)) = false := by simp; omega
  have Q2 := Lib.hid e2
  clear q2
  by_cases q3 : nv = 0
  ·have e3 : ¬ 0 < nv := by omega
   have z3 : decide ((0 : Int) < (nv : Int)) = false := by simp; omega
   have Q3 := Lib.hid e3
   clear q3
   by_cases h1 : lo ≤ (np : Int)
   ·by_cases h2 : hi = -1
    ·have t2 : (hi == -1) = true := by simpa using h2
     have HR : Hid (fitsB ⟨true, true, false, false, lo, hi, true⟩ t n np nf nv = true) := Lib.hid (by unfold fitsB; simp [Q2.out, Q3.out, h1, h2])
     clear h2
     go_enter Tryz.func48, Tryz.ntmps48
     go_wp2_with fail
     go_quiet (fail)
     go_wp2_with fail
     go_ret
     exact ⟨by rw [HR.out]; first | rfl | (show Ending.returned (.bool (decide ((np : Int) ≤ hi))) = _; rw [t3]), by first | exact HB.out | exact drewN_below HB.out _ | exact HB.out.drew⟩
    ·have t2 : (hi == -1) = false := by simpa using h2
     by_cases h3 : (np : Int) ≤ hi
     ·have t3 : decide ((np : Int) ≤ hi) = true := by simpa using h3
      have HR : Hid (fitsB ⟨true, true, false, false, lo, hi, true⟩ t n np nf nv = true) := Lib.hid (by unfold fitsB; simp [Q2.out, Q3.out, h1, t2, h3])
      clear h2
      go_enter Tryz.func48, Tryz.ntmps48
      go_wp2_with fail
      go_quiet (fail)
      go_wp2_with fail
      go_ret
      exact ⟨by rw [HR.out]; first | rfl | (show Ending.returned (.bool (decide ((np : Int) ≤ hi))) = _; rw [t3]), by first | exact HB.out | exact drewN_below HB.out _ | exact HB.out.drew⟩
     ·have t3 : decide ((np : Int) ≤ hi) = false := by simpa using h3
      have HR : Hid (fitsB ⟨true, true, false, false, lo, hi, true⟩ t n np nf nv = false) := Lib.hid (by unfold fitsB; simp [Q2.out, Q3.out, t2, h3])
      clear h2
      go_enter Tryz.func48, Tryz.ntmps48
      go_wp2_with fail
      go_quiet (fail)
      go_wp2_with fail
      go_ret
      exact ⟨by rw [HR.out]; first | rfl | (show Ending.returned (.bool (decide ((np : Int) ≤ hi))) = _; rw [t3]), by first | exact HB.out | exact drewN_below HB.out _ | exact HB.out.drew⟩
   ·have t1 : decide (lo ≤ (np : Int)) = false := by simpa using h1
    have t1b : (np : Int) < lo := by omega
    have HR : Hid (fitsB ⟨true, true, false, false, lo, hi, true⟩ t n np nf nv = false) := Lib.hid (by unfold fitsB; simp [Q2.out, Q3.out, h1])
    go_enter Tryz.func48, Tryz.ntmps48
    go_wp2_with fail
    go_quiet (fail)
    go_wp2_with fail
    go_ret
    exact ⟨by rw [HR.out]; first | rfl | (show Ending.returned (.bool (decide ((np : Int) ≤ hi))) = _; rw [t3]), by first | exact HB.out | exact drewN_below HB.out _ | exact HB.out.drew⟩
  ·have e3 : 0 < nv := by omega
   have z3 : decide ((0 : Int) < (nv : Int)) = true := by simp; omega
   have Q3 := Lib.hid e3
   clear q3
   have HR : Hid (fitsB ⟨true, true, false, false, lo, hi, true⟩ t n np nf nv = false) := Lib.hid (by unfold fitsB; simp [Q2.out, Q3.out])
   go_enter Tryz.func48, Tryz.ntmps48
   go_wp2_with fail
   go_ret
   exact ⟨by rw [HR.out]; first | rfl | (show Ending.returned (.bool (decide ((np : Int) ≤ hi))) = _; rw [t3]), by first | exact HB.out | exact drewN_below HB.out _ | exact HB.out.drew⟩
 ·have e2 : 0 < nf := by omega
  have z2 : decide ((0 : Int) < (nf : Int)) = true := by simp; omega
  have Q2 := Lib.hid e2
  clear q2
  have HR : Hid (fitsB ⟨true, true, false, false, lo, hi, true⟩ t n np nf nv = false) := Lib.hid (by unfold fitsB; simp [Q2.out])
  go_enter Tryz.func48, Tryz.ntmps48
  go_wp2_with fail
  go_ret
  exact ⟨by rw [HR.out]; first | rfl | (show Ending.returned (.bool (decide ((np : Int) ≤ hi))) = _; rw [t3]), by first | exact HB.out | exact drewN_below HB.out _ | exact HB.out.drew⟩
set_option maxRecDepth 100000 in
set_option maxHeartbeats 16000000 in
theorem fits_ftff {w : World} {b o np nf nv c1 c2 c3 : Nat} {t : ByteArray} {n lo hi : Int} {A1 A2 A3 : Option Addr} (x1 : w.cell? ⟨b, o + 1, none⟩ = some (.string t)) (_x2 : w.cell? ⟨b, o + 2, none⟩ = some (.int .i64 n)) (x3 : w.cell? ⟨b, o + 3, none⟩ = some (.slice A1 np c1)) (x4 : w.cell? ⟨b, o + 4, none⟩ = some (.slice A2 nf c2)) (x5 : w.cell? ⟨b, o + 5, none⟩ = some (.slice A3 nv c3)) :
  Calls Tryz.prog 48 #[.agg #[.bool false, .bool true, .bool false, .bool false, .int .i64 lo, .int .i64 hi], .pointer (some ⟨b, o, none⟩)] w fun e w' => e = .returned (.bool (fitsB ⟨false, true, false, false, lo, hi, true⟩ t n np nf nv)) ∧ Below w.heap.size w w' := by
 have hlt : b < w.heap.size := World.block_lt_of_cell? _ _ x1
 have HB : Hid (Below w.heap.size w (w.alloc (.cells #[.bool false, .bool true, .bool false, .bool false, .int .i64 lo, .int .i64 hi] 71))) := Lib.hid ((Below.refl _ _).alloc (Nat.le_refl _) _)
 cases q0 : t.toList with
 | nil =>
  have e0 : (t.toList == []) = true := by rw [q0]; rfl
  have Q0 := Lib.hid e0
  by_cases q2 : nf = 0
  ·have e2 : ¬ 0 < nf := by omega
   have z2 : decide ((0 : Int) < (nf : Int)) = false := by simp; omega
   have Q2 := Lib.hid e2
   clear q2
   by_cases q3 : nv = 0
   ·have e3 : ¬ 0 < nv := by omega
    have z3 : decide ((0 : Int) < (nv : Int)) = false := by simp; omega
    have Q3 := Lib.hid e3
    clear q3
    by_cases h1 : lo ≤ (np : Int)
    ·by_cases h2 : hi = -1
     ·have t2 : (hi == -1) = true := by simpa using h2
      have HR : Hid (fitsB ⟨false, true, false, false, lo, hi, true⟩ t n np nf nv = true) := Lib.hid (by unfold fitsB; simp [Q0.out, Q2.out, Q3.out, h1, h2])
      clear h2
      go_enter Tryz.func48, Tryz.ntmps48
      go_wp2_with fail
      go_quiet (fail)
      go_wp2_with fail
      go_ret
      exact ⟨by rw [HR.out]; first | rfl | (show Ending.returned (.bool (decide ((np : Int) ≤ hi))) = _; rw [t3]), by first | exact HB.out | exact drewN_below HB.out _ | exact HB.out.drew⟩
     ·have t2 : (hi == -1) = false := by simpa using h2
      by_cases h3 : (np : Int) ≤ hi
      ·have t3 : decide ((np : Int) ≤ hi) = true := by simpa using h3
       have HR : Hid (fitsB ⟨false, true, false, false, lo, hi, true⟩ t n np nf nv = true) := Lib.hid (by unfold fitsB; simp [Q0.out, Q2.out, Q3.out, h1, t2, h3])
       clear h2
       go_enter Tryz.func48, Tryz.ntmps48
       go_wp2_with fail
       go_quiet (fail)
       go_wp2_with fail
       go_ret
       exact ⟨by rw [HR.out]; first | rfl | (show Ending.returned (.bool (decide ((np : Int) ≤ hi))) = _; rw [t3]), by first | exact HB.out | exact drewN_below HB.out _ | exact HB.out.drew⟩
      ·have t3 : decide ((np : Int) ≤ hi) = false := by simpa using h3
       have HR : Hid (fitsB ⟨false, true, false, false, lo, hi, true⟩ t n np nf nv = false) := Lib.hid (by unfold fitsB; simp [Q0.out, Q2.out, Q3.out, t2, h3])
       clear h2
       go_enter Tryz.func48, Tryz.ntmps48
       go_wp2_with fail
       go_quiet (fail)
       go_wp2_with fail
       go_ret
       exact ⟨by rw [HR.out]; first | rfl | (show Ending.returned (.bool (decide ((np : Int) ≤ hi))) = _; rw [t3]), by first | exact HB.out | exact drewN_below HB.out _ | exact HB.out.drew⟩
    ·have t1 : decide (lo ≤ (np : Int)) = false := by simpa using h1
     have t1b : (np : Int) < lo := by omega
     have HR : Hid (fitsB ⟨false, true, false, false, lo, hi, true⟩ t n np nf nv = false) := Lib.hid (by unfold fitsB; simp [Q0.out, Q2.out, Q3.out, h1])
     go_enter Tryz.func48, Tryz.ntmps48
     go_wp2_with fail
     go_quiet (fail)
     go_wp2_with fail
     go_ret
     exact ⟨by rw [HR.out]; first | rfl | (show Ending.returned (.bool (decide ((np : Int) ≤ hi))) = _; rw [t3]), by first | exact HB.out | exact drewN_below HB.out _ | exact HB.out.drew⟩
   ·have e3 : 0 < nv := by omega
    have z3 : decide ((0 : Int) < (nv : Int)) = true := by simp; omega
    have Q3 := Lib.hid e3
    clear q3
    have HR : Hid (fitsB ⟨false, true, false, false, lo, hi, true⟩ t n np nf nv = false) := Lib.hid (by unfold fitsB; simp [Q0.out, Q2.out, Q3.out])
    go_enter Tryz.func48, Tryz.ntmps48
    go_wp2_with fail
    go_ret
    exact ⟨by rw [HR.out]; first | rfl | (show Ending.returned (.bool (decide ((np : Int) ≤ hi))) = _; rw [t3]), by first | exact HB.out | exact drewN_below HB.out _ | exact HB.out.drew⟩
  ·have e2 : 0 < nf := by omega
   have z2 : decide ((0 : Int) < (nf : Int)) = true := by simp; omega
   have Q2 := Lib.hid e2
   clear q2
   have HR : Hid (fitsB ⟨false, true, false, false, lo, hi, true⟩ t n np nf nv = false) := Lib.hid (by unfold fitsB; simp [Q0.out, Q2.out])
   go_enter Tryz.func48, Tryz.ntmps48
   go_wp2_with fail
   go_ret
   exact ⟨by rw [HR.out]; first | rfl | (show Ending.returned (.bool (decide ((np : Int) ≤ hi))) = _; rw [t3]), by first | exact HB.out | exact drewN_below HB.out _ | exact HB.out.drew⟩
 | cons hd tl =>
  have e0 : (t.toList == []) = false := by rw [q0]; rfl
  have Q0 := Lib.hid e0
  have HR : Hid (fitsB ⟨false, true, false, false, lo, hi, true⟩ t n np nf nv = false) := Lib.hid (by unfold fitsB; simp [Q0.out])
  go_enter Tryz.func48, Tryz.ntmps48
  go_wp2_with fail
  go_ret
  exact ⟨by rw [HR.out]; first | rfl | (show Ending.returned (.bool (decide ((np : Int) ≤ hi))) = _; rw [t3]), by first | exact HB.out | exact drewN_below HB.out _ | exact HB.out.drew⟩
set_option maxRecDepth 100000 in
set_option maxHeartbeats 16000000 in
theorem fits_ffft {w : World} {b o np nf nv c1 c2 c3 : Nat} {t : ByteArray} {n lo hi : Int} {A1 A2 A3 : Option Addr} (x1 : w.cell? ⟨b, o + 1, none⟩ = some (.string t)) (x2 : w.cell? ⟨b, o + 2, none⟩ = some (.int .i64 n)) (x3 : w.cell? ⟨b, o + 3, none⟩ = some (.slice A1 np c1)) (x4 : w.cell? ⟨b, o + 4, none⟩ = some (.slice A2 nf c2)) (_x5 : w.cell? ⟨b, o + 5, none⟩ = some (.slice A3 nv c3)) :
  Calls Tryz.prog 48 #[.agg #[.bool false, .bool false, .bool false, .bool true, .int .i64 lo, .int .i64 hi], .pointer (some ⟨b, o, none⟩)] w fun e w' => e = .returned (.bool (fitsB ⟨false, false, false, true, lo, hi, true⟩ t n np nf nv)) ∧ Below w.heap.size w w' := by
 have hlt : b < w.heap.size := World.block_lt_of_cell? _ _ x1
 have HB : Hid (Below w.heap.size w (w.alloc (.cells #[.bool false, .bool false, .bool false, .bool true, .int .i64 lo, .int .i64 hi] 71))) := Lib.hid ((Below.refl _ _).alloc (Nat.le_refl _) _)
 cases q0 : t.toList with
 | nil =>
  have e0 : (t.toList == []) = true := by rw [q0]; rfl
  have Q0 := Lib.hid e0
  by_cases q1 : n = 0
  ·have e1 : (n != 0) = false := by simpa using q1
   have Q1 := Lib.hid q1
   clear q1
   by_cases q2 : nf = 0
   ·have e2 : ¬ 0 < nf := by omega
    have z2 : decide ((0 : Int) < (nf : Int)) = false := by simp; omega
    have Q2 := Lib.hid e2
    clear q2
    by_cases h1 : lo ≤ (np : Int)
    ·by_cases h2 : hi = -1
     ·have t2 : (hi == -1) = true := by simpa using h2
      have HR : Hid (fitsB ⟨false, false, false, true, lo, hi, true⟩ t n np nf nv = true) := Lib.hid (by unfold fitsB; simp [Q0.out, Q1.out, Q2.out, h1, h2])
      clear h2
      go_enter Tryz.func48, Tryz.ntmps48
      go_wp2_with fail
      go_quiet (fail)
      go_wp2_with fail
      go_ret
      exact ⟨by rw [HR.out]; first | rfl | (show Ending.returned (.bool (decide ((np : Int) ≤ hi))) = _; rw [t3]), by first | exact HB.out | exact drewN_below HB.out _ | exact HB.out.drew⟩
     ·have t2 : (hi == -1) = false := by simpa using h2
      by_cases h3 : (np : Int) ≤ hi
      ·have t3 : decide ((np : Int) ≤ hi) = true := by simpa using h3
       have HR : Hid (fitsB ⟨false, false, false, true, lo, hi, true⟩ t n np nf nv = true) := Lib.hid (by unfold fitsB; simp [Q0.out, Q1.out, Q2.out, h1, t2, h3])
       clear h2
       go_enter Tryz.func48, Tryz.ntmps48
       go_wp2_with fail
       go_quiet (fail)
       go_wp2_with fail
       go_ret
       exact ⟨by rw [HR.out]; first | rfl | (show Ending.returned (.bool (decide ((np : Int) ≤ hi))) = _; rw [t3]), by first | exact HB.out | exact drewN_below HB.out _ | exact HB.out.drew⟩
      ·have t3 : decide ((np : Int) ≤ hi) = false := by simpa using h3
       have HR : Hid (fitsB ⟨false, false, false, true, lo, hi, true⟩ t n np nf nv = false) := Lib.hid (by unfold fitsB; simp [Q0.out, Q1.out, Q2.out, t2, h3])
       clear h2
       go_enter Tryz.func48, Tryz.ntmps48
       go_wp2_with fail
       go_quiet (fail)
       go_wp2_with fail
       go_ret
       exact ⟨by rw [HR.out]; first | rfl | (show Ending.returned (.bool (decide ((np : Int) ≤ hi))) = _; rw [t3]), by first | exact HB.out | exact drewN_below HB.out _ | exact HB.out.drew⟩
    ·have t1 : decide (lo ≤ (np : Int)) = false := by simpa using h1
     have t1b : (np : Int) < lo := by omega
     have HR : Hid (fitsB ⟨false, false, false, true, lo, hi, true⟩ t n np nf nv = false) := Lib.hid (by unfold fitsB; simp [Q0.out, Q1.out, Q2.out, h1])
     go_enter Tryz.func48, Tryz.ntmps48
     go_wp2_with fail
     go_quiet (fail)
     go_wp2_with fail
     go_ret
     exact ⟨by rw [HR.out]; first | rfl | (show Ending.returned (.bool (decide ((np : Int) ≤ hi))) = _; rw [t3]), by first | exact HB.out | exact drewN_below HB.out _ | exact HB.out.drew⟩
   ·have e2 : 0 < nf := by omega
    have z2 : decide ((0 : Int) < (nf : Int)) = true := by simp; omega
    have Q2 := Lib.hid e2
    clear q2
    have HR : Hid (fitsB ⟨false, false, false, true, lo, hi, true⟩ t n np nf nv = false) := Lib.hid (by unfold fitsB; simp [Q0.out, Q1.out, Q2.out])
    go_enter Tryz.func48, Tryz.ntmps48
    go_wp2_with fail
    go_ret
    exact ⟨by rw [HR.out]; first | rfl | (show Ending.returned (.bool (decide ((np : Int) ≤ hi))) = _; rw [t3]), by first | exact HB.out | exact drewN_below HB.out _ | exact HB.out.drew⟩
  ·have e1 : (n != 0) = true := by simpa using q1
   have Q1 := Lib.hid q1
   have HR : Hid (fitsB ⟨false, false, false, true, lo, hi, true⟩ t n np nf nv = false) := Lib.hid (by unfold fitsB; simp [Q0.out, Q1.out])
   clear q1
   go_enter Tryz.func48, Tryz.ntmps48
   go_wp2_with fail
   go_ret
   exact ⟨by rw [HR.out]; first | rfl | (show Ending.returned (.bool (decide ((np : Int) ≤ hi))) = _; rw [t3]), by first | exact HB.out | exact drewN_below HB.out _ | exact HB.out.drew⟩
 | cons hd tl =>
  have e0 : (t.toList == []) = false := by rw [q0]; rfl
  have Q0 := Lib.hid e0
  have HR : Hid (fitsB ⟨false, false, false, true, lo, hi, true⟩ t n np nf nv = false) := Lib.hid (by unfold fitsB; simp [Q0.out])
  go_enter Tryz.func48, Tryz.ntmps48
  go_wp2_with fail
  go_ret
  exact ⟨by rw [HR.out]; first | rfl | (show Ending.returned (.bool (decide ((np : Int) ≤ hi))) = _; rw [t3]), by first | exact HB.out | exact drewN_below HB.out _ | exact HB.out.drew⟩
set_option maxRecDepth 100000 in
set_option maxHeartbeats 16000000 in
theorem fits_fftf {w : World} {b o np nf nv c1 c2 c3 : Nat} {t : ByteArray} {n lo hi : Int} {A1 A2 A3 : Option Addr} (x1 : w.cell? ⟨b, o + 1, none⟩ = some (.string t)) (x2 : w.cell? ⟨b, o + 2, none⟩ = some (.int .i64 n)) (x3 : w.cell? ⟨b, o + 3, none⟩ = some (.slice A1 np c1)) (_x4 : w.cell? ⟨b, o + 4, none⟩ = some (.slice A2 nf c2)) (x5 : w.cell? ⟨b, o + 5, none⟩ = some (.slice A3 nv c3)) :
  Calls Tryz.prog 48 #[.agg #[.bool false, .bool false, .bool true, .bool false, .int .i64 lo, .int .i64 hi], .pointer (some ⟨b, o, none⟩)] w fun e w' => e = .returned (.bool (fitsB ⟨false, false, true, false, lo, hi, true⟩ t n np nf nv)) ∧ Below w.heap.size w w' := by
 have hlt : b < w.heap.size := World.block_lt_of_cell? _ _ x1
 have HB : Hid (Below w.heap.size w (w.alloc (.cells #[.bool false, .bool false, .bool true, .bool false, .int .i64 lo, .int .i64 hi] 71))) := Lib.hid ((Below.refl _ _).alloc (Nat.le_refl _) _)
 cases q0 : t.toList with
 | nil =>
  have e0 : (t.toList == []) = true := by rw [q0]; rfl
  have Q0 := Lib.hid e0
  by_cases q1 : n = 0
  ·have e1 : (n != 0) = false := by simpa using q1
   have Q1 := Lib.hid q1
   clear q1
   by_cases q3 : nv = 0
   ·have e3 : ¬ 0 < nv := by omega
    have z3 : decide ((0 : Int) < (nv : Int)) = false := by simp; omega
    have Q3 := Lib.hid e3
    clear q3
    by_cases h1 : lo ≤ (np : Int)
    ·by_cases h2 : hi = -1
     ·have t2 : (hi == -1) = true := by simpa using h2
      have HR : Hid (fitsB ⟨false, false, true, false, lo, hi, true⟩ t n np nf nv = true) := Lib.hid (by unfold fitsB; simp [Q0.out, Q1.out, Q3.out, h1, h2])
      clear h2
      go_enter Tryz.func48, Tryz.ntmps48
      go_wp2_with fail
      go_quiet (fail)
      go_wp2_with fail
      go_ret
      exact ⟨by rw [HR.out]; first | rfl | (show Ending.returned (.bool (decide ((np : Int) ≤ hi))) = _; rw [t3]), by first | exact HB.out | exact drewN_below HB.out _ | exact HB.out.drew⟩
     ·have t2 : (hi == -1) = false := by simpa using h2
      by_cases h3 : (np : Int) ≤ hi
      ·have t3 : decide ((np : Int) ≤ hi) = true := by simpa using h3
       have HR : Hid (fitsB ⟨false, false, true, false, lo, hi, true⟩ t n np nf nv = true) := Lib.hid (by unfold fitsB; simp [Q0.out, Q1.out, Q3.out, h1, t2, h3])
       clear h2
       go_enter Tryz.func48, Tryz.ntmps48
       go_wp2_with fail
       go_quiet (fail)
       go_wp2_with fail
       go_ret
       exact ⟨by rw [HR.out]; first | rfl | (show Ending.returned (.bool (decide ((np : Int) ≤ hi))) = _; rw [t3]), by first | exact HB.out | exact drewN_below HB.out _ | exact HB.out.drew⟩
      ·have t3 : decide ((np : Int) ≤ hi) = false := by simpa using h3
       have HR : Hid (fitsB ⟨false, false, true, false, lo, hi, true⟩ t n np nf nv = false) := Lib.hid (by unfold fitsB; simp [Q0.out, Q1.out, Q3.out, t2, h3])
       clear h2
       go_enter Tryz.func48, Tryz.ntmps48
       go_wp2_with fail
       go_quiet (fail)
       go_wp2_with fail
       go_ret
       exact ⟨by rw [HR.out]; first | rfl | (show Ending.returned (.bool (decide ((np : Int) ≤ hi))) = _; rw [t3]), by first | exact HB.out | exact drewN_below HB.out _ | exact HB.out.drew⟩
    ·have t1 : decide (lo ≤ (np : Int)) = false := by simpa using h1
     have t1b : (np : Int) < lo := by omega
     have HR : Hid (fitsB ⟨false, false, true, false, lo, hi, true⟩ t n np nf nv = false) := Lib.hid (by unfold fitsB; simp [Q0.out, Q1.out, Q3.out, h1])
     go_enter Tryz.func48, Tryz.ntmps48
     go_wp2_with fail
     go_quiet (fail)
     go_wp2_with fail
     go_ret
     exact ⟨by rw [HR.out]; first | rfl | (show Ending.returned (.bool (decide ((np : Int) ≤ hi))) = _; rw [t3]), by first | exact HB.out | exact drewN_below HB.out _ | exact HB.out.drew⟩
   ·have e3 : 0 < nv := by omega
    have z3 : decide ((0 : Int) < (nv : Int)) = true := by simp; omega
    have Q3 := Lib.hid e3
    clear q3
    have HR : Hid (fitsB ⟨false, false, true, false, lo, hi, true⟩ t n np nf nv = false) := Lib.hid (by unfold fitsB; simp [Q0.out, Q1.out, Q3.out])
    go_enter Tryz.func48, Tryz.ntmps48
    go_wp2_with fail
    go_ret
    exact ⟨by rw [HR.out]; first | rfl | (show Ending.returned (.bool (decide ((np : Int) ≤ hi))) = _; rw [t3]), by first | exact HB.out | exact drewN_below HB.out _ | exact HB.out.drew⟩
  ·have e1 : (n != 0) = true := by simpa using q1
   have Q1 := Lib.hid q1
   have HR : Hid (fitsB ⟨false, false, true, false, lo, hi, true⟩ t n np nf nv = false) := Lib.hid (by unfold fitsB; simp [Q0.out, Q1.out])
   clear q1
   go_enter Tryz.func48, Tryz.ntmps48
   go_wp2_with fail
   go_ret
   exact ⟨by rw [HR.out]; first | rfl | (show Ending.returned (.bool (decide ((np : Int) ≤ hi))) = _; rw [t3]), by first | exact HB.out | exact drewN_below HB.out _ | exact HB.out.drew⟩
 | cons hd tl =>
  have e0 : (t.toList == []) = false := by rw [q0]; rfl
  have Q0 := Lib.hid e0
  have HR : Hid (fitsB ⟨false, false, true, false, lo, hi, true⟩ t n np nf nv = false) := Lib.hid (by unfold fitsB; simp [Q0.out])
  go_enter Tryz.func48, Tryz.ntmps48
  go_wp2_with fail
  go_ret
  exact ⟨by rw [HR.out]; first | rfl | (show Ending.returned (.bool (decide ((np : Int) ≤ hi))) = _; rw [t3]), by first | exact HB.out | exact drewN_below HB.out _ | exact HB.out.drew⟩
end Go.Proofs.YtfchnfnifpopnaaGreatDoor
