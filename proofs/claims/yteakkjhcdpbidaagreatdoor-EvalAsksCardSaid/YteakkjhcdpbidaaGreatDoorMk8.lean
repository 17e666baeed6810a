import Derived.Test.YteakkjhcdpbidaaGreatDoorMk7
namespace Go.Proofs.YteakkjhcdpbidaaGreatDoor
set_option maxRecDepth 100000
set_option maxHeartbeats 64000000
open Go.RowKit
structure Shp where
 t : Bool
 n : Bool
 f : Bool
 v : Bool
 lo : Int
 hi : Int
 known : Bool
def shapeK (k : Int) : Shp :=
 if 1 ≤ k ∧ k ≤ 8 then ⟨false, false, false, false, 0, 0, true⟩ else if k = 9 then ⟨false, true, false, false, 0, 0, true⟩ else if k = 10 ∨ k = 16 ∨ k = 22 then ⟨true, false, false, false, 0, 0, true⟩
 else if k = 11 ∨ k = 18 then ⟨false, false, false, false, 1, 1, true⟩ else if k = 12 then ⟨false, false, false, false, 0, -1, true⟩ else if k = 13 then ⟨false, false, false, true, 1, -1, true⟩
 else if k = 14 then ⟨false, false, true, false, 0, 0, true⟩ else if k = 15 ∨ k = 23 then ⟨false, false, false, false, 2, -1, true⟩ else if k = 17 then ⟨true, false, false, false, 0, -1, true⟩
 else if k = 19 then ⟨false, false, false, false, 2, 2, true⟩ else if k = 20 then ⟨true, true, false, false, 2, 2, true⟩ else if k = 21 then ⟨true, true, false, false, 4, 4, true⟩ else ⟨false, false, false, false, 0, 0, false⟩
def shpV (s : Shp) : Value := .agg #[.bool s.t, .bool s.n, .bool s.f, .bool s.v, .int .i64 s.lo, .int .i64 s.hi]
theorem shape_1 (w : World) : Calls Tryz.prog 44 #[.int .i64 1] w fun e w' => e = .returned (.tuple #[shpV (shapeK 1), .bool (shapeK 1).known]) ∧ Below w.heap.size w w' := by
 go_enter Tryz.func44, Tryz.ntmps44
 go_wp2_with fail
 exact bodyPost_ret (v := .tuple #[shpV (shapeK 1), .bool (shapeK 1).known]) (by simp [results, Tryz.results44, go_sem, shpV, shapeK]) rfl ⟨rfl, (Below.refl _ _).alloc (Nat.le_refl _) _⟩
theorem shape_2 (w : World) : Calls Tryz.prog 44 #[.int .i64 2] w fun e w' => e = .returned (.tuple #[shpV (shapeK 2), .bool (shapeK 2).known]) ∧ Below w.heap.size w w' := by
 go_enter Tryz.func44, Tryz.ntmps44
 go_wp2_with fail
 exact bodyPost_ret (v := .tuple #[shpV (shapeK 2), .bool (shapeK 2).known]) (by simp [results, Tryz.results44, go_sem, shpV, shapeK]) rfl ⟨rfl, (Below.refl _ _).alloc (Nat.le_refl _) _⟩
theorem shape_3 (w : World) : Calls Tryz.prog 44 #[.int .i64 3] w fun e w' => e = .returned (.tuple #[shpV (shapeK 3), .bool (shapeK 3).known]) ∧ Below w.heap.size w w' := by
 go_enter Tryz.func44, Tryz.ntmps44
 go_wp2_with fail
 exact bodyPost_ret (v := .tuple #[shpV (shapeK 3), .bool (shapeK 3).known]) (by simp [results, Tryz.results44, go_sem, shpV, shapeK]) rfl ⟨rfl, (Below.refl _ _).alloc (Nat.le_refl _) _⟩
theorem shape_4 (w : World) : Calls Tryz.prog 44 #[.int .i64 4] w fun e w' => e = .returned (.tuple #[shpV (shapeK 4), .bool (shapeK 4).known]) ∧ Below w.heap.size w w' := by
 go_enter Tryz.func44, Tryz.ntmps44
 go_wp2_with fail
 exact bodyPost_ret (v := .tuple #[shpV (shapeK 4), .bool (shapeK 4).known]) (by simp [results, Tryz.results44, go_sem, shpV, shapeK]) rfl ⟨rfl, (Below.refl _ _).alloc (Nat.le_refl _) _⟩
theorem shape_5 (w : World) : Calls Tryz.prog 44 #[.int .i64 5] w fun e w' => e = .returned (.tuple #[shpV (shapeK 5), .bool (shapeK 5).known]) ∧ Below w.heap.size w w' := by
 go_enter Tryz.func44, Tryz.ntmps44
 go_wp2_with fail
 exact bodyPost_ret (v := .tuple #[shpV (shapeK 5), .bool (shapeK 5).known]) (by simp [results, Tryz.results44, go_sem, shpV, shapeK]) rfl ⟨rfl, (Below.refl _ _).alloc (Nat.le_refl _) _⟩
theorem shape_6 (w : World) : Calls Tryz.prog 44 #[.int .i64 6] w fun e w' => e = .returned (.tuple #[shpV (shapeK 6), .bool (shapeK 6).known]) ∧ Below w.heap.size w w' := by
 go_enter Tryz.func44, Tryz.ntmps44
 go_wp2_with fail
 exact bodyPost_ret (v := .tuple #[shpV (shapeK 6), .bool (shapeK 6).known]) (by simp [results, Tryz.results44, go_sem, shpV, shapeK]) rfl ⟨rfl, (Below.refl _ _).alloc (Nat.le_refl _) _⟩
theorem shape_7 (w : World) : Calls Tryz.prog 44 #[.int .i64 7] w fun e w' => e = .returned (.tuple #[shpV (shapeK 7), .bool (shapeK 7).known]) ∧ Below w.heap.size w w' := by
 go_enter Tryz.func44, Tryz.ntmps44
 go_wp2_with fail
 exact bodyPost_ret (v := .tuple #[shpV (shapeK 7), .bool (shapeK 7).known]) (by simp [results, Tryz.results44, go_sem, shpV, shapeK]) rfl ⟨rfl, (Below.refl _ _).alloc (Nat.le_refl _) _⟩
theorem shape_8 (w : World) : Calls Tryz.prog 44 #[.int .i64 8] w fun e w' => e = .returned (.tuple #[shpV (shapeK 8), .bool (shapeK 8).known]) ∧ Below w.heap.size w w' := by
 go_enter Tryz.func44, Tryz.ntmps44
 go_wp2_with fail
 exact bodyPost_ret (v := .tuple #[shpV (shapeK 8), .bool (shapeK 8).known]) (by simp [results, Tryz.results44, go_sem, shpV, shapeK]) rfl ⟨rfl, (Below.refl _ _).alloc (Nat.le_refl _) _⟩
theorem shape_9 (w : World) : Calls Tryz.prog 44 #[.int .i64 9] w fun e w' => e = .returned (.tuple #[shpV (shapeK 9), .bool (shapeK 9).known]) ∧ Below w.heap.size w w' := by
 go_enter Tryz.func44, Tryz.ntmps44
 go_wp2_with fail
 exact bodyPost_ret (v := .tuple #[shpV (shapeK 9), .bool (shapeK 9).known]) (by simp [results, Tryz.results44, go_sem, shpV, shapeK]) rfl ⟨rfl, (Below.refl _ _).alloc (Nat.le_refl _) _⟩
theorem shape_10 (w : World) : Calls Tryz.prog 44 #[.int .i64 10] w fun e w' => e = .returned (.tuple #[shpV (shapeK 10), .bool (shapeK 10).known]) ∧ Below w.heap.size w w' := by
 go_enter Tryz.func44, Tryz.ntmps44
 go_wp2_with fail
 exact bodyPost_ret (v := .tuple #[shpV (shapeK 10), .bool (shapeK 10).known]) (by simp [results, Tryz.results44, go_sem, shpV, shapeK]) rfl ⟨rfl, (Below.refl _ _).alloc (Nat.le_refl _) _⟩
theorem shape_11 (w : World) : Calls Tryz.prog 44 #[.int .i64 11] w fun e w' => e = .returned (.tuple #[shpV (shapeK 11), .bool (shapeK 11).known]) ∧ Below w.heap.size w w' := by
 go_enter Tryz.func44, Tryz.ntmps44
 go_wp2_with fail
 exact bodyPost_ret (v := .tuple #[shpV (shapeK 11), .bool (shapeK 11).known]) (by simp [results, Tryz.results44, go_sem, shpV, shapeK]) rfl ⟨rfl, (Below.refl _ _).alloc (Nat.le_refl _) _⟩
theorem shape_12 (w : World) : Calls Tryz.prog 44 #[.int .i64 12] w fun e w' => e = .returned (.tuple #[shpV (shapeK 12), .bool (shapeK 12).known]) ∧ Below w.heap.size w w' := by
 go_enter Tryz.func44, Tryz.ntmps44
 go_wp2_with fail
 exact bodyPost_ret (v := .tuple #[shpV (shapeK 12), .bool (shapeK 12).known]) (by simp [results, Tryz.results44, go_sem, shpV, shapeK]) rfl ⟨rfl, (Below.refl _ _).alloc (Nat.le_refl _) _⟩
theorem shape_13 (w : World) : Calls Tryz.prog 44 #[.int .i64 13] w fun e w' => e = .returned (.tuple #[shpV (shapeK 13), .bool (shapeK 13).known]) ∧ Below w.heap.size w w' := by
 go_enter Tryz.func44, Tryz.ntmps44
 go_wp2_with fail
 exact bodyPost_ret (v := .tuple #[shpV (shapeK 13), .bool (shapeK 13).known]) (by simp [results, Tryz.results44, go_sem, shpV, shapeK]) rfl ⟨rfl, (Below.refl _ _).alloc (Nat.le_refl _) _⟩
theorem shape_14 (w : World) : Calls Tryz.prog 44 #[.int .i64 14] w fun e w' => e = .returned (.tuple #[shpV (shapeK 14), .bool (shapeK 14).known]) ∧ Below w.heap.size w w' := by
 go_enter Tryz.func44, Tryz.ntmps44
 go_wp2_with fail
 exact bodyPost_ret (v := .tuple #[shpV (shapeK 14), .bool (shapeK 14).known]) (by simp [results, Tryz.results44, go_sem, shpV, shapeK]) rfl ⟨rfl, (Below.refl _ _).alloc (Nat.le_refl _) _⟩
theorem shape_15 (w : World) : Calls Tryz.prog 44 #[.int .i64 15] w fun e w' => e = .returned (.tuple #[shpV (shapeK 15), .bool (shapeK 15).known]) ∧ Below w.heap.size w w' := by
 go_enter Tryz.func44, Tryz.ntmps44
 go_wp2_with fail
 exact bodyPost_ret (v := .tuple #[shpV (shapeK 15), .bool (shapeK 15).known]) (by simp [results, Tryz.results44, go_sem, shpV, shapeK]) rfl ⟨rfl, (Below.refl _ _).alloc (Nat.le_refl _) _⟩
theorem shape_16 (w : World) : Calls Tryz.prog 44 #[.int .i64 16] w fun e w' => e = .returned (.tuple #[shpV (shapeK 16), .bool (shapeK 16).known]) ∧ Below w.heap.size w w' := by
 go_enter Tryz.func44, Tryz.ntmps44
 go_wp2_with fail
 exact bodyPost_ret (v := .tuple #[shpV (shapeK 16), .bool (shapeK 16).known]) (by simp [results, Tryz.results44, go_sem, shpV, shapeK]) rfl ⟨rfl, (Below.refl _ _).alloc (Nat.le_refl _) _⟩
theorem shape_17 (w : World) : Calls Tryz.prog 44 #[.int .i64 17] w fun e w' => e = .returned (.tuple #[shpV (shapeK 17), .bool (shapeK 17).known]) ∧ Below w.heap.size w w' := by
 go_enter Tryz.func44, Tryz.ntmps44
 go_wp2_with fail
 exact bodyPost_ret (v := .tuple #[shpV (shapeK 17), .bool (shapeK 17).known]) (by simp [results, Tryz.results44, go_sem, shpV, shapeK]) rfl ⟨rfl, (Below.refl _ _).alloc (Nat.le_refl _) _⟩
theorem shape_18 (w : World) : Calls Tryz.prog 44 #[.int .i64 18] w fun e w' => e = .returned (.tuple #[shpV (shapeK 18), .bool (shapeK 18).known]) ∧ Below w.heap.size w w' := by
 go_enter Tryz.func44, Tryz.ntmps44
 go_wp2_with fail
 exact bodyPost_ret (v := .tuple #[shpV (shapeK 18), .bool (shapeK 18).known]) (by simp [results, Tryz.results44, go_sem, shpV, shapeK]) rfl ⟨rfl, (Below.refl _ _).alloc (Nat.le_refl _) _⟩
theorem shape_19 (w : World) : Calls Tryz.prog 44 #[.int .i64 19] w fun e w' => e = .returned (.tuple #[shpV (shapeK 19), .bool (shapeK 19).known]) ∧ Below w.heap.size w w' := by
 go_enter Tryz.func44, Tryz.ntmps44
 go_wp2_with fail
 exact bodyPost_ret (v := .tuple #[shpV (shapeK 19), .bool (shapeK 19).known]) (by simp [results, Tryz.results44, go_sem, shpV, shapeK]) rfl ⟨rfl, (Below.refl _ _).alloc (Nat.le_refl _) _⟩
theorem shape_20 (w : World) : Calls Tryz.prog 44 #[.int .i64 20] w fun e w' => e = .returned (.tuple #[shpV (shapeK 20), .bool (shapeK 20).known]) ∧ Below w.heap.size w w' := by
 go_enter Tryz.func44, Tryz.ntmps44
 go_wp2_with fail
 exact bodyPost_ret (v := .tuple #[shpV (shapeK 20), .bool (shapeK 20).known]) (by simp [results, Tryz.results44, go_sem, shpV, shapeK]) rfl ⟨rfl, (Below.refl _ _).alloc (Nat.le_refl _) _⟩
theorem shape_21 (w : World) : Calls Tryz.prog 44 #[.int .i64 21] w fun e w' => e = .returned (.tuple #[shpV (shapeK 21), .bool (shapeK 21).known]) ∧ Below w.heap.size w w' := by
 go_enter Tryz.func44, Tryz.ntmps44
 go_wp2_with fail
 exact bodyPost_ret (v := .tuple #[shpV (shapeK 21), .bool (shapeK 21).known]) (by simp [results, Tryz.results44, go_sem, shpV, shapeK]) rfl ⟨rfl, (Below.refl _ _).alloc (Nat.le_refl _) _⟩
theorem shape_22 (w : World) : Calls Tryz.prog 44 #[.int .i64 22] w fun e w' => e = .returned (.tuple #[shpV (shapeK 22), .bool (shapeK 22).known]) ∧ Below w.heap.size w w' := by
 go_enter Tryz.func44, Tryz.ntmps44
 go_wp2_with fail
 exact bodyPost_ret (v := .tuple #[shpV (shapeK 22), .bool (shapeK 22).known]) (by simp [results, Tryz.results44, go_sem, shpV, shapeK]) rfl ⟨rfl, (Below.refl _ _).alloc (Nat.le_refl _) _⟩
theorem shape_23 (w : World) : Calls Tryz.prog 44 #[.int .i64 23] w fun e w' => e = .returned (.tuple #[shpV (shapeK 23), .bool (shapeK 23).known]) ∧ Below w.heap.size w w' := by
 go_enter Tryz.func44, Tryz.ntmps44
 go_wp2_with fail
 exact bodyPost_ret (v := .tuple #[shpV (shapeK 23), .bool (shapeK 23).known]) (by simp [results, Tryz.results44, go_sem, shpV, shapeK]) rfl ⟨rfl, (Below.refl _ _).alloc (Nat.le_refl _) _⟩
theorem shape_no (k : Int) (w : World) (hk : k < 1 ∨ 23 < k) : Calls Tryz.prog 44 #[.int .i64 k] w fun e w' => e = .returned (.tuple #[shpV (shapeK k), .bool (shapeK k).known]) ∧ Below w.heap.size w w' := by
 have HS : Hid (shapeK k = ⟨false, false, false, false, 0, 0, false⟩) := Hd (by
  unfold shapeK
  repeat rw [if_neg (by omega)])
 have t1 : (k == 1) = false := by rw [beq_eq_false_iff_ne]; omega
 have t2 : (k == 2) = false := by rw [beq_eq_false_iff_ne]; omega
 have t3 : (k == 3) = false := by rw [beq_eq_false_iff_ne]; omega
 have t4 : (k == 4) = false := by rw [beq_eq_false_iff_ne]; omega
 have t5 : (k == 5) = false := by rw [beq_eq_false_iff_ne]; omega
 have t6 : (k == 6) = false := by rw [beq_eq_false_iff_ne]; omega
 have t7 : (k == 7) = false := by rw [beq_eq_false_iff_ne]; omega
 have t8 : (k == 8) = false := by rw [beq_eq_false_iff_ne]; omega
 have t9 : (k == 9) = false := by rw [beq_eq_false_iff_ne]; omega
 have t10 : (k == 10) = false := by rw [beq_eq_false_iff_ne]; omega
 have t11 : (k == 11) = false := by rw [beq_eq_false_iff_ne]; omega
 have t12 : (k == 12) = false := by rw [beq_eq_false_iff_ne]; omega
 have t13 : (k == 13) = false := by rw [beq_eq_false_iff_ne]; omega
 have t14 : (k == 14) = false := by rw [beq_eq_false_iff_ne]; omega
 have t15 : (k == 15) = false := by rw [beq_eq_false_iff_ne]; omega
 have t16 : (k == 16) = false := by rw [beq_eq_false_iff_ne]; omega
 have t17 : (k == 17) = false := by rw [beq_eq_false_iff_ne]; omega
 have t18 : (k == 18) = false := by rw [beq_eq_false_iff_ne]; omega
 have t19 : (k == 19) = false := by rw [beq_eq_false_iff_ne]; omega
 have t20 : (k == 20) = false := by rw [beq_eq_false_iff_ne]; omega
 have t21 : (k == 21) = false := by rw [beq_eq_false_iff_ne]; omega
 have t22 : (k == 22) = false := by rw [beq_eq_false_iff_ne]; omega
 have t23 : (k == 23) = false := by rw [beq_eq_false_iff_ne]; omega
 rw [HS.out]
 clear hk
 go_enter Tryz.func44, Tryz.ntmps44
 go_wp2_with fail
 exact bodyPost_ret (v := .tuple #[shpV ⟨false, false, false, false, 0, 0, false⟩, .bool false]) (by simp [results, Tryz.results44, go_sem, shpV]) rfl ⟨rfl, (Below.refl _ _).alloc (Nat.le_refl _) _⟩
theorem shape_any (k : Int) (w : World) : Calls Tryz.prog 44 #[.int .i64 k] w fun e w' => e = .returned (.tuple #[shpV (shapeK k), .bool (shapeK k).known]) ∧ Below w.heap.size w w' := by
 by_cases h : k < 1 ∨ 23 < k
 ·exact shape_no k w h
 ·have : k = 1 ∨ k = 2 ∨ k = 3 ∨ k = 4 ∨ k = 5 ∨ k = 6 ∨ k = 7 ∨ k = 8 ∨ k = 9 ∨ k = 10 ∨ k = 11 ∨ k = 12 ∨ k = 13 ∨ k = 14 ∨ k = 15 ∨ k = 16 ∨ k = 17 ∨ k = 18 ∨ k = 19 ∨ k = 20 ∨ k = 21 ∨ k = 22 ∨ k = 23 := by omega
  rcases this with rfl | rfl | rfl | rfl | rfl | rfl | rfl | rfl | rfl | rfl | rfl | rfl | rfl | rfl | rfl | rfl | rfl | rfl | rfl | rfl | rfl | rfl | rfl
  ·exact shape_1 w
  ·exact shape_2 w
  ·exact shape_3 w
  ·exact shape_4 w
  ·exact shape_5 w
  ·exact shape_6 w
  ·exact shape_7 w
  ·exact shape_8 w
  ·exact shape_9 w
  ·exact shape_10 w
  ·exact shape_11 w
  ·exact shape_12 w
  ·exact shape_13 w
  ·exact shape_14 w
  ·exact shape_15 w
  ·exact shape_16 w
  ·exact shape_17 w
  ·exact shape_18 w
  ·exact shape_19 w
  ·exact shape_20 w
  ·exact shape_21 w
  ·exact shape_22 w
  ·exact shape_23 w
end Go.Proofs.YteakkjhcdpbidaaGreatDoor
