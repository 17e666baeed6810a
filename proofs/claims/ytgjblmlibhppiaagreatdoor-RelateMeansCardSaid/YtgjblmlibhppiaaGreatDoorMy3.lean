import Derived.Test.YtgjblmlibhppiaaGreatDoorMy2
namespace Go.Proofs.YtgjblmlibhppiaaGreatDoor
set_option maxRecDepth 100000
set_option maxHeartbeats 64000000
open Go.RowKit
structure Shp where
 t : Bool
 n : Bool
 f : Bool
 v : Bool
 lo : Int
 hi : Int
 known : Bool
def shapeK (k : Int) : Shp :=
 if 1 ≤ k ∧ k ≤ 8 then ⟨false, false, false, false, 0, 0, true⟩ else if k = 9 then ⟨false, true, false, false, 0, 0, true⟩ else if k = 10 ∨ k = 16 ∨ k = 22 then ⟨true, false, false, false, 0, 0, true⟩
 else if k = 11 ∨ k = 18 then ⟨false, false, false, false, 1, 1, true⟩ else if k = 12 then ⟨false, false, false, false, 0, -1, true⟩ else if k = 13 then ⟨false, false, false, true, 1, -1, true⟩
 else if k = 14 then ⟨false, false, true, false, 0, 0, true⟩ else if k = 15 ∨ k = 23 then ⟨false, false, false, false, 2, -1, true⟩ else if k = 17 then ⟨true, false, false, false, 0, -1, true⟩
 else if k = 19 then ⟨false, false, false, false, 2, 2, true⟩ else if k = 20 then ⟨true, true, false, false, 2, 2, true⟩ else if k = 21 then ⟨true, true, false, false, 4, 4, true⟩ else ⟨false, false, false, false, 0, 0, false⟩
def shpV (s : Shp) : Value := .agg #[.bool s.t, .bool s.n, .bool s.f, .bool s.v, .int .i64 s.lo, .int .i64 s.hi]
theorem shape_1 (w : World) : Calls Tryz.prog 81 #[.int .i64 1] w fun e w' => e = .returned (.tuple #[shpV (shapeK 1), .bool (shapeK 1).known]) ∧ Below w.heap.size w w' := by
 go_enter Tryz.func81, Tryz.ntmps81
 go_wp2_with fail
 exact bodyPost_ret (v := .tuple #[shpV (shapeK 1), .bool (shapeK 1).known]) (by simp [results, Tryz.results81, go_sem, shpV, shapeK]) rfl ⟨rfl, (Below.refl _ _).alloc (Nat.le_refl _) _⟩
theorem shape_2 (w : World) : Calls Tryz.prog 81 #[.int .i64 2] w fun e w' => e = .returned (.tuple #[shpV (shapeK 2), .bool (shapeK 2).known]) ∧ Below w.heap.size w w' := by
 go_enter Tryz.func81, Tryz.ntmps81
 go_wp2_with fail
 exact bodyPost_ret (v := .tuple #[shpV (shapeK 2), .bool (shapeK 2).known]) (by simp [results, Tryz.results81, go_sem, shpV, shapeK]) rfl ⟨rfl, (Below.refl _ _).alloc (Nat.le_refl _) _⟩
theorem shape_3 (w : World) : Calls Tryz.prog 81 #[.int .i64 3] w fun e w' => e = .returned (.tuple #[shpV (shapeK 3), .bool (shapeK 3).known]) ∧ Below w.heap.size w w' := by
 go_enter Tryz.func81, Tryz.ntmps81
 go_wp2_with fail
 exact bodyPost_ret (v := .tuple #[shpV (shapeK 3), .bool (shapeK 3).known]) (by simp [results, Tryz.results81, go_sem, shpV, shapeK]) rfl ⟨rfl, (Below.refl _ _).alloc (Nat.le_refl _) _⟩
theorem shape_4 (w : World) : Calls Tryz.prog 81 #[.int .i64 4] w fun e w' => e = .returned (.tuple #[shpV (shapeK 4), .bool (shapeK 4).known]) ∧ Below w.heap.size w w' := by
 go_enter Tryz.func81, Tryz.ntmps81
 go_wp2_with fail
 exact bodyPost_ret (v := .tuple #[shpV (shapeK 4), .bool (shapeK 4).known]) (by simp [results, Tryz.results81, go_sem, shpV, shapeK]) rfl ⟨rfl, (Below.refl _ _).alloc (Nat.le_refl _) _⟩
theorem shape_5 (w : World) : Calls Tryz.prog 81 #[.int .i64 5] w fun e w' => e = .returned (.tuple #[shpV (shapeK 5), .bool (shapeK 5).known]) ∧ Below w.heap.size w w' := by
 go_enter Tryz.func81, Tryz.ntmps81
 go_wp2_with fail
 exact bodyPost_ret (v := .tuple #[shpV (shapeK 5), .bool (shapeK 5).known]) (by simp [results, Tryz.results81, go_sem, shpV, shapeK]) rfl ⟨rfl, (Below.refl _ _).alloc (Nat.le_refl _) _⟩
theorem shape_6 (w : World) : Calls Tryz.prog 81 #[.int .i64 6] w fun e w' => e = .returned (.tuple #[shpV (shapeK 6), .bool (shapeK 6).known]) ∧ Below w.heap.size w w' := by
 go_enter Tryz.func81, Tryz.ntmps81
 go_wp2_with fail
 exact bodyPost_ret (v := .tuple #[shpV (shapeK 6), .bool (shapeK 6).known]) (by simp [results, Tryz.results81, go_sem, shpV, shapeK]) rfl ⟨rfl, (Below.refl _ _).alloc (Nat.le_refl _) _⟩
theorem shape_7 (w : World) : Calls Tryz.prog 81 #[.int .i64 7] w fun e w' => e = .returned (.tuple #[shpV (shapeK 7), .bool (shapeK 7).known]) ∧ Below w.heap.size w w' := by
 go_enter Tryz.func81, Tryz.ntmps81
 go_wp2_with fail
 exact bodyPost_ret (v := .tuple #[shpV (shapeK 7), .bool (shapeK 7).known]) (by simp [results, Tryz.results81, go_sem, shpV, shapeK]) rfl ⟨rfl, (Below.refl _ _).alloc (Nat.le_refl _) _⟩
theorem shape_8 (w : World) : Calls Tryz.prog 81 #[.int .i64 8] w fun e w' => e = .returned (.tuple #[shpV (shapeK 8), .bool (shapeK 8).known]) ∧ Below w.heap.size w w' := by
 go_enter Tryz.func81, Tryz.ntmps81
 go_wp2_with fail
 exact bodyPost_ret (v := .tuple #[shpV (shapeK 8), .bool (shapeK 8).known]) (by simp [results, Tryz.results81, go_sem, shpV, shapeK]) rfl ⟨rfl, (Below.refl _ _).alloc (Nat.le_refl _) _⟩
theorem shape_9 (w : World) : Calls Tryz.prog 81 #[.int .i64 9] w fun e w' => e = .returned (.tuple #[shpV (shapeK 9), .bool (shapeK 9).known]) ∧ Below w.heap.size w w' := by
 go_enter Tryz.func81, Tryz.ntmps81
 go_wp2_with fail
 exact bodyPost_ret (v := .tuple #[shpV (shapeK 9), .bool (shapeK 9).known]) (by simp [results, Tryz.results81, go_sem, shpV, shapeK]) rfl ⟨rfl, (Below.refl _ _).alloc (Nat.le_refl _) _⟩
theorem shape_10 (w : World) : Calls Tryz.prog 81 #[.int .i64 10] w fun e w' => e = .returned (.tuple #[shpV (shapeK 10), .bool (shapeK 10).known]) ∧ Below w.heap.size w w' := by
 go_enter Tryz.func81, Tryz.ntmps81
 go_wp2_with fail
 exact bodyPost_ret (v := .tuple #[shpV (shapeK 10), .bool (shapeK 10).known]) (by simp [results, Tryz.results81, go_sem, shpV, shapeK]) rfl ⟨rfl, (Below.refl _ _).alloc (Nat.le_refl _) _⟩
theorem shape_11 (w : World) : Calls Tryz.prog 81 #[.int .i64 11] w fun e w' => e = .returned (.tuple #[shpV (shapeK 11), .bool (shapeK 11).known]) ∧ Below w.heap.size w w' := by
 go_enter Tryz.func81, Tryz.ntmps81
 go_wp2_with fail
 exact bodyPost_ret (v := .tuple #[shpV (shapeK 11), .bool (shapeK 11).known]) (by simp [results, Tryz.results81, go_sem, shpV, shapeK]) rfl ⟨rfl, (Below.refl _ _).alloc (Nat.le_refl _) _⟩
theorem shape_12 (w : World) : Calls Tryz.prog 81 #[.int .i64 12] w fun e w' => e = .returned (.tuple #[shpV (shapeK 12), .bool (shapeK 12).known]) ∧ Below w.heap.size w w' := by
 go_enter Tryz.func81, Tryz.ntmps81
 go_wp2_with fail
 exact bodyPost_ret (v := .tuple #[shpV (shapeK 12), .bool (shapeK 12).known]) (by simp [results, Tryz.results81, go_sem, shpV, shapeK]) rfl ⟨rfl, (Below.refl _ _).alloc (Nat.le_refl _) _⟩
theorem shape_13 (w : World) : Calls Tryz.prog 81 #[.int .i64 13] w fun e w' => e = .returned (.tuple #[shpV (shapeK 13), .bool (shapeK 13).known]) ∧ Below w.heap.size w w' := by
 go_enter Tryz.func81, Tryz.ntmps81
 go_wp2_with fail
 exact bodyPost_ret (v := .tuple #[shpV (shapeK 13), .bool (shapeK 13).known]) (by simp [results, Tryz.results81, go_sem, shpV, shapeK]) rfl ⟨rfl, (Below.refl _ _).alloc (Nat.le_refl _) _⟩
theorem shape_14 (w : World) : Calls Tryz.prog 81 #[.int .i64 14] w fun e w' => e = .returned (.tuple #[shpV (shapeK 14), .bool (shapeK 14).known]) ∧ Below w.heap.size w w' := by
 go_enter Tryz.func81, Tryz.ntmps81
 go_wp2_with fail
 exact bodyPost_ret (v := .tuple #[shpV (shapeK 14), .bool (shapeK 14).known]) (by simp [results, Tryz.results81, go_sem, shpV, shapeK]) rfl ⟨rfl, (Below.refl _ _).alloc (Nat.le_refl _) _⟩
theorem shape_15 (w : World) : Calls Tryz.prog 81 #[.int .i64 15] w fun e w' => e = .returned (.tuple #[shpV (shapeK 15), .bool (shapeK 15).known]) ∧ Below w.heap.size w w' := by
 go_enter Tryz.func81, Tryz.ntmps81
 go_wp2_with fail
 exact bodyPost_ret (v := .tuple #[shpV (shapeK 15), .bool (shapeK 15).known]) (by simp [results, Tryz.results81, go_sem, shpV, shapeK]) rfl ⟨rfl, (Below.refl _ _).alloc (Nat.le_refl _) _⟩
theorem shape_16 (w : World) : Calls Tryz.prog 81 #[.int .i64 16] w fun e w' => e = .returned (.tuple #[shpV (shapeK 16), .bool (shapeK 16).known]) ∧ Below w.heap.size w w' := by
 go_enter Tryz.func81, Tryz.ntmps81
 go_wp2_with fail
 exact bodyPost_ret (v := .tuple #[shpV (shapeK 16), .bool (shapeK 16).known]) (by simp [results, Tryz.results81, go_sem, shpV, shapeK]) rfl ⟨rfl, (Below.refl _ _).alloc (Nat.le_refl _) _⟩
theorem shape_17 (w : World) : Calls Tryz.prog 81 #[.int .i64 17] w fun e w' => e = .returned (.tuple #[shpV (shapeK 17), .bool (shapeK 17).known]) ∧ Below w.heap.size w w' := by
 go_enter Tryz.func81, Tryz.ntmps81
 go_wp2_with fail
 exact bodyPost_ret (v := .tuple #[shpV (shapeK 17), .bool (shapeK 17).known]) (by simp [results, Tryz.results81, go_sem, shpV, shapeK]) rfl ⟨rfl, (Below.refl _ _).alloc (Nat.le_refl _) _⟩
theorem shape_18 (w : World) : Calls Tryz.prog 81 #[.int .i64 18] w fun e w' => e = .returned (.tuple #[shpV (shapeK 18), .bool (shapeK 18).known]) ∧ Below w.heap.size w w' := by
 go_enter Tryz.func81, Tryz.ntmps81
 go_wp2_with fail
 exact bodyPost_ret (v := .tuple #[shpV (shapeK 18), .bool (shapeK 18).known]) (by simp [results, Tryz.results81, go_sem, shpV, shapeK]) rfl ⟨rfl, (Below.refl _ _).alloc (Nat.le_refl _) _⟩
theorem shape_19 (w : World) : Calls Tryz.prog 81 #[.int .i64 19] w fun e w' => e = .returned (.tuple #[shpV (shapeK 19), .bool (shapeK 19).known]) ∧ Below w.heap.size w w' := by
 go_enter Tryz.func81, Tryz.ntmps81
 go_wp2_with fail
 exact bodyPost_ret (v := .tuple #[shpV (shapeK 19), .bool (shapeK 19).known]) (by simp [results, Tryz.results81, go_sem, shpV, shapeK]) rfl ⟨rfl, (Below.refl _ _).alloc (Nat.le_refl _) _⟩
theorem shape_20 (w : World) : Calls Tryz.prog 81 #[.int .i64 20] w fun e w' => e = .returned (.tuple #[shpV (shapeK 20), .bool (shapeK 20).known]) ∧ Below w.heap.size w w' := by
 go_enter Tryz.func81, Tryz.ntmps81
 go_wp2_with fail
 exact bodyPost_ret (v := .tuple #[shpV (shapeK 20), .bool (shapeK 20).known]) (by simp [results, Tryz.results81, go_sem, shpV, shapeK]) rfl ⟨rfl, (Below.refl _ _).alloc (Nat.le_refl _) _⟩
theorem shape_21 (w : World) : Calls Tryz.prog 81 #[.int .i64 21] w fun e w' => e = .returned (.tuple #[shpV (shapeK 21), .bool (shapeK 21).known]) ∧ Below w.heap.size w w' := by
 go_enter Tryz.func81, Tryz.ntmps81
 go_wp2_with fail
 exact bodyPost_ret (v := .tuple #[shpV (shapeK 21), .bool (shapeK 21).known]) (by simp [results, Tryz.results81, go_sem, shpV, shapeK]) rfl ⟨rfl, (Below.refl _ _).alloc (Nat.le_refl _) _⟩
theorem shape_22 (w : World) : Calls Tryz.prog 81 #[.int .i64 22] w fun e w' => e = .returned (.tuple #[shpV (shapeK 22), .bool (shapeK 22).known]) ∧ Below w.heap.size w w' := by
 go_enter Tryz.func81, Tryz.ntmps81
 go_wp2_with fail
 exact bodyPost_ret (v := .tuple #[shpV (shapeK 22), .bool (shapeK 22).known]) (by simp [results, Tryz.results81, go_sem, shpV, shapeK]) rfl ⟨rfl, (Below.refl _ _).alloc (Nat.le_refl _) _⟩
theorem shape_23 (w : World) : Calls Tryz.prog 81 #[.int .i64 23] w fun e w' => e = .returned (.tuple #[shpV (shapeK 23), .bool (shapeK 23).known]) ∧ Below w.heap.size w w' := by
 go_enter Tryz.func81, Tryz.ntmps81
 go_wp2_with fail
 exact bodyPost_ret (v := .tuple #[shpV (shapeK 23), .bool (shapeK 23).known]) (by simp [results, Tryz.results81, go_sem, shpV, shapeK]) rfl ⟨rfl, (Below.refl _ _).alloc (Nat.le_refl _) _⟩
theorem shape_no (k : Int) (w : World) (hk : k < 1 ∨ 23 < k) : Calls Tryz.prog 81 #[.int .i64 k] w fun e w' => e = .returned (.tuple #[shpV (shapeK k), .bool (shapeK k).known]) ∧ Below w.heap.size w w' := by
 have HS : Hid (shapeK k = ⟨false, false, false, false, 0, 0, false⟩) := Hd (by
  unfold shapeK
  repeat rw [if_neg (by omega)])
 have t1 : (k == 1) = false := by rw [beq_eq_false_iff_ne]; omega
 have t2 : (k == 2) = false := by rw [beq_eq_false_iff_ne]; omega
 have t3 : (k == 3) = false := by rw [beq_eq_false_iff_ne]; omega
 have t4 : (k == 4) = false := by rw [beq_eq_false_iff_ne]; omega
 have t5 : (k == 5) = false := by rw [beq_eq_false_iff_ne]; omega
 have t6 : (k == 6) = false := by rw [beq_eq_false_iff_ne]; omega
 have t7 : (k == 7) = false := by rw [beq_eq_false_iff_ne]; omega
 have t8 : (k == 8) = false := by rw [beq_eq_false_iff_ne]; omega
 have t9 : (k == 9) = false := by rw [beq_eq_false_iff_ne]; omega
 have t10 : (k == 10) = false := by rw [beq_eq_false_iff_ne]; omega
 have t11 : (k == 11) = false := by rw [beq_eq_false_iff_ne]; omega
 have t12 : (k == 12) = false := by rw [beq_eq_false_iff_ne]; omega
 have t13 : (k == 13) = false := by rw [beq_eq_false_iff_ne]; omega
 have t14 : (k == 14) = false := by rw [beq_eq_false_iff_ne]; omega
 have t15 : (k == 15) = false := by rw [beq_eq_false_iff_ne]; omega
 have t16 : (k == 16) = false := by rw [beq_eq_false_iff_ne]; omega
 have t17 : (k == 17) = false := by rw [beq_eq_false_iff_ne]; omega
 have t18 : (k == 18) = false := by rw [beq_eq_false_iff_ne]; omega
 have t19 : (k == 19) = false := by rw [beq_eq_false_iff_ne]; omega
 have t20 : (k == 20) = false := by rw [beq_eq_false_iff_ne]; omega
 have t21 : (k == 21) = false := by rw [beq_eq_false_iff_ne]; omega
 have t22 : (k == 22) = false := by rw [beq_eq_false_iff_ne]; omega
 have t23 : (k == 23) = false := by rw [beq_eq_false_iff_ne]; omega
 rw [HS.out]
 clear hk
 go_enter Tryz.func81, Tryz.ntmps81
 go_wp2_with fail
 exact bodyPost_ret (v := .tuple #[shpV ⟨false, false, false, false, 0, 0, false⟩, .bool false]) (by simp [results, Tryz.results81, go_sem, shpV]) rfl ⟨rfl, (Below.refl _ _).alloc (Nat.le_refl _) _⟩
theorem shape_any (k : Int) (w : World) : Calls Tryz.prog 81 #[.int .i64 k] w fun e w' => e = .returned (.tuple #[shpV (shapeK k), .bool (shapeK k).known]) ∧ Below w.heap.size w w' := by
 by_cases h : k < 1 ∨ 23 < k
 ·exact shape_no k w h
 ·have : k = 1 ∨ k = 2 ∨ k = 3 ∨ k = 4 ∨ k = 5 ∨ k = 6 ∨ k = 7 ∨ k = 8 ∨ k = 9 ∨ k = 10 ∨ k = 11 ∨ k = 12 ∨ k = 13 ∨ k = 14 ∨ k = 15 ∨ k = 16 ∨ k = 17 ∨ k = 18 ∨ k = 19 ∨ k = 20 ∨ k = 21 ∨ k = 22 ∨ k = 23 := by omega
  rcases this with rfl | rfl | rfl | rfl | rfl | rfl | rfl | rfl | rfl | rfl | rfl | rfl | rfl | rfl | rfl | rfl | rfl | rfl | rfl | rfl | rfl | rfl | rfl
  ·exact shape_1 w
  ·exact shape_2 w
  ·exact shape_3 w
  ·exact shape_4 w
  ·exact shape_5 w
  ·exact shape_6 w
  ·exact shape_7 w
  ·exact shape_8 w
  ·exact shape_9 w
  ·exact shape_10 w
  ·exact shape_11 w
  ·exact shape_12 w
  ·exact shape_13 w
  ·exact shape_14 w
  ·exact shape_15 w
  ·exact shape_16 w
  ·exact shape_17 w
  ·exact shape_18 w
  ·exact shape_19 w
  ·exact shape_20 w
  ·exact shape_21 w
  ·exact shape_22 w
  ·exact shape_23 w
def OrdT (t : Ty) : Prop := ∀ (K K' : Nat → Prop) (t' : Ty), OrdP 77 (fun w b o => AtT K w t b o) (fun w b o => AtT K' w t' b o) (ordT t t')
theorem list_any (l l' : List Ty) (h : ∀ p ∈ l, OrdT p) {K K' : Nat → Prop} {w : World} {A A' : Option Addr} {c c' : Nat} (h1 : ListT K w l A c) (h2 : ListT K' w l' A' c') :
  Calls Tryz.prog 108 #[.slice A l.length c, .slice A' l'.length c', .func (.func 77) #[] #[]] w fun e w' => e = .returned (.int .i64 (lexC (flatL l) (flatL l'))) ∧ Gw w w' := by
 obtain ⟨b, o, hr, hx⟩ := h1
 obtain ⟨b', o', hr', hx'⟩ := h2
 exact all_types flat cleanT (fun x w b o => AtT K w x b o) (fun x w b o => AtT K' w x b o) (fun _ _ _ _ _ hb h => h.later hb) (fun _ _ _ _ _ hb h => h.later hb) l l' (fun x hx y => h x hx K K' y) A A' c c' w b o b' o' (fun h => (hr.some h).1) (fun h => (hr'.some h).1) (hr.big) (hr'.big) hx hx'
def FieldAt (K : Nat → Prop) (f : ByteArray × Int × Ty) (w : World) (b o : Nat) : Prop := w.cell? ⟨b, o, none⟩ = some (.string f.1) ∧ w.cell? ⟨b, o + 1, none⟩ = some (.int .i64 f.2.1) ∧ AtT K w f.2.2 b (o + 2)
theorem FieldAt.later {K : Nat → Prop} {f : ByteArray × Int × Ty} {w w' : World} {b o : Nat} (h : FieldAt K f w b o) (hb : Below w.heap.size w w') : FieldAt K f w' b o := ⟨cell_stays hb h.1, cell_stays hb h.2.1, h.2.2.later hb⟩
def VarAt (K : Nat → Prop) (v : ByteArray × List Ty) (w : World) (b o : Nat) : Prop := ∃ B d, w.cell? ⟨b, o, none⟩ = some (.string v.1) ∧ w.cell? ⟨b, o + 1, none⟩ = some (.slice B v.2.length d) ∧ ListT K w v.2 B d
theorem VarAt.later {K : Nat → Prop} {v : ByteArray × List Ty} {w w' : World} {b o : Nat} (h : VarAt K v w b o) (hb : Below w.heap.size w w') : VarAt K v w' b o := by
 obtain ⟨B, d, h1, h2, h3⟩ := h
 exact ⟨B, d, cell_stays hb h1, cell_stays hb h2, h3.later hb⟩
theorem vars_one (v : ByteArray × List Ty) (h : ∀ b ∈ v.2, OrdT b) (K K' : Nat → Prop) (v' : ByteArray × List Ty) : OrdP 112 (VarAt K v) (VarAt K' v') (lexC (Tok.s v.1 :: flatL v.2) (.s v'.1 :: flatL v'.2)) := by
 refine ⟨fun w b o b' o' h1 h2 => ?_⟩
 rw [var_steps]
 obtain ⟨vn, vl⟩ := v
 obtain ⟨vn', vl'⟩ := v'
 obtain ⟨B, d, a0, a1, a2⟩ := h1
 obtain ⟨B', d', b0, b1, b2⟩ := h2
 have KL := Hd (list_any vl vl' h (w := w.drew.drew) (a2.later (Below.refl _ _).drew.drew) (b2.later (Below.refl _ _).drew.drew))
 have HS := Hd (And.intro a1 b1)
 have HS1 := Hd (And.intro a0 b0)
 simp only at HS HS1 KL ⊢
 have KC := Hd (fun w => compare_s vn vn' w)
 generalize cmpB vn vn' = cn at KC ⊢
 generalize lexC (flatL vl) (flatL vl') = cl at KL ⊢
 clear h a0 a1 a2 b0 b1 b2
 go_enter Tryz.func112, Tryz.ntmps112
 go_wp2_with fail
 refine wp_region_held_drew (S := (fun w' => w'.cell? ⟨b, o, none⟩ = some (.string vn) ∧ w'.cell? ⟨b', o', none⟩ = some (.string vn'))) (by kernel_rfl) HS1.out (fun hHeld => ?_)
 refine Plan.start [0, 1, 2, 3, 4, 5, 6, 7] ?_
 iterate 8 (refine Plan.tk (so rfl) hHeld ?_; try simp only [Act.put, pz1, pz2, pz3])
 refine Plan.done ?_
 refine wpAnyH_ready (rs := [8]) (by kernel_rfl) (by simp) ?_
 refine AllReadyH.cons (sd (some 14) rfl) (fun K hK => ?_) AllReadyH.nil
 go_simp
 refine (KC.out _).mono ?_
 rintro e w2 ⟨rfl, rfl⟩
 go_wp2_with fail
 refine hK.out _ _ (HS1.out) (fun hHeld => ?_)
 clear hK K
 try simp only [Act.put, pz1, pz2, pz3]
 refine Plan.start [9] ?_
 refine Plan.tk (so rfl) hHeld ?_
 try simp only [Act.put, pz1, pz2, pz3]
 refine Plan.done ?_
 refine wpAnyH_done (by kernel_rfl) ?_ _
 clear hHeld
 by_cases hc : cn = 0
 case neg =>
  have tc : (cn != 0) = true := by simpa using hc
  have HC := Hd hc
  clear hc
  go_wp2_with fail
  go_ret
  exact ⟨by rw [or2_ne HC.out]; rfl, (Gw.refl w).drew⟩
 have tc : (cn != 0) = false := by simpa using hc
 have HC0 := Hd hc
 clear hc
 go_wp2_with fail
 refine wp_region_held_drew (S := (fun w' => w'.cell? ⟨b, o + 1, none⟩ = some (.slice B vl.length d) ∧ w'.cell? ⟨b', o' + 1, none⟩ = some (.slice B' vl'.length d'))) (by kernel_rfl) HS.out (fun hHeld => ?_)
 refine Plan.start [0, 1, 2, 3, 4, 5, 6, 7] ?_
 iterate 8 (refine Plan.tk (so rfl) hHeld ?_; try simp only [Act.put, pz1, pz2, pz3])
 refine Plan.done ?_
 refine wpAnyH_ready (rs := [8]) (by kernel_rfl) (by simp) ?_
 refine AllReadyH.cons (sd (some 26) rfl) (fun K hK => ?_) AllReadyH.nil
 go_simp
 refine KL.out.mono ?_
 rintro e w4 ⟨rfl, hb4⟩
 have HB4 : Hid (Gw w w4) := Hd ((Gw.refl w).drew.drew.trans hb4)
 have HS4 := Hd (And.intro (cell_stays HB4.out.below HS.out.1) (cell_stays HB4.out.below HS.out.2))
 clear hb4
 go_wp2_with fail
 refine hK.out _ _ (HS4.out) (fun hHeld => ?_)
 clear hK K
 try simp only [Act.put, pz1, pz2, pz3]
 refine Plan.start [9] ?_
 refine Plan.tk (so rfl) hHeld ?_
 try simp only [Act.put, pz1, pz2, pz3]
 refine Plan.done ?_
 refine wpAnyH_done (by kernel_rfl) ?_ _
 clear hHeld
 go_wp2_with fail
 go_ret
 exact ⟨by rw [HC0.out, or2_zero]; rfl, HB4.out⟩
theorem field_one (f : ByteArray × Int × Ty) (h : OrdT f.2.2) (K K' : Nat → Prop) (f' : ByteArray × Int × Ty) : OrdP 110 (FieldAt K f) (FieldAt K' f') (lexC ([Tok.s f.1, .i f.2.1] ++ flat f.2.2) ([.s f'.1, .i f'.2.1] ++ flat f'.2.2)) := by
 refine ⟨fun w b o b' o' h1 h2 => ?_⟩
 rw [field_steps]
 obtain ⟨fn, fi, ft⟩ := f
 obtain ⟨fn', fi', ft'⟩ := f'
 obtain ⟨a0, a1, a2⟩ := h1
 obtain ⟨b0, b1, b2⟩ := h2
 simp only at a0 a1 a2 b0 b1 b2 h ⊢
 rw [← or2_assoc]
 have KA := Hd (fun w => compare_s fn fn' w)
 have KB := Hd (fun w => compare_i fi fi' w)
 generalize cmpB fn fn' = ca at KA ⊢
 generalize cmpZ fi fi' = cb at KB ⊢
 have HBx : Hid (Gw w (w.alloc (.cells #[.int .i64 ca, .int .i64 cb] 3)).drew) := Hd ((Gw.refl _).alloc _).drew
 have KL := Hd ((h K K' ft').ok (w.alloc (.cells #[.int .i64 ca, .int .i64 cb] 3)).drew.drew b (o + 2) b' (o' + 2) (a2.later HBx.out.drew.below) (b2.later HBx.out.drew.below))
 generalize ordT ft ft' = cl at KL ⊢
 have HS1 : Hid (w.drew.cell? ⟨b, o, none⟩ = some (.string fn) ∧ w.drew.cell? ⟨b', o', none⟩ = some (.string fn') ∧ w.drew.cell? ⟨b, o + 1, none⟩ = some (.int .i64 fi) ∧ w.drew.cell? ⟨b', o' + 1, none⟩ = some (.int .i64 fi')) := Hd ⟨a0, b0, a1, b1⟩
 have HK3 : Hid ((w.alloc (.cells #[.int .i64 ca, .int .i64 cb] 3)).drew.cell? ⟨b, o, none⟩ = some (.string fn) ∧ (w.alloc (.cells #[.int .i64 ca, .int .i64 cb] 3)).drew.cell? ⟨b', o', none⟩ = some (.string fn') ∧ (w.alloc (.cells #[.int .i64 ca, .int .i64 cb] 3)).drew.cell? ⟨b, o + 1, none⟩ = some (.int .i64 fi) ∧ (w.alloc (.cells #[.int .i64 ca, .int .i64 cb] 3)).drew.cell? ⟨b', o' + 1, none⟩ = some (.int .i64 fi')) := Hd ⟨cell_stays HBx.out.below a0, cell_stays HBx.out.below b0, cell_stays HBx.out.below a1, cell_stays HBx.out.below b1⟩
 clear h a0 a1 a2 b0 b1 b2
 go_enter Tryz.func110, Tryz.ntmps110
 go_wp2_with fail
 refine wp_region_held_drew (S := (fun w' => w'.cell? ⟨b, o, none⟩ = some (.string fn) ∧ w'.cell? ⟨b', o', none⟩ = some (.string fn') ∧ w'.cell? ⟨b, o + 1, none⟩ = some (.int .i64 fi) ∧ w'.cell? ⟨b', o' + 1, none⟩ = some (.int .i64 fi'))) (by kernel_rfl) HS1.out (fun hHeld => ?_)
 refine Plan.start [0, 1, 2, 3, 4, 5, 6, 7, 9, 10, 11, 12, 13, 14, 15, 16] ?_
 iterate 16 (refine Plan.tk (so rfl) hHeld ?_; try simp only [Act.put, pz1, pz2, pz3])
 refine Plan.done ?_
 refine wpAnyH_ready (rs := [8]) (by kernel_rfl) (by simp) ?_
 refine AllReadyH.cons (sd (some 14) rfl) (fun K hK => ?_) AllReadyH.nil
 go_simp
 refine (KA.out _).mono ?_
 rintro e w2 ⟨rfl, rfl⟩
 go_wp2_with fail
 refine hK.out _ _ (HS1.out) (fun hHeld => ?_)
 clear hK K
 try simp only [Act.put, pz1, pz2, pz3]
 refine wpAnyH_ready (rs := [17]) (by kernel_rfl) (by simp) ?_
 refine AllReadyH.cons (sd (some 23) rfl) (fun K hK => ?_) AllReadyH.nil
 go_simp
 refine (KB.out _).mono ?_
 rintro e w2 ⟨rfl, rfl⟩
 go_wp2_with fail
 refine hK.out _ _ (HS1.out) (fun hHeld => ?_)
 clear hK K
 try simp only [Act.put, pz1, pz2, pz3]
 refine wpAnyH_ready (rs := [18]) (by kernel_rfl) (by simp) ?_
 refine AllReadyH.cons (sd (some 24) rfl) (fun K hK => ?_) AllReadyH.nil
 go_simp
 refine hK.out _ _ (HK3.out) (fun hHeld => ?_)
 clear hK K
 try simp only [Act.put, pz1, pz2, pz3]
 refine wpAnyH_ready (rs := [19]) (by kernel_rfl) (by simp) ?_
 refine AllReadyH.cons (sd (some 25) rfl) (fun K hK => ?_) AllReadyH.nil
 go_simp
 refine (or_2 _ _ _ _ (boxZ2 w ca cb).1 (boxZ2 w ca cb).2).mono ?_
 rintro e w2 ⟨rfl, rfl⟩
 go_wp2_with fail
 refine hK.out _ _ (HK3.out) (fun hHeld => ?_)
 clear hK K
 try simp only [Act.put, pz1, pz2, pz3]
 refine Plan.start [20] ?_
 refine Plan.tk (so rfl) hHeld ?_
 try simp only [Act.put, pz1, pz2, pz3]
 refine Plan.done ?_
 refine wpAnyH_done (by kernel_rfl) ?_ _
 clear hHeld
 by_cases hc : or2 ca cb = 0
 case neg =>
  have tc : (or2 ca cb != 0) = true := by simpa using hc
  have HC := Hd hc
  clear hc
  go_wp2_with fail
  go_ret
  exact ⟨by rw [or2_ne HC.out]; rfl, HBx.out⟩
 have tc : (or2 ca cb != 0) = false := by simpa using hc
 have HC0 := Hd hc
 clear hc
 go_wp2_with fail
 refine wp_region_held_drew (S := (fun _ => True)) (by kernel_rfl) trivial (fun hHeld => ?_)
 refine Plan.start [0, 1, 2, 3, 4, 5] ?_
 iterate 6 (refine Plan.tk (so rfl) hHeld ?_; try simp only [Act.put, pz1, pz2, pz3])
 refine Plan.done ?_
 refine wpAnyH_ready (rs := [6]) (by kernel_rfl) (by simp) ?_
 refine AllReadyH.cons (sd (some 35) rfl) (fun K hK => ?_) AllReadyH.nil
 go_simp
 refine KL.out.mono ?_
 rintro e w4 ⟨rfl, hb4⟩
 have HB4 : Hid (Gw w w4) := Hd (HBx.out.drew.trans hb4)
 clear hb4
 go_wp2_with fail
 refine hK.out _ _ (trivial) (fun hHeld => ?_)
 clear hK K
 try simp only [Act.put, pz1, pz2, pz3]
 refine Plan.start [7] ?_
 refine Plan.tk (so rfl) hHeld ?_
 try simp only [Act.put, pz1, pz2, pz3]
 refine Plan.done ?_
 refine wpAnyH_done (by kernel_rfl) ?_ _
 clear hHeld
 go_wp2_with fail
 go_ret
 exact ⟨by rw [HC0.out, or2_zero]; rfl, HB4.out⟩
theorem fields_any (l l' : FsT) (h : ∀ f ∈ l, OrdT f.2.2) {K K' : Nat → Prop} {w : World} {A A' : Option Addr} {c c' : Nat} (h1 : ListF K w l A c) (h2 : ListF K' w l' A' c') :
  Calls Tryz.prog 109 #[.slice A l.length c, .slice A' l'.length c', .func (.func 110) #[] #[]] w fun e w' => e = .returned (.int .i64 (lexC (flatF l) (flatF l'))) ∧ Gw w w' := by
 obtain ⟨b, o, hr, hx⟩ := h1
 obtain ⟨b', o', hr', hx'⟩ := h2
 exact all_fields (fun f => [.s f.1, .i f.2.1] ++ flat f.2.2) cleanFd (fun x w b o => FieldAt K x w b o) (fun x w b o => FieldAt K' x w b o) (fun _ _ _ _ _ hb h => h.later hb) (fun _ _ _ _ _ hb h => h.later hb) l l' (fun x hx y => field_one x (h x hx) K K' y) A A' c c' w b o b' o' (fun h => (hr.some h).1) (fun h => (hr'.some h).1) (hr.big) (hr'.big) (fun i hi => ⟨(hx i hi).1, (hx i hi).2.1, (hx i hi).2.2.2⟩) (fun i hi => ⟨(hx' i hi).1, (hx' i hi).2.1, (hx' i hi).2.2.2⟩)
theorem vars_any (l l' : VsT) (h : ∀ v ∈ l, ∀ b ∈ v.2, OrdT b) {K K' : Nat → Prop} {w : World} {A A' : Option Addr} {c c' : Nat} (h1 : ListV K w l A c) (h2 : ListV K' w l' A' c') :
  Calls Tryz.prog 111 #[.slice A l.length c, .slice A' l'.length c', .func (.func 112) #[] #[]] w fun e w' => e = .returned (.int .i64 (lexC (flatV l) (flatV l'))) ∧ Gw w w' := by
 obtain ⟨b, o, hr, hx⟩ := h1
 obtain ⟨b', o', hr', hx'⟩ := h2
 exact all_vars (fun v => .s v.1 :: flatL v.2) cleanVr (fun x w b o => VarAt K x w b o) (fun x w b o => VarAt K' x w b o) (fun _ _ _ _ _ hb h => h.later hb) (fun _ _ _ _ _ hb h => h.later hb) l l' (fun x hx y => vars_one x (h x hx) K K' y) A A' c c' w b o b' o' (fun h => (hr.some h).1) (fun h => (hr'.some h).1) (hr.big) (hr'.big)
  (fun i hi => by obtain ⟨B, d, x0, x1, _, x3⟩ := hx i hi; exact ⟨B, d, x0, x1, x3⟩) (fun i hi => by obtain ⟨B, d, x0, x1, _, x3⟩ := hx' i hi; exact ⟨B, d, x0, x1, x3⟩)
theorem drewN_below {B : Nat} {a w : World} (h : Below B a w) : ∀ n, Below B a (w.drewN n)
 | 0 => h
 | n + 1 => (drewN_below h n).drew
def fitsB (s : Shp) (t : ByteArray) (n : Int) (np nf nv : Nat) : Bool :=
 !((!s.t && !(t.toList == [])) || (!s.n && n != 0) || (!s.f && decide (0 < nf)) || (!s.v && decide (0 < nv))) && (decide (s.lo ≤ (np : Int)) && (s.hi == -1 || decide ((np : Int) ≤ s.hi)))
theorem fits_ffff {w : World} {b o np nf nv c1 c2 c3 : Nat} {t : ByteArray} {n lo hi : Int} {A1 A2 A3 : Option Addr} (x1 : w.cell? ⟨b, o + 1, none⟩ = some (.string t)) (x2 : w.cell? ⟨b, o + 2, none⟩ = some (.int .i64 n)) (x3 : w.cell? ⟨b, o + 3, none⟩ = some (.slice A1 np c1)) (x4 : w.cell? ⟨b, o + 4, none⟩ = some (.slice A2 nf c2)) (x5 : w.cell? ⟨b, o + 5, none⟩ = some (.slice A3 nv c3)) :
  Calls Tryz.prog 82 #[.agg #[.bool false, .bool false, .bool false, .bool false, .int .i64 lo, .int .i64 hi], .pointer (some ⟨b, o, none⟩)] w fun e w' => e = .returned (.bool (fitsB ⟨false, false, false, false, lo, hi, true⟩ t n np nf nv)) ∧ Below w.heap.size w w' := by
 have hlt : b < w.heap.size := World.block_lt_of_cell? _ _ x1
 have HB : Hid (Below w.heap.size w (w.alloc (.cells #[.bool false, .bool false, .bool false, .bool false, .int .i64 lo, .int .i64 hi] 116))) := Hd ((Below.refl _ _).alloc (Nat.le_refl _) _)
 cases q0 : t.toList with
 | nil =>
  have e0 : (t.toList == []) = true := by rw [q0]; rfl
  have Q0 := Hd e0
  by_cases q1 : n = 0
  ·have e1 : (n != 0) = false := by simpa using q1
   have Q1 := Hd q1
   clear q1
   by_cases q2 : nf = 0
   ·have e2 : ¬ 0 < nf := by omega
    have z2 : decide ((0 : Int) < (nf : Int)) = false := by simp; omega
    have Q2 := Hd e2
    clear q2
    by_cases q3 : nv = 0
    ·have e3 : ¬ 0 < nv := by omega
     have z3 : decide ((0 : Int) < (nv : Int)) = false := by simp; omega
     have Q3 := Hd e3
     clear q3
     by_cases h1 : lo ≤ (np : Int)
     ·by_cases h2 : hi = -1
      ·have t2 : (hi == -1) = true := by simpa using h2
       have HR : Hid (fitsB ⟨false, false, false, false, lo, hi, true⟩ t n np nf nv = true) := Hd (by unfold fitsB; simp [Q0.out, Q1.out, Q2.out, Q3.out, h1, h2])
       clear h2
       go_enter Tryz.func82, Tryz.ntmps82
       go_wp2_with fail
       go_quiet (fail)
       go_wp2_with fail
       go_ret
       exact ⟨by rw [HR.out]; first | rfl | (show Ending.returned (.bool (decide ((np : Int) ≤ hi))) = _; rw [t3]), by first | exact HB.out | exact drewN_below HB.out _ | exact HB.out.drew⟩
      ·have t2 : (hi == -1) = false := by simpa using h2
       by_cases h3 : (np : Int) ≤ hi
       ·have t3 : decide ((np : Int) ≤ hi) = true := by simpa using h3
        have HR : Hid (fitsB ⟨false, false, false, false, lo, hi, true⟩ t n np nf nv = true) := Hd (by unfold fitsB; simp [Q0.out, Q1.out, Q2.out, Q3.out, h1, t2, h3])
        clear h2
        go_enter Tryz.func82, Tryz.ntmps82
        go_wp2_with fail
        go_quiet (fail)
        go_wp2_with fail
        go_ret
        exact ⟨by rw [HR.out]; first | rfl | (show Ending.returned (.bool (decide ((np : Int) ≤ hi))) = _; rw [t3]), by first | exact HB.out | exact drewN_below HB.out _ | exact HB.out.drew⟩
       ·have t3 : decide ((np : Int) ≤ hi) = false := by simpa using h3
        have HR : Hid (fitsB ⟨false, false, false, false, lo, hi, true⟩ t n np nf nv = false) := Hd (by unfold fitsB; simp [Q0.out, Q1.out, Q2.out, Q3.out, t2, h3])
        clear h2
        go_enter Tryz.func82, Tryz.ntmps82
        go_wp2_with fail
        go_quiet (fail)
        go_wp2_with fail
        go_ret
        exact ⟨by rw [HR.out]; first | rfl | (show Ending.returned (.bool (decide ((np : Int) ≤ hi))) = _; rw [t3]), by first | exact HB.out | exact drewN_below HB.out _ | exact HB.out.drew⟩
     ·have t1 : decide (lo ≤ (np : Int)) = false := by simpa using h1
      have t1b : (np : Int) < lo := by omega
      have HR : Hid (fitsB ⟨false, false, false, false, lo, hi, true⟩ t n np nf nv = false) := Hd (by unfold fitsB; simp [Q0.out, Q1.out, Q2.out, Q3.out, h1])
      go_enter Tryz.func82, Tryz.ntmps82
      go_wp2_with fail
      go_quiet (fail)
      go_wp2_with fail
      go_ret
      exact ⟨by rw [HR.out]; first | rfl | (show Ending.returned (.bool (decide ((np : Int) ≤ hi))) = _; rw [t3]), by first | exact HB.out | exact drewN_below HB.out _ | exact HB.out.drew⟩
    ·have e3 : 0 < nv := by omega
     have z3 : decide ((0 : Int) < (nv : Int)) = true := by simp; omega
     have Q3 := Hd e3
     clear q3
     have HR : Hid (fitsB ⟨false, false, false, false, lo, hi, true⟩ t n np nf nv = false) := Hd (by unfold fitsB; simp [Q0.out, Q1.out, Q2.out, Q3.out])
     go_enter Tryz.func82, Tryz.ntmps82
     go_wp2_with fail
     go_ret
     exact ⟨by rw [HR.out]; first | rfl | (show Ending.returned (.bool (decide ((np : Int) ≤ hi))) = _; rw [t3]), by first | exact HB.out | exact drewN_below HB.out _ | exact HB.out.drew⟩
   ·have e2 : 0 < nf := by omega
    have z2 : decide ((0 : Int) < (nf : Int)) = true := by simp; omega
    have Q2 := Hd e2
    clear q2
    have HR : Hid (fitsB ⟨false, false, false, false, lo, hi, true⟩ t n np nf nv = false) := Hd (by unfold fitsB; simp [Q0.out, Q1.out, Q2.out])
    go_enter Tryz.func82, Tryz.ntmps82
    go_wp2_with fail
    go_ret
    exact ⟨by rw [HR.out]; first | rfl | (show Ending.returned (.bool (decide ((np : Int) ≤ hi))) = _; rw [t3]), by first | exact HB.out | exact drewN_below HB.out _ | exact HB.out.drew⟩
  ·have e1 : (n != 0) = true := by simpa using q1
   have Q1 := Hd q1
   have HR : Hid (fitsB ⟨false, false, false, false, lo, hi, true⟩ t n np nf nv = false) := Hd (by unfold fitsB; simp [Q0.out, Q1.out])
   clear q1
   go_enter Tryz.func82, Tryz.ntmps82
   go_wp2_with fail
   go_ret
   exact ⟨by rw [HR.out]; first | rfl | (show Ending.returned (.bool (decide ((np : Int) ≤ hi))) = _; rw [t3]), by first | exact HB.out | exact drewN_below HB.out _ | exact HB.out.drew⟩
 | cons hd tl =>
  have e0 : (t.toList == []) = false := by rw [q0]; rfl
  have Q0 := Hd e0
  have HR : Hid (fitsB ⟨false, false, false, false, lo, hi, true⟩ t n np nf nv = false) := Hd (by unfold fitsB; simp [Q0.out])
  go_enter Tryz.func82, Tryz.ntmps82
  go_wp2_with fail
  go_ret
  exact ⟨by rw [HR.out]; first | rfl | (show Ending.returned (.bool (decide ((np : Int) ≤ hi))) = _; rw [t3]), by first | exact HB.out | exact drewN_below HB.out _ | exact HB.out.drew⟩
theorem fits_tfff {w : World} {b o np nf nv c1 c2 c3 : Nat} {t : ByteArray} {n lo hi : Int} {A1 A2 A3 : Option Addr} (x1 : w.cell? ⟨b, o + 1, none⟩ = some (.string t)) (x2 : w.cell? ⟨b, o + 2, none⟩ = some (.int .i64 n)) (x3 : w.cell? ⟨b, o + 3, none⟩ = some (.slice A1 np c1)) (x4 : w.cell? ⟨b, o + 4, none⟩ = some (.slice A2 nf c2)) (x5 : w.cell? ⟨b, o + 5, none⟩ = some (.slice A3 nv c3)) :
  Calls Tryz.prog 82 #[.agg #[.bool true, .bool false, .bool false, .bool false, .int .i64 lo, .int .i64 hi], .pointer (some ⟨b, o, none⟩)] w fun e w' => e = .returned (.bool (fitsB ⟨true, false, false, false, lo, hi, true⟩ t n np nf nv)) ∧ Below w.heap.size w w' := by
 have hlt : b < w.heap.size := World.block_lt_of_cell? _ _ x1
 have HB : Hid (Below w.heap.size w (w.alloc (.cells #[.bool true, .bool false, .bool false, .bool false, .int .i64 lo, .int .i64 hi] 116))) := Hd ((Below.refl _ _).alloc (Nat.le_refl _) _)
 by_cases q1 : n = 0
 ·have e1 : (n != 0) = false := by simpa using q1
  have Q1 := Hd q1
  clear q1
  by_cases q2 : nf = 0
  ·have e2 : ¬ 0 < nf := by omega
   have z2 : decide ((0 : Int) < (nf : Int)) = false := by simp; omega
   have Q2 := Hd e2
   clear q2
   by_cases q3 : nv = 0
   ·have e3 : ¬ 0 < nv := by omega
    have z3 : decide ((0 : Int) < (nv : Int)) = false := by simp; omega
    have Q3 := Hd e3
    clear q3
    by_cases h1 : lo ≤ (np : Int)
    ·by_cases h2 : hi = -1
     ·have t2 : (hi == -1) = true := by simpa using h2
      have HR : Hid (fitsB ⟨true, false, false, false, lo, hi, true⟩ t n np nf nv = true) := Hd (by unfold fitsB; simp [Q1.out, Q2.out, Q3.out, h1, h2])
      clear h2
      go_enter Tryz.func82, Tryz.ntmps82
      go_wp2_with fail
      go_quiet (fail)
      go_wp2_with fail
      go_ret
      exact ⟨by rw [HR.out]; first | rfl | (show Ending.returned (.bool (decide ((np : Int) ≤ hi))) = _; rw [t3]), by first | exact HB.out | exact drewN_below HB.out _ | exact HB.out.drew⟩
     ·have t2 : (hi == -1) = false := by simpa using h2
      by_cases h3 : (np : Int) ≤ hi
      ·have t3 : decide ((np : Int) ≤ hi) = true := by simpa using h3
       have HR : Hid (fitsB ⟨true, false, false, false, lo, hi, true⟩ t n np nf nv = true) := Hd (by unfold fitsB; simp [Q1.out, Q2.out, Q3.out, h1, t2, h3])
       clear h2
       go_enter Tryz.func82, Tryz.ntmps82
       go_wp2_with fail
       go_quiet (fail)
       go_wp2_with fail
       go_ret
       exact ⟨by rw [HR.out]; first | rfl | (show Ending.returned (.bool (decide ((np : Int) ≤ hi))) = _; rw [t3]), by first | exact HB.out | exact drewN_below HB.out _ | exact HB.out.drew⟩
      ·have t3 : decide ((np : Int) ≤ hi) = false := by simpa using h3
       have HR : Hid (fitsB ⟨true, false, false, false, lo, hi, true⟩ t n np nf nv = false) := Hd (by unfold fitsB; simp [Q1.out, Q2.out, Q3.out, t2, h3])
       clear h2
       go_enter Tryz.func82, Tryz.ntmps82
       go_wp2_with fail
       go_quiet (fail)
       go_wp2_with fail
       go_ret
       exact ⟨by rw [HR.out]; first | rfl | (show Ending.returned (.bool (decide ((np : Int) ≤ hi))) = _; rw [t3]), by first | exact HB.out | exact drewN_below HB.out _ | exact HB.out.drew⟩
    ·have t1 : decide (lo ≤ (np : Int)) = false := by simpa using h1
     have t1b : (np : Int) < lo := by omega
     have HR : Hid (fitsB ⟨true, false, false, false, lo, hi, true⟩ t n np nf nv = false) := Hd (by unfold fitsB; simp [Q1.out, Q2.out, Q3.out, h1])
     go_enter Tryz.func82, Tryz.ntmps82
     go_wp2_with fail
     go_quiet (fail)
     go_wp2_with fail
     go_ret
     exact ⟨by rw [HR.out]; first | rfl | (show Ending.returned (.bool (decide ((np : Int) ≤ hi))) = _; rw [t3]), by first | exact HB.out | exact drewN_below HB.out _ | exact HB.out.drew⟩
   ·have e3 : 0 < nv := by omega
    have z3 : decide ((0 : Int) < (nv : Int)) = true := by simp; omega
    have Q3 := Hd e3
    clear q3
    have HR : Hid (fitsB ⟨true, false, false, false, lo, hi, true⟩ t n np nf nv = false) := Hd (by unfold fitsB; simp [Q1.out, Q2.out, Q3.out])
    go_enter Tryz.func82, Tryz.ntmps82
    go_wp2_with fail
    go_ret
    exact ⟨by rw [HR.out]; first | rfl | (show Ending.returned (.bool (decide ((np : Int) ≤ hi))) = _; rw [t3]), by first | exact HB.out | exact drewN_below HB.out _ | exact HB.out.drew⟩
  ·have e2 : 0 < nf := by omega
   have z2 : decide ((0 : Int) < (nf : Int)) = true := by simp; omega
   have Q2 := Hd e2
   clear q2
   have HR : Hid (fitsB ⟨true, false, false, false, lo, hi, true⟩ t n np nf nv = false) := Hd (by unfold fitsB; simp [Q1.out, Q2.out])
   go_enter Tryz.func82, Tryz.ntmps82
   go_wp2_with fail
   go_ret
   exact ⟨by rw [HR.out]; first | rfl | (show Ending.returned (.bool (decide ((np : Int) ≤ hi))) = _; rw [t3]), by first | exact HB.out | exact drewN_below HB.out _ | exact HB.out.drew⟩
 ·have e1 : (n != 0) = true := by simpa using q1
  have Q1 := Hd q1
  have HR : Hid (fitsB ⟨true, false, false, false, lo, hi, true⟩ t n np nf nv = false) := Hd (by unfold fitsB; simp [Q1.out])
  clear q1
  go_enter Tryz.func82, Tryz.ntmps82
  go_wp2_with fail
  go_ret
  exact ⟨by rw [HR.out]; first | rfl | (show Ending.returned (.bool (decide ((np : Int) ≤ hi))) = _; rw [t3]), by first | exact HB.out | exact drewN_below HB.out _ | exact HB.out.drew⟩
theorem fits_ttff {w : World} {b o np nf nv c1 c2 c3 : Nat} {t : ByteArray} {n lo hi : Int} {A1 A2 A3 : Option Addr} (x1 : w.cell? ⟨b, o + 1, none⟩ = some (.string t)) (_x2 : w.cell? ⟨b, o + 2, none⟩ = some (.int .i64 n)) (x3 : w.cell? ⟨b, o + 3, none⟩ = some (.slice A1 np c1)) (x4 : w.cell? ⟨b, o + 4, none⟩ = some (.slice A2 nf c2)) (x5 : w.cell? ⟨b, o + 5, none⟩ = some (.slice A3 nv c3)) :
  Calls Tryz.prog 82 #[.agg #[.bool true, .bool true, .bool false, .bool false, .int .i64 lo, .int .i64 hi], .pointer (some ⟨b, o, none⟩)] w fun e w' => e = .returned (.bool (fitsB ⟨true, true, false, false, lo, hi, true⟩ t n np nf nv)) ∧ Below w.heap.size w w' := by
 have hlt : b < w.heap.size := World.block_lt_of_cell? _ _ x1
 have HB : Hid (Below w.heap.size w (w.alloc (.cells #[.bool true, .bool true, .bool false, .bool false, .int .i64 lo, .int .i64 hi] 116))) := Hd ((Below.refl _ _).alloc (Nat.le_refl _) _)
 by_cases q2 : nf = 0
 ·have e2 : ¬ 0 < nf := by omega
  have z2 : decide ((0 : Int) < (nf : Int)) = false := by simp; omega
  have Q2 := Hd e2
  clear q2
  by_cases q3 : nv = 0
  ·have e3 : ¬ 0 < nv := by omega
   have z3 : decide ((0 : Int) < (nv : Int)) = false := by simp; omega
   have Q3 := Hd e3
   clear q3
   by_cases h1 : lo ≤ (np : Int)
   ·by_cases h2 : hi = -1
    ·have t2 : (hi == -1) = true := by simpa using h2
     have HR : Hid (fitsB ⟨true, true, false, false, lo, hi, true⟩ t n np nf nv = true) := Hd (by unfold fitsB; simp [Q2.out, Q3.out, h1, h2])
     clear h2
     go_enter Tryz.func82, Tryz.ntmps82
     go_wp2_with fail
     go_quiet (fail)
     go_wp2_with fail
     go_ret
     exact ⟨by rw [HR.out]; first | rfl | (show Ending.returned (.bool (decide ((np : Int) ≤ hi))) = _; rw [t3]), by first | exact HB.out | exact drewN_below HB.out _ | exact HB.out.drew⟩
    ·have t2 : (hi == -1) = false := by simpa using h2
     by_cases h3 : (np : Int) ≤ hi
     ·have t3 : decide ((np : Int) ≤ hi) = true := by simpa using h3
      have HR : Hid (fitsB ⟨true, true, false, false, lo, hi, true⟩ t n np nf nv = true) := Hd (by unfold fitsB; simp [Q2.out, Q3.out, h1, t2, h3])
      clear h2
      go_enter Tryz.func82, Tryz.ntmps82
      go_wp2_with fail
      go_quiet (fail)
      go_wp2_with fail
      go_ret
      exact ⟨by rw [HR.out]; first | rfl | (show Ending.returned (.bool (decide ((np : Int) ≤ hi))) = _; rw [t3]), by first | exact HB.out | exact drewN_below HB.out _ | exact HB.out.drew⟩
     ·have t3 : decide ((np : Int) ≤ hi) = false := by simpa using h3
      have HR : Hid (fitsB ⟨true, true, false, false, lo, hi, true⟩ t n np nf nv = false) := Hd (by unfold fitsB; simp [Q2.out, Q3.out, t2, h3])
      clear h2
      go_enter Tryz.func82, Tryz.ntmps82
      go_wp2_with fail
      go_quiet (fail)
      go_wp2_with fail
      go_ret
      exact ⟨by rw [HR.out]; first | rfl | (show Ending.returned (.bool (decide ((np : Int) ≤ hi))) = _; rw [t3]), by first | exact HB.out | exact drewN_below HB.out _ | exact HB.out.drew⟩
   ·have t1 : decide (lo ≤ (np : Int)) = false := by simpa using h1
    have t1b : (np : Int) < lo := by omega
    have HR : Hid (fitsB ⟨true, true, false, false, lo, hi, true⟩ t n np nf nv = false) := Hd (by unfold fitsB; simp [Q2.out, Q3.out, h1])
    go_enter Tryz.func82, Tryz.ntmps82
    go_wp2_with fail
    go_quiet (fail)
    go_wp2_with fail
    go_ret
    exact ⟨by rw [HR.out]; first | rfl | (show Ending.returned (.bool (decide ((np : Int) ≤ hi))) = _; rw [t3]), by first | exact HB.out | exact drewN_below HB.out _ | exact HB.out.drew⟩
  ·have e3 : 0 < nv := by omega
   have z3 : decide ((0 : Int) < (nv : Int)) = true := by simp; omega
   have Q3 := Hd e3
   clear q3
   have HR : Hid (fitsB ⟨true, true, false, false, lo, hi, true⟩ t n np nf nv = false) := Hd (by unfold fitsB; simp [Q2.out, Q3.out])
   go_enter Tryz.func82, Tryz.ntmps82
   go_wp2_with fail
   go_ret
   exact ⟨by rw [HR.out]; first | rfl | (show Ending.returned (.bool (decide ((np : Int) ≤ hi))) = _; rw [t3]), by first | exact HB.out | exact drewN_below HB.out _ | exact HB.out.drew⟩
 ·have e2 : 0 < nf := by omega
  have z2 : decide ((0 : Int) < (nf : Int)) = true := by simp; omega
  have Q2 := Hd e2
  clear q2
  have HR : Hid (fitsB ⟨true, true, false, false, lo, hi, true⟩ t n np nf nv = false) := Hd (by unfold fitsB; simp [Q2.out])
  go_enter Tryz.func82, Tryz.ntmps82
  go_wp2_with fail
  go_ret
  exact ⟨by rw [HR.out]; first | rfl | (show Ending.returned (.bool (decide ((np : Int) ≤ hi))) = _; rw [t3]), by first | exact HB.out | exact drewN_below HB.out _ | exact HB.out.drew⟩
end Go.Proofs.YtgjblmlibhppiaaGreatDoor
