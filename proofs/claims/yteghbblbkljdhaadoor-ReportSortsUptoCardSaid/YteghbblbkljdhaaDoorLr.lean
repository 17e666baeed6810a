import Derived.Test.YteghbblbkljdhaaDoorLi
import Derived.Deep.RegionHeld3
namespace Go.Proofs.YteghbblbkljdhaaDoor
open Go.RowKit

def BD (w w' : World) : Prop := Below w.heap.size w w'
theorem keepA {w w1 w2 : World} {v0 v1 v2 v3 : Value} (hb : Below w1.heap.size w1 w2) (h : BD w w1 ∧ w1.cell? ⟨w.heap.size, 0, none⟩ = some v0 ∧ w1.cell? ⟨w.heap.size, 1, none⟩ = some v1 ∧ w1.cell? ⟨w.heap.size, 2, none⟩ = some v2 ∧ w1.cell? ⟨w.heap.size, 3, none⟩ = some v3) :
    BD w w2 ∧ w2.cell? ⟨w.heap.size, 0, none⟩ = some v0 ∧ w2.cell? ⟨w.heap.size, 1, none⟩ = some v1 ∧ w2.cell? ⟨w.heap.size, 2, none⟩ = some v2 ∧ w2.cell? ⟨w.heap.size, 3, none⟩ = some v3 :=
  ⟨below_step h.1 hb, cell_later hb h.2.1, cell_later hb h.2.2.1, cell_later hb h.2.2.2.1, cell_later hb h.2.2.2.2⟩
theorem keep0 (w : World) (v0 v1 v2 v3 : Value) (T : TypeId) (h : Below w.heap.size w (w.alloc (.cells #[v0, v1, v2, v3] T))) :
    BD w (w.alloc (.cells #[v0, v1, v2, v3] T)).drew ∧ (w.alloc (.cells #[v0, v1, v2, v3] T)).drew.cell? ⟨w.heap.size, 0, none⟩ = some v0 ∧ (w.alloc (.cells #[v0, v1, v2, v3] T)).drew.cell? ⟨w.heap.size, 1, none⟩ = some v1 ∧ (w.alloc (.cells #[v0, v1, v2, v3] T)).drew.cell? ⟨w.heap.size, 2, none⟩ = some v2 ∧ (w.alloc (.cells #[v0, v1, v2, v3] T)).drew.cell? ⟨w.heap.size, 3, none⟩ = some v3 :=
  ⟨Below.drew h, diag_cells w _ v0 v1 v2 v3 T (Below.drew (Below.refl _ _))⟩
set_option maxRecDepth 100000 in
set_option maxHeartbeats 1000000 in
theorem lineR_out_e (f t s : ByteArray) (a c : Int) (w : World) (hs : s.size ≤ 1000000000000) (hf : f.size ≤ 1000000000000000) (ht : t.size ≤ 1000000000000000) (h : a < 0 ∨ s.size < a) (te : t.data.toList = []) :
    Calls Tryd.prog 25 #[.agg #[.string f, .int .i64 a, .int .i64 c, .string t], .string s] w fun e w' => e = .returned (.string ⟨(lineL f.data.toList t.data.toList a c s).toArray⟩) ∧ Below w.heap.size w w' := by
  have WO := Lib.hid (fun w => where_ref_out s a w hs h)
  have hw : whereL s a = [63, 58, 63] := if_pos h
  have D := Lib.hid (show lineL f.data.toList t.data.toList a c s = f.data.toList ++ 58 :: ([63, 58, 63] ++ 58 :: 32 :: (wordsL c ++ [])) by rw [lineL, hw, if_pos te])
  have te2 : t.toList.isEmpty = true := by have e : t.toList = t.data.toList := ByteArray.toList_eq t; rw [e]; simpa using te
  clear hw te h
  have wl := words_len c
  have n1 : ¬ (9223372036854775807 < f.size + 6) := by omega
  have n4 : ¬ (9223372036854775807 < f.size + 6 + (wordsL c).length) := by omega
  have n5 : ¬ (9223372036854775807 < f.size + 6 + (wordsL c).length + (2 + t.size)) := by omega
  have n6 : ¬ (9223372036854775807 < 2 + t.size) := by omega
  have HB := Lib.hid ((Below.refl w.heap.size w).alloc (Nat.le_refl _) (.cells #[.string f, .int .i64 a, .int .i64 c, .string t] 55))
  clear wl
  go_enter Tryd.func25, Tryd.ntmps25
  go_wp2_with fail
  refine (WO.out _).mono ?_
  rintro e w1 ⟨rfl, rfl⟩
  go_wp2_with fail
  refine (words_ref c _).mono ?_
  rintro e w4 ⟨rfl, rfl⟩
  go_wp2_with fail
  go_ret
  exact ⟨str_of (by rw [D.out]; simp), HB.out⟩
set_option maxRecDepth 100000 in
set_option maxHeartbeats 1000000 in
theorem lineR_in_e (f t s : ByteArray) (n : Nat) (c : Int) (w : World) (hs : s.size ≤ 1000000000000) (hf : f.size ≤ 1000000000000000) (ht : t.size ≤ 1000000000000000) (hT : Tab10 w) (h : n ≤ s.size) (te : t.data.toList = []) :
    Calls Tryd.prog 25 #[.agg #[.string f, .int .i64 n, .int .i64 c, .string t], .string s] w fun e w' => e = .returned (.string ⟨(lineL f.data.toList t.data.toList n c s).toArray⟩) ∧ Below w.heap.size w w' := by
  have hl := lineN_bd s n
  have hc := colN_bd s n
  have hw : whereL s (n : Int) = Lib.itoa (lineN s n : Int) ++ 58 :: Lib.itoa (colN s n : Int) := if_neg (by omega)
  have D := Lib.hid (show lineL f.data.toList t.data.toList n c s = f.data.toList ++ 58 :: ((Lib.itoa (lineN s n : Int) ++ 58 :: Lib.itoa (colN s n : Int)) ++ 58 :: 32 :: (wordsL c ++ [])) by rw [lineL, hw, if_pos te])
  have WO := Lib.hid (fun w => where_ref s n w hs h)
  have l1 := Lib.itoa_length_le (lineN s n) (by omega) (by omega)
  have l2 := Lib.itoa_length_le (colN s n) (by omega) (by omega)
  have I1 := Lib.hid (fun w1 => itoa_step (lineN s n) (by omega) w w1 hT)
  have I2 := Lib.hid (fun w1 => itoa_step (colN s n) (by omega) w w1 hT)
  generalize hx1 : Lib.itoa (lineN s n : Int) = x1 at *
  generalize hx2 : Lib.itoa (colN s n : Int) = x2 at *
  have te2 : t.toList.isEmpty = true := by have e : t.toList = t.data.toList := ByteArray.toList_eq t; rw [e]; simpa using te
  clear hw te h
  have wl := words_len c
  have n0 : ¬ (9223372036854775807 < f.size + 6) := by omega
  have n1 : ¬ (9223372036854775807 < f.size + 1) := by omega
  have n2 : ¬ (9223372036854775807 < f.size + 1 + x1.length) := by omega
  have n7 : ¬ (9223372036854775807 < f.size + 1 + x1.length + 1) := by omega
  have n8 : ¬ (9223372036854775807 < f.size + 1 + x1.length + 1 + x2.length) := by omega
  have n3 : ¬ (9223372036854775807 < f.size + 1 + x1.length + 1 + x2.length + 2) := by omega
  have n4 : ¬ (9223372036854775807 < f.size + 1 + x1.length + 1 + x2.length + 2 + (wordsL c).length) := by omega
  have n5 : ¬ (9223372036854775807 < f.size + 1 + x1.length + 1 + x2.length + 2 + (wordsL c).length + (2 + t.size)) := by omega
  have n6 : ¬ (9223372036854775807 < 2 + t.size) := by omega
  have HB := Lib.hid ((Below.refl w.heap.size w).alloc (Nat.le_refl _) (.cells #[.string f, .int .i64 n, .int .i64 c, .string t] 55))
  clear wl l1 l2 hl hc hT
  go_enter Tryd.func25, Tryd.ntmps25
  go_wp2_with fail
  refine (WO.out _).mono ?_
  rintro e w1 ⟨rfl, rfl⟩
  go_wp2_with fail
  have B0 := keep0 _ _ _ _ _ _ HB.out
  go_region_held3 (fun w' => BD w w' ∧ w'.cell? ⟨w.heap.size, 0, none⟩ = some (.string f) ∧ w'.cell? ⟨w.heap.size, 1, none⟩ = some (.int .i64 n) ∧ w'.cell? ⟨w.heap.size, 2, none⟩ = some (.int .i64 c) ∧ w'.cell? ⟨w.heap.size, 3, none⟩ = some (.string t)) (first | exact B0 | exact keepA (by assumption) (by assumption) | exact keepA (by assumption) ⟨by assumption, by assumption, by assumption, by assumption, by assumption⟩) (first
    | (go_at_call 42; refine (I1.out _ ?_).mono ?_; (show BD _ _; first | assumption | exact And.left (by assumption)); rintro e w' ⟨rfl, hb⟩)
    | (go_at_call 42; refine (I2.out _ ?_).mono ?_; (show BD _ _; first | assumption | exact And.left (by assumption)); rintro e w' ⟨rfl, hb⟩))
  rename_i hS
  obtain ⟨b3, k0, k1, k2, k3⟩ := hS
  have HB3 := Lib.hid b3
  clear b3 hb B0
  go_wp2_with fail
  refine (words_ref c _).mono ?_
  rintro e w4 ⟨rfl, rfl⟩
  go_wp2_with fail
  go_ret
  exact ⟨str_of (by rw [D.out]; simp), HB3.out⟩
set_option maxRecDepth 100000 in
set_option maxHeartbeats 1000000 in
theorem lineR_out_t (f t s : ByteArray) (a c : Int) (w : World) (hs : s.size ≤ 1000000000000) (hf : f.size ≤ 1000000000000000) (ht : t.size ≤ 1000000000000000) (h : a < 0 ∨ s.size < a) (te : ¬ t.data.toList = []) :
    Calls Tryd.prog 25 #[.agg #[.string f, .int .i64 a, .int .i64 c, .string t], .string s] w fun e w' => e = .returned (.string ⟨(lineL f.data.toList t.data.toList a c s).toArray⟩) ∧ Below w.heap.size w w' := by
  have WO := Lib.hid (fun w => where_ref_out s a w hs h)
  have hw : whereL s a = [63, 58, 63] := if_pos h
  have D := Lib.hid (show lineL f.data.toList t.data.toList a c s = f.data.toList ++ 58 :: ([63, 58, 63] ++ 58 :: 32 :: (wordsL c ++ 58 :: 32 :: t.data.toList)) by rw [lineL, hw, if_neg te])
  have te2 : t.toList.isEmpty = false := by have e : t.toList = t.data.toList := ByteArray.toList_eq t; rw [e]; simpa using te
  clear hw te h
  have wl := words_len c
  have n1 : ¬ (9223372036854775807 < f.size + 6) := by omega
  have n4 : ¬ (9223372036854775807 < f.size + 6 + (wordsL c).length) := by omega
  have n5 : ¬ (9223372036854775807 < f.size + 6 + (wordsL c).length + (2 + t.size)) := by omega
  have n6 : ¬ (9223372036854775807 < 2 + t.size) := by omega
  have HB := Lib.hid ((Below.refl w.heap.size w).alloc (Nat.le_refl _) (.cells #[.string f, .int .i64 a, .int .i64 c, .string t] 55))
  clear wl
  go_enter Tryd.func25, Tryd.ntmps25
  go_wp2_with fail
  refine (WO.out _).mono ?_
  rintro e w1 ⟨rfl, rfl⟩
  go_wp2_with fail
  refine (words_ref c _).mono ?_
  rintro e w4 ⟨rfl, rfl⟩
  go_wp2_with fail
  go_ret
  exact ⟨str_of (by rw [D.out]; simp), HB.out⟩
set_option maxRecDepth 100000 in
set_option maxHeartbeats 1000000 in
theorem lineR_in_t (f t s : ByteArray) (n : Nat) (c : Int) (w : World) (hs : s.size ≤ 1000000000000) (hf : f.size ≤ 1000000000000000) (ht : t.size ≤ 1000000000000000) (hT : Tab10 w) (h : n ≤ s.size) (te : ¬ t.data.toList = []) :
    Calls Tryd.prog 25 #[.agg #[.string f, .int .i64 n, .int .i64 c, .string t], .string s] w fun e w' => e = .returned (.string ⟨(lineL f.data.toList t.data.toList n c s).toArray⟩) ∧ Below w.heap.size w w' := by
  have hl := lineN_bd s n
  have hc := colN_bd s n
  have hw : whereL s (n : Int) = Lib.itoa (lineN s n : Int) ++ 58 :: Lib.itoa (colN s n : Int) := if_neg (by omega)
  have D := Lib.hid (show lineL f.data.toList t.data.toList n c s = f.data.toList ++ 58 :: ((Lib.itoa (lineN s n : Int) ++ 58 :: Lib.itoa (colN s n : Int)) ++ 58 :: 32 :: (wordsL c ++ 58 :: 32 :: t.data.toList)) by rw [lineL, hw, if_neg te])
  have WO := Lib.hid (fun w => where_ref s n w hs h)
  have l1 := Lib.itoa_length_le (lineN s n) (by omega) (by omega)
  have l2 := Lib.itoa_length_le (colN s n) (by omega) (by omega)
  have I1 := Lib.hid (fun w1 => itoa_step (lineN s n) (by omega) w w1 hT)
  have I2 := Lib.hid (fun w1 => itoa_step (colN s n) (by omega) w w1 hT)
  generalize hx1 : Lib.itoa (lineN s n : Int) = x1 at *
  generalize hx2 : Lib.itoa (colN s n : Int) = x2 at *
  have te2 : t.toList.isEmpty = false := by have e : t.toList = t.data.toList := ByteArray.toList_eq t; rw [e]; simpa using te
  clear hw te h
  have wl := words_len c
  have n0 : ¬ (9223372036854775807 < f.size + 6) := by omega
  have n1 : ¬ (9223372036854775807 < f.size + 1) := by omega
  have n2 : ¬ (9223372036854775807 < f.size + 1 + x1.length) := by omega
  have n7 : ¬ (9223372036854775807 < f.size + 1 + x1.length + 1) := by omega
  have n8 : ¬ (9223372036854775807 < f.size + 1 + x1.length + 1 + x2.length) := by omega
  have n3 : ¬ (9223372036854775807 < f.size + 1 + x1.length + 1 + x2.length + 2) := by omega
  have n4 : ¬ (9223372036854775807 < f.size + 1 + x1.length + 1 + x2.length + 2 + (wordsL c).length) := by omega
  have n5 : ¬ (9223372036854775807 < f.size + 1 + x1.length + 1 + x2.length + 2 + (wordsL c).length + (2 + t.size)) := by omega
  have n6 : ¬ (9223372036854775807 < 2 + t.size) := by omega
  have HB := Lib.hid ((Below.refl w.heap.size w).alloc (Nat.le_refl _) (.cells #[.string f, .int .i64 n, .int .i64 c, .string t] 55))
  clear wl l1 l2 hl hc hT
  go_enter Tryd.func25, Tryd.ntmps25
  go_wp2_with fail
  refine (WO.out _).mono ?_
  rintro e w1 ⟨rfl, rfl⟩
  go_wp2_with fail
  have B0 := keep0 _ _ _ _ _ _ HB.out
  go_region_held3 (fun w' => BD w w' ∧ w'.cell? ⟨w.heap.size, 0, none⟩ = some (.string f) ∧ w'.cell? ⟨w.heap.size, 1, none⟩ = some (.int .i64 n) ∧ w'.cell? ⟨w.heap.size, 2, none⟩ = some (.int .i64 c) ∧ w'.cell? ⟨w.heap.size, 3, none⟩ = some (.string t)) (first | exact B0 | exact keepA (by assumption) (by assumption) | exact keepA (by assumption) ⟨by assumption, by assumption, by assumption, by assumption, by assumption⟩) (first
    | (go_at_call 42; refine (I1.out _ ?_).mono ?_; (show BD _ _; first | assumption | exact And.left (by assumption)); rintro e w' ⟨rfl, hb⟩)
    | (go_at_call 42; refine (I2.out _ ?_).mono ?_; (show BD _ _; first | assumption | exact And.left (by assumption)); rintro e w' ⟨rfl, hb⟩))
  rename_i hS
  obtain ⟨b3, k0, k1, k2, k3⟩ := hS
  have HB3 := Lib.hid b3
  clear b3 hb B0
  go_wp2_with fail
  refine (words_ref c _).mono ?_
  rintro e w4 ⟨rfl, rfl⟩
  go_wp2_with fail
  go_ret
  exact ⟨str_of (by rw [D.out]; simp), HB3.out⟩
end Go.Proofs.YteghbblbkljdhaaDoor
