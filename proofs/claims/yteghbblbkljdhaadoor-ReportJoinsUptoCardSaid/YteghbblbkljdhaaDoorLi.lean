import Derived.Test.YteghbblbkljdhaaDoorBe
import Derived.Lib.ItoaLen
import Derived.Deep.QuietTactic
import Derived.BigQuiet
namespace Go.Proofs.YteghbblbkljdhaaDoor
open Go.RowKit

theorem words_len (c : Int) : (wordsL c).length ≤ 40 := by
  unfold wordsL
  cases h : saysL.find? fun p => p.1 == c with
  | none => decide
  | some p =>
    have h2 : ∀ p ∈ saysL, p.2.length ≤ 40 := by decide +kernel
    exact h2 p (List.mem_of_find?_eq_some h)
def whereL (s : ByteArray) (a : Int) : List UInt8 := if a < 0 ∨ s.size < a then [63, 58, 63] else Lib.itoa (lineN s a.toNat : Int) ++ 58 :: Lib.itoa (colN s a.toNat : Int)
def lineL (f t : List UInt8) (a c : Int) (s : ByteArray) : List UInt8 := f ++ 58 :: (whereL s a ++ 58 :: 32 :: (wordsL c ++ if t = [] then [] else 58 :: 32 :: t))
theorem str_of {x : ByteArray} {l : List UInt8} (h : x.data.toList = l) : Ending.returned (.string x) = .returned (.string ⟨l.toArray⟩) := by subst h; simp
set_option maxRecDepth 100000 in
set_option maxHeartbeats 1000000 in
theorem line_out_e (f t s : ByteArray) (a c : Int) (w : World) (hs : s.size ≤ 1000000000000) (hf : f.size ≤ 1000000000000000) (ht : t.size ≤ 1000000000000000) (hS : HasSaid w) (h : a < 0 ∨ s.size < a) (te : t.data.toList = []) :
    Calls Tryd.prog 24 #[.agg #[.string f, .int .i64 a, .int .i64 c, .string t], .string s] w fun e w' => e = .returned (.string ⟨(lineL f.data.toList t.data.toList a c s).toArray⟩) ∧ Below w.heap.size w w' := by
  have WO := Lib.hid (fun w => where_prog_out s a w hs h)
  have hw : whereL s a = [63, 58, 63] := if_pos h
  have D := Lib.hid (show lineL f.data.toList t.data.toList a c s = f.data.toList ++ 58 :: ([63, 58, 63] ++ 58 :: 32 :: (wordsL c ++ [])) by rw [lineL, hw, if_pos te])
  have te2 : t.toList.isEmpty = true := by have e : t.toList = t.data.toList := ByteArray.toList_eq t; rw [e]; simpa using te
  clear hw te h
  have SS := Lib.hid hS
  have wl := words_len c
  have n1 : ¬ (9223372036854775807 < f.size + 1) := by omega
  have n2 : ¬ (9223372036854775807 < f.size + 1 + 3) := by omega
  have n3 : ¬ (9223372036854775807 < f.size + 1 + 3 + 2) := by omega
  have n4 : ¬ (9223372036854775807 < f.size + 1 + 3 + 2 + (wordsL c).length) := by omega
  have n5 : ¬ (9223372036854775807 < f.size + 1 + 3 + 2 + (wordsL c).length + (2 + t.size)) := by omega
  have n6 : ¬ (9223372036854775807 < 2 + t.size) := by omega
  have HB := Lib.hid ((Below.refl w.heap.size w).alloc (Nat.le_refl _) (.cells #[.string f, .int .i64 a, .int .i64 c, .string t] 55))
  clear hS wl
  go_enter Tryd.func24, Tryd.ntmps24
  go_wp2_with fail
  refine (WO.out _).mono ?_
  rintro e w1 ⟨rfl, rfl⟩
  go_wp2_with fail
  go_quiet (first | (go_at_call 26; refine Calls.quiet_of_same (words_quiet c w _ _ SS.out HB.out)))
  go_wp2_with fail
  go_ret
  exact ⟨str_of (by rw [D.out]; simp), below_drewN HB.out _⟩
set_option maxRecDepth 100000 in
set_option maxHeartbeats 1000000 in
theorem line_out_t (f t s : ByteArray) (a c : Int) (w : World) (hs : s.size ≤ 1000000000000) (hf : f.size ≤ 1000000000000000) (ht : t.size ≤ 1000000000000000) (hS : HasSaid w) (h : a < 0 ∨ s.size < a) (te : ¬ t.data.toList = []) :
    Calls Tryd.prog 24 #[.agg #[.string f, .int .i64 a, .int .i64 c, .string t], .string s] w fun e w' => e = .returned (.string ⟨(lineL f.data.toList t.data.toList a c s).toArray⟩) ∧ Below w.heap.size w w' := by
  have WO := Lib.hid (fun w => where_prog_out s a w hs h)
  have hw : whereL s a = [63, 58, 63] := if_pos h
  have D := Lib.hid (show lineL f.data.toList t.data.toList a c s = f.data.toList ++ 58 :: ([63, 58, 63] ++ 58 :: 32 :: (wordsL c ++ 58 :: 32 :: t.data.toList)) by rw [lineL, hw, if_neg te])
  have te2 : t.toList.isEmpty = false := by have e : t.toList = t.data.toList := ByteArray.toList_eq t; rw [e]; simpa using te
  clear hw te h
  have SS := Lib.hid hS
  have wl := words_len c
  have n1 : ¬ (9223372036854775807 < f.size + 1) := by omega
  have n2 : ¬ (9223372036854775807 < f.size + 1 + 3) := by omega
  have n3 : ¬ (9223372036854775807 < f.size + 1 + 3 + 2) := by omega
  have n4 : ¬ (9223372036854775807 < f.size + 1 + 3 + 2 + (wordsL c).length) := by omega
  have n5 : ¬ (9223372036854775807 < f.size + 1 + 3 + 2 + (wordsL c).length + (2 + t.size)) := by omega
  have n6 : ¬ (9223372036854775807 < 2 + t.size) := by omega
  have HB := Lib.hid ((Below.refl w.heap.size w).alloc (Nat.le_refl _) (.cells #[.string f, .int .i64 a, .int .i64 c, .string t] 55))
  clear hS wl
  go_enter Tryd.func24, Tryd.ntmps24
  go_wp2_with fail
  refine (WO.out _).mono ?_
  rintro e w1 ⟨rfl, rfl⟩
  go_wp2_with fail
  go_quiet (first | (go_at_call 26; refine Calls.quiet_of_same (words_quiet c w _ _ SS.out HB.out)))
  go_wp2_with fail
  go_ret
  exact ⟨str_of (by rw [D.out]; simp), below_drewN HB.out _⟩
set_option maxRecDepth 100000 in
set_option maxHeartbeats 1000000 in
theorem line_in_e (f t s : ByteArray) (n : Nat) (c : Int) (w : World) (hs : s.size ≤ 1000000000000) (hf : f.size ≤ 1000000000000000) (ht : t.size ≤ 1000000000000000) (hS : HasSaid w) (hT : Tab10 w) (h : n ≤ s.size) (te : t.data.toList = []) :
    Calls Tryd.prog 24 #[.agg #[.string f, .int .i64 n, .int .i64 c, .string t], .string s] w fun e w' => e = .returned (.string ⟨(lineL f.data.toList t.data.toList n c s).toArray⟩) ∧ Below w.heap.size w w' := by
  have hl := lineN_bd s n
  have hc := colN_bd s n
  have hw : whereL s (n : Int) = Lib.itoa (lineN s n : Int) ++ 58 :: Lib.itoa (colN s n : Int) := if_neg (by omega)
  have D := Lib.hid (show lineL f.data.toList t.data.toList n c s = f.data.toList ++ 58 :: ((Lib.itoa (lineN s n : Int) ++ 58 :: Lib.itoa (colN s n : Int)) ++ 58 :: 32 :: (wordsL c ++ [])) by rw [lineL, hw, if_pos te])
  have WO := Lib.hid (fun w => where_prog s n w hs h)
  have l1 := Lib.itoa_length_le (lineN s n) (by omega) (by omega)
  have l2 := Lib.itoa_length_le (colN s n) (by omega) (by omega)
  have I1 := Lib.hid (fun w1 => itoa_step (lineN s n) (by omega) w w1 hT)
  have I2 := Lib.hid (fun w1 => itoa_step (colN s n) (by omega) w w1 hT)
  generalize hx1 : Lib.itoa (lineN s n : Int) = x1 at *
  generalize hx2 : Lib.itoa (colN s n : Int) = x2 at *
  have te2 : t.toList.isEmpty = true := by have e : t.toList = t.data.toList := ByteArray.toList_eq t; rw [e]; simpa using te
  clear hw te h
  have SS := Lib.hid hS
  have wl := words_len c
  have n0 : ¬ (9223372036854775807 < x1.length + 1) := by omega
  have n7 : ¬ (9223372036854775807 < x1.length + 1 + x2.length) := by omega
  have n1 : ¬ (9223372036854775807 < f.size + 1) := by omega
  have n2 : ¬ (9223372036854775807 < f.size + 1 + (x1.length + 1 + x2.length)) := by omega
  have n3 : ¬ (9223372036854775807 < f.size + 1 + (x1.length + 1 + x2.length) + 2) := by omega
  have n4 : ¬ (9223372036854775807 < f.size + 1 + (x1.length + 1 + x2.length) + 2 + (wordsL c).length) := by omega
  have n5 : ¬ (9223372036854775807 < f.size + 1 + (x1.length + 1 + x2.length) + 2 + (wordsL c).length + (2 + t.size)) := by omega
  have n6 : ¬ (9223372036854775807 < 2 + t.size) := by omega
  have HB := Lib.hid ((Below.refl w.heap.size w).alloc (Nat.le_refl _) (.cells #[.string f, .int .i64 n, .int .i64 c, .string t] 55))
  clear hS wl l1 l2 hl hc hT
  go_enter Tryd.func24, Tryd.ntmps24
  go_wp2_with fail
  refine (WO.out _).mono ?_
  rintro e w1 ⟨rfl, rfl⟩
  go_wp2_with fail
  refine (I1.out _ HB.out).mono ?_
  rintro e w2 ⟨rfl, hb2⟩
  have HB2 := Lib.hid (below_step HB.out hb2)
  go_wp2_with fail
  refine (I2.out _ HB2.out).mono ?_
  rintro e w3 ⟨rfl, hb3⟩
  have HB3 := Lib.hid (below_step HB2.out hb3)
  obtain ⟨k0, k1, k2, k3⟩ := diag_cells _ _ _ _ _ _ _ (below_step hb2 hb3)
  clear hb2 hb3
  go_wp2_with fail
  go_quiet (first | (go_at_call 26; refine Calls.quiet_of_same (words_quiet c w _ _ SS.out HB3.out)))
  go_wp2_with fail
  go_ret
  exact ⟨str_of (by rw [D.out]; simp), below_drewN HB3.out _⟩
set_option maxRecDepth 100000 in
set_option maxHeartbeats 1000000 in
theorem line_in_t (f t s : ByteArray) (n : Nat) (c : Int) (w : World) (hs : s.size ≤ 1000000000000) (hf : f.size ≤ 1000000000000000) (ht : t.size ≤ 1000000000000000) (hS : HasSaid w) (hT : Tab10 w) (h : n ≤ s.size) (te : ¬ t.data.toList = []) :
    Calls Tryd.prog 24 #[.agg #[.string f, .int .i64 n, .int .i64 c, .string t], .string s] w fun e w' => e = .returned (.string ⟨(lineL f.data.toList t.data.toList n c s).toArray⟩) ∧ Below w.heap.size w w' := by
  have hl := lineN_bd s n
  have hc := colN_bd s n
  have hw : whereL s (n : Int) = Lib.itoa (lineN s n : Int) ++ 58 :: Lib.itoa (colN s n : Int) := if_neg (by omega)
  have D := Lib.hid (show lineL f.data.toList t.data.toList n c s = f.data.toList ++ 58 :: ((Lib.itoa (lineN s n : Int) ++ 58 :: Lib.itoa (colN s n : Int)) ++ 58 :: 32 :: (wordsL c ++ 58 :: 32 :: t.data.toList)) by rw [lineL, hw, if_neg te])
  have WO := Lib.hid (fun w => where_prog s n w hs h)
  have l1 := Lib.itoa_length_le (lineN s n) (by omega) (by omega)
  have l2 := Lib.itoa_length_le (colN s n) (by omega) (by omega)
  have I1 := Lib.hid (fun w1 => itoa_step (lineN s n) (by omega) w w1 hT)
  have I2 := Lib.hid (fun w1 => itoa_step (colN s n) (by omega) w w1 hT)
  generalize hx1 : Lib.itoa (lineN s n : Int) = x1 at *
  generalize hx2 : Lib.itoa (colN s n : Int) = x2 at *
  have te2 : t.toList.isEmpty = false := by have e : t.toList = t.data.toList := ByteArray.toList_eq t; rw [e]; simpa using te
  clear hw te h
  have SS := Lib.hid hS
  have wl := words_len c
  have n0 : ¬ (9223372036854775807 < x1.length + 1) := by omega
  have n7 : ¬ (9223372036854775807 < x1.length + 1 + x2.length) := by omega
  have n1 : ¬ (9223372036854775807 < f.size + 1) := by omega
  have n2 : ¬ (9223372036854775807 < f.size + 1 + (x1.length + 1 + x2.length)) := by omega
  have n3 : ¬ (9223372036854775807 < f.size + 1 + (x1.length + 1 + x2.length) + 2) := by omega
  have n4 : ¬ (9223372036854775807 < f.size + 1 + (x1.length + 1 + x2.length) + 2 + (wordsL c).length) := by omega
  have n5 : ¬ (9223372036854775807 < f.size + 1 + (x1.length + 1 + x2.length) + 2 + (wordsL c).length + (2 + t.size)) := by omega
  have n6 : ¬ (9223372036854775807 < 2 + t.size) := by omega
  have HB := Lib.hid ((Below.refl w.heap.size w).alloc (Nat.le_refl _) (.cells #[.string f, .int .i64 n, .int .i64 c, .string t] 55))
  clear hS wl l1 l2 hl hc hT
  go_enter Tryd.func24, Tryd.ntmps24
  go_wp2_with fail
  refine (WO.out _).mono ?_
  rintro e w1 ⟨rfl, rfl⟩
  go_wp2_with fail
  refine (I1.out _ HB.out).mono ?_
  rintro e w2 ⟨rfl, hb2⟩
  have HB2 := Lib.hid (below_step HB.out hb2)
  go_wp2_with fail
  refine (I2.out _ HB2.out).mono ?_
  rintro e w3 ⟨rfl, hb3⟩
  have HB3 := Lib.hid (below_step HB2.out hb3)
  obtain ⟨k0, k1, k2, k3⟩ := diag_cells _ _ _ _ _ _ _ (below_step hb2 hb3)
  clear hb2 hb3
  go_wp2_with fail
  go_quiet (first | (go_at_call 26; refine Calls.quiet_of_same (words_quiet c w _ _ SS.out HB3.out)))
  go_wp2_with fail
  go_ret
  exact ⟨str_of (by rw [D.out]; simp), below_drewN HB3.out _⟩
end Go.Proofs.YteghbblbkljdhaaDoor
