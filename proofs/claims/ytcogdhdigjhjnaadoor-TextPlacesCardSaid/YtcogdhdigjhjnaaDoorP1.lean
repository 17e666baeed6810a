import Derived.Test.YtcogdhdigjhjnaaDoorW9
namespace Go.Proofs.YtcogdhdigjhjnaaDoor
open Go.RowKit
def whR (s : ByteArray) (a : Int) : Int × Int × Int := if a < 0 ∨ s.size < a then (0, 0, 2) else (lineN s a.toNat, colN s a.toNat, 0)
def whV (r : Int × Int × Int) : Value := .tuple #[.int .i64 r.1, .int .i64 r.2.1, .int .i64 r.2.2]
theorem where_prog_any (s : ByteArray) (a : Int) (w : World) (hs : s.size ≤ 1000000000000) :
    Calls Tryd.prog 12 #[.string s, .int .i64 a] w fun e w' => e = .returned (whV (whR s a)) ∧ w = w' := by
  by_cases h : a < 0 ∨ s.size < a
  · rw [whR, if_pos h]; exact where_prog_out s a w hs h
  · obtain ⟨n, rfl⟩ : ∃ n : Nat, a = n := ⟨a.toNat, by omega⟩
    rw [whR, if_neg h]; exact where_prog s n w hs (by omega)
theorem where_ref_any (s : ByteArray) (a : Int) (w : World) (hs : s.size ≤ 1000000000000) :
    Calls Tryd.prog 13 #[.string s, .int .i64 a] w fun e w' => e = .returned (whV (whR s a)) ∧ w = w' := by
  by_cases h : a < 0 ∨ s.size < a
  · rw [whR, if_pos h]; exact where_ref_out s a w hs h
  · obtain ⟨n, rfl⟩ : ∃ n : Nat, a = n := ⟨a.toNat, by omega⟩
    rw [whR, if_neg h]; exact where_ref s n w hs (by omega)
theorem awake_step {w w1 : World} (hT : Lib.Utf8Tabs 0 1 w) (hb : Below w.heap.size w w1) : Calls Tryd.prog 9 #[] w1 fun e w' => e = .returned (.bool true) ∧ Below w1.heap.size w1 w' := awake_true w1 (tabs_below hT hb)
set_option maxRecDepth 100000 in
set_option maxHeartbeats 400000 in
theorem places_walk (s : ByteArray) (a l c : Int) (w : World) (hT : Lib.Utf8Tabs 0 1 w) (hl1 : -9223372036854775808 ≤ l) (hl2 : l ≤ 9223372036854775807) (hc1 : -9223372036854775808 ≤ c) (hc2 : c ≤ 9223372036854775807) :
    Calls Tryd.prog 4 #[.string s, .agg #[.int .i64 a, .int .i64 l, .int .i64 c]] w fun e w' => e = .returned (.bool true) ∧ Below w.heap.size w w' := by
  have T := Lib.hid hT
  clear hT
  by_cases hs : 100000 < s.size
  · clear hl1 hl2 hc1 hc2
    go_enter Tryd.func4, Tryd.ntmps4
    go_wp2_with fail
    go_quiet (fail)
    go_wp2_with fail
    refine (awake_step T.out (below_drewN ((Below.refl _ _).alloc (Nat.le_refl _) _) _)).mono ?_
    rintro e w1 ⟨rfl, hb1⟩
    have HB1 := Lib.hid (below_step (below_drewN ((Below.refl w.heap.size w).alloc (Nat.le_refl _) _) _) hb1)
    clear hb1
    go_wp2_with fail
    refine (awake_step T.out HB1.out).mono ?_
    rintro e w2 ⟨rfl, hb2⟩
    go_wp2_with fail
    go_ret
    exact ⟨rfl, below_step HB1.out hb2⟩
  · have KA : ∀ w1, Calls Tryd.prog 14 #[.string s, .int .i64 l, .int .i64 c] w1 (AtPostB s l c w1) := fun w1 => at_prog s l c w1 (by omega) hl1 hl2 hc1 hc2
    have HA := Lib.hid KA
    clear hl1 hl2 hc1 hc2 KA
    go_enter Tryd.func4, Tryd.ntmps4
    go_wp2_with fail
    go_quiet (fail)
    go_wp2_with fail
    refine (awake_step T.out (below_drewN ((Below.refl _ _).alloc (Nat.le_refl _) _) _)).mono ?_
    rintro e w1 ⟨rfl, hb1⟩
    have HB1 := Lib.hid (below_step (below_drewN ((Below.refl w.heap.size w).alloc (Nat.le_refl _) _) _) hb1)
    clear hb1
    go_wp2_with fail
    refine (where_prog_any s a w1 (by omega)).mono ?_
    rintro e w2 ⟨rfl, rfl⟩
    have HW := Lib.hid (where_ref_any s a w1 (by omega))
    generalize whR s a = r at *
    obtain ⟨x, y, z⟩ := r
    simp only [whV]
    go_wp2_with fail
    refine HW.out.mono ?_
    rintro e w2 ⟨rfl, rfl⟩
    simp only [whV]
    go_wp2_with fail
    refine (HA.out w1).mono ?_
    rintro e w3 ⟨p, q, rfl, hA, hb3⟩
    go_wp2_with fail
    refine (at_ref s l c w3 (by omega)).mono ?_
    rintro e w4 ⟨p', q', rfl, hA', rfl⟩
    obtain ⟨rfl, rfl⟩ := AtR_one hA hA'
    have HB3 := Lib.hid (below_step HB1.out hb3)
    clear hA hA' hb3
    have t1 : (x == x) = true := by simp
    have t2 : (y == y) = true := by simp
    have t3 : (z == z) = true := by simp
    have t4 : (p == p) = true := by simp
    have t5 : (q == q) = true := by simp
    go_wp2_with fail
    refine (lines_prog' s w3 (by omega)).mono ?_
    rintro e w4 ⟨g1, d1, rfl, hL1⟩
    have HL1 := Lib.hid hL1
    clear hL1
    go_wp2_with fail
    refine (lines_ref' s w4 (by omega)).mono ?_
    rintro e w5 ⟨g2, d2, rfl, hL2⟩
    have HL2 := Lib.hid hL2
    clear hL2
    have hbd := lineN_bd s s.size
    go_wp2_with fail
    refine (same_ints g1 g2 _ d1 d2 (startsN s s.size) w5 HL1.out.len HL2.out.len (by omega) (fun j hj => (HL2.out.below.cell HL1.out.high).trans (HL1.out.cell j hj)) HL2.out.cell).mono ?_
    rintro e w6 ⟨rfl, hb6⟩
    go_wp2_with fail
    go_ret
    exact ⟨rfl, below_step (below_step (below_step HB3.out HL1.out.below) HL2.out.below) hb6⟩
end Go.Proofs.YtcogdhdigjhjnaaDoor
