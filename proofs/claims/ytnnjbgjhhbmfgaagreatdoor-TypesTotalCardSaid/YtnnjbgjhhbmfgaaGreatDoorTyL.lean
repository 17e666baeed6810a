import Derived.Test.YtnnjbgjhhbmfgaaGreatDoorTyK
namespace Go.Proofs.YtnnjbgjhhbmfgaaGreatDoor
open Go.RowKit
set_option maxRecDepth 100000 in
set_option maxHeartbeats 8000000 in
theorem small_any {K : Nat → Prop} {w : World} {t : Ty} {cs : List Value} (h : RepT K w t cs) : Calls Tryz.prog 5 #[.agg cs.toArray] w fun e w' => e = .returned (.bool (decide (cntT t ≤ 4096))) ∧ Gw w w' := by
  have HB := Lib.hid ((Gw.refl w).alloc (.cells cs.toArray 26))
  have KN := Lib.hid (nod_any t K _ cs (h.later HB.out.below))
  obtain ⟨k, s, n, ps, fs, vs⟩ := t
  obtain ⟨A, c, A', c', A'', c'', rfl, _⟩ := h.inv
  have hd : decide (cntT (.mk k s n ps fs vs) ≤ 4096) = decide ((capN (cntT (.mk k s n ps fs vs)) : Nat) ≤ 4096) := by
    unfold capN
    rw [decide_eq_decide]
    omega
  rw [hd]
  generalize capN (cntT (.mk k s n ps fs vs)) = m at KN ⊢
  simp only [cells6T] at KN HB ⊢
  clear h hd
  go_enter Tryz.func5, Tryz.ntmps5
  go_wp2_with fail
  refine KN.out.mono ?_
  rintro e w1 ⟨rfl, hb⟩
  have HB1 := Lib.hid (HB.out.trans hb)
  clear hb KN
  go_wp2_with fail
  go_ret
  exact ⟨by simp; omega, HB1.out⟩
theorem no_up {a b c : Ty} (hx : ordT a b ≤ 0) (hy : ordT b c ≤ 0) : ordT a c ≤ 0 := by
  rcases ordT_bd a b with x | x | x
  · rcases ordT_bd b c with y | y | y
    · rw [ordT_trans x y]; decide
    · rw [ordT_zero] at y; subst y; rw [x]; decide
    · rw [y] at hy; omega
  · rw [ordT_zero] at x; subst x; exact hy
  · rw [x] at hx; omega
theorem no_down {a b c : Ty} (hx : 0 ≤ ordT a b) (hy : 0 ≤ ordT b c) : 0 ≤ ordT a c := by
  have := no_up (a := c) (b := b) (c := a) (by rw [ordT_flip]; omega) (by rw [ordT_flip]; omega)
  rw [ordT_flip] at this
  omega
set_option maxRecDepth 100000 in
set_option maxHeartbeats 32000000 in
theorem total_walk {Ka Kb Kc : Nat → Prop} {w : World} {a b c : Ty} {p0 p2 : Int} {p1 : ByteArray} {p3 p6 p9 : Option Addr} {p4 p5 p7 p8 pa pb : Nat} {q0 q2 : Int} {q1 : ByteArray} {q3 q6 q9 : Option Addr} {q4 q5 q7 q8 qa qb : Nat} {r0 r2 : Int} {r1 : ByteArray} {r3 r6 r9 : Option Addr} {r4 r5 r7 r8 ra rb : Nat} (ha : RepT Ka w a [.int .i64 p0, .string p1, .int .i64 p2, .slice p3 p4 p5, .slice p6 p7 p8, .slice p9 pa pb]) (hb : RepT Kb w b [.int .i64 q0, .string q1, .int .i64 q2, .slice q3 q4 q5, .slice q6 q7 q8, .slice q9 qa qb]) (hc : RepT Kc w c [.int .i64 r0, .string r1, .int .i64 r2, .slice r3 r4 r5, .slice r6 r7 r8, .slice r9 ra rb])
    (hw : ∀ wx, Below w.heap.size w wx → Calls Tryz.prog 4 #[] wx fun e w' => e = .returned (.bool true) ∧ Below wx.heap.size wx w') :
    Calls Tryz.prog 3 #[.agg #[.int .i64 p0, .string p1, .int .i64 p2, .slice p3 p4 p5, .slice p6 p7 p8, .slice p9 pa pb], .agg #[.int .i64 q0, .string q1, .int .i64 q2, .slice q3 q4 q5, .slice q6 q7 q8, .slice q9 qa qb], .agg #[.int .i64 r0, .string r1, .int .i64 r2, .slice r3 r4 r5, .slice r6 r7 r8, .slice r9 ra rb]] w fun e w' => e = .returned (.bool true) ∧ Below w.heap.size w w' := by
  have Kab : Hid (∀ wx, Below w.heap.size w wx → Calls Tryz.prog 6 #[.agg #[.int .i64 p0, .string p1, .int .i64 p2, .slice p3 p4 p5, .slice p6 p7 p8, .slice p9 pa pb], .agg #[.int .i64 q0, .string q1, .int .i64 q2, .slice q3 q4 q5, .slice q6 q7 q8, .slice q9 qa qb]] wx fun e w' => e = .returned (.int .i64 (ordT a b)) ∧ Gw wx w') := Lib.hid fun wx hbx => Order_any (ha.later hbx) (hb.later hbx)
  have Kbc : Hid (∀ wx, Below w.heap.size w wx → Calls Tryz.prog 6 #[.agg #[.int .i64 q0, .string q1, .int .i64 q2, .slice q3 q4 q5, .slice q6 q7 q8, .slice q9 qa qb], .agg #[.int .i64 r0, .string r1, .int .i64 r2, .slice r3 r4 r5, .slice r6 r7 r8, .slice r9 ra rb]] wx fun e w' => e = .returned (.int .i64 (ordT b c)) ∧ Gw wx w') := Lib.hid fun wx hbx => Order_any (hb.later hbx) (hc.later hbx)
  have Kac : Hid (∀ wx, Below w.heap.size w wx → Calls Tryz.prog 6 #[.agg #[.int .i64 p0, .string p1, .int .i64 p2, .slice p3 p4 p5, .slice p6 p7 p8, .slice p9 pa pb], .agg #[.int .i64 r0, .string r1, .int .i64 r2, .slice r3 r4 r5, .slice r6 r7 r8, .slice r9 ra rb]] wx fun e w' => e = .returned (.int .i64 (ordT a c)) ∧ Gw wx w') := Lib.hid fun wx hbx => Order_any (ha.later hbx) (hc.later hbx)
  have Kba : Hid (∀ wx, Below w.heap.size w wx → Calls Tryz.prog 6 #[.agg #[.int .i64 q0, .string q1, .int .i64 q2, .slice q3 q4 q5, .slice q6 q7 q8, .slice q9 qa qb], .agg #[.int .i64 p0, .string p1, .int .i64 p2, .slice p3 p4 p5, .slice p6 p7 p8, .slice p9 pa pb]] wx fun e w' => e = .returned (.int .i64 (ordT b a)) ∧ Gw wx w') := Lib.hid fun wx hbx => Order_any (hb.later hbx) (ha.later hbx)
  have Kaa : Hid (∀ wx, Below w.heap.size w wx → Calls Tryz.prog 6 #[.agg #[.int .i64 p0, .string p1, .int .i64 p2, .slice p3 p4 p5, .slice p6 p7 p8, .slice p9 pa pb], .agg #[.int .i64 p0, .string p1, .int .i64 p2, .slice p3 p4 p5, .slice p6 p7 p8, .slice p9 pa pb]] wx fun e w' => e = .returned (.int .i64 (ordT a a)) ∧ Gw wx w') := Lib.hid fun wx hbx => Order_any (ha.later hbx) (ha.later hbx)
  have Sa : Hid (∀ wx, Below w.heap.size w wx → Calls Tryz.prog 5 #[.agg #[.int .i64 p0, .string p1, .int .i64 p2, .slice p3 p4 p5, .slice p6 p7 p8, .slice p9 pa pb]] wx fun e w' => e = .returned (.bool (decide (cntT a ≤ 4096))) ∧ Gw wx w') := Lib.hid fun wx hbx => small_any (ha.later hbx)
  have Sb : Hid (∀ wx, Below w.heap.size w wx → Calls Tryz.prog 5 #[.agg #[.int .i64 q0, .string q1, .int .i64 q2, .slice q3 q4 q5, .slice q6 q7 q8, .slice q9 qa qb]] wx fun e w' => e = .returned (.bool (decide (cntT b ≤ 4096))) ∧ Gw wx w') := Lib.hid fun wx hbx => small_any (hb.later hbx)
  have Sc : Hid (∀ wx, Below w.heap.size w wx → Calls Tryz.prog 5 #[.agg #[.int .i64 r0, .string r1, .int .i64 r2, .slice r3 r4 r5, .slice r6 r7 r8, .slice r9 ra rb]] wx fun e w' => e = .returned (.bool (decide (cntT c ≤ 4096))) ∧ Gw wx w') := Lib.hid fun wx hbx => small_any (hc.later hbx)
  have AW := Lib.hid hw
  have FX : Hid ((ordT a b = -1 ∨ ordT a b = 0 ∨ ordT a b = 1) ∧ (ordT b c = -1 ∨ ordT b c = 0 ∨ ordT b c = 1) ∧ (ordT a c = -1 ∨ ordT a c = 0 ∨ ordT a c = 1) ∧ (ordT a b ≤ 0 → ordT b c ≤ 0 → ordT a c ≤ 0) ∧ (0 ≤ ordT a b → 0 ≤ ordT b c → 0 ≤ ordT a c) ∧ (ordT a b = 0 → ordT b c = ordT a c)) := Lib.hid ⟨ordT_bd a b, ordT_bd b c, ordT_bd a c, no_up, no_down, fun h => by rw [ordT_zero] at h; rw [h]⟩
  rw [show ordT b a = -ordT a b from ordT_flip a b] at Kba
  rw [show ordT a a = 0 from ordT_zero.2 rfl] at Kaa
  generalize ordT a b = x at FX Kab Kba
  generalize ordT b c = y at FX Kbc
  generalize ordT a c = z at FX Kac
  have HB0 : Hid (Below w.heap.size w (((w.alloc (.cells #[.int .i64 p0, .string p1, .int .i64 p2, .slice p3 p4 p5, .slice p6 p7 p8, .slice p9 pa pb] 26)).alloc (.cells #[.int .i64 q0, .string q1, .int .i64 q2, .slice q3 q4 q5, .slice q6 q7 q8, .slice q9 qa qb] 26)).alloc (.cells #[.int .i64 r0, .string r1, .int .i64 r2, .slice r3 r4 r5, .slice r6 r7 r8, .slice r9 ra rb] 26))) := Lib.hid ((((Below.refl _ _).alloc (Nat.le_refl _) _).alloc (by simp) _).alloc (by simp; omega) _)
  have HX : Hid (∀ wx, Below ((((w.alloc (.cells #[.int .i64 p0, .string p1, .int .i64 p2, .slice p3 p4 p5, .slice p6 p7 p8, .slice p9 pa pb] 26)).alloc (.cells #[.int .i64 q0, .string q1, .int .i64 q2, .slice q3 q4 q5, .slice q6 q7 q8, .slice q9 qa qb] 26)).alloc (.cells #[.int .i64 r0, .string r1, .int .i64 r2, .slice r3 r4 r5, .slice r6 r7 r8, .slice r9 ra rb] 26))).heap.size (((w.alloc (.cells #[.int .i64 p0, .string p1, .int .i64 p2, .slice p3 p4 p5, .slice p6 p7 p8, .slice p9 pa pb] 26)).alloc (.cells #[.int .i64 q0, .string q1, .int .i64 q2, .slice q3 q4 q5, .slice q6 q7 q8, .slice q9 qa qb] 26)).alloc (.cells #[.int .i64 r0, .string r1, .int .i64 r2, .slice r3 r4 r5, .slice r6 r7 r8, .slice r9 ra rb] 26)) wx → (wx.cell? ⟨w.heap.size, 0, none⟩ = some (.int .i64 p0) ∧ wx.cell? ⟨w.heap.size, 1, none⟩ = some (.string p1) ∧ wx.cell? ⟨w.heap.size, 2, none⟩ = some (.int .i64 p2) ∧ wx.cell? ⟨w.heap.size, 3, none⟩ = some (.slice p3 p4 p5) ∧ wx.cell? ⟨w.heap.size, 4, none⟩ = some (.slice p6 p7 p8) ∧ wx.cell? ⟨w.heap.size, 5, none⟩ = some (.slice p9 pa pb)) ∧ (wx.cell? ⟨w.heap.size + 1, 0, none⟩ = some (.int .i64 q0) ∧ wx.cell? ⟨w.heap.size + 1, 1, none⟩ = some (.string q1) ∧ wx.cell? ⟨w.heap.size + 1, 2, none⟩ = some (.int .i64 q2) ∧ wx.cell? ⟨w.heap.size + 1, 3, none⟩ = some (.slice q3 q4 q5) ∧ wx.cell? ⟨w.heap.size + 1, 4, none⟩ = some (.slice q6 q7 q8) ∧ wx.cell? ⟨w.heap.size + 1, 5, none⟩ = some (.slice q9 qa qb)) ∧ (wx.cell? ⟨w.heap.size + 2, 0, none⟩ = some (.int .i64 r0) ∧ wx.cell? ⟨w.heap.size + 2, 1, none⟩ = some (.string r1) ∧ wx.cell? ⟨w.heap.size + 2, 2, none⟩ = some (.int .i64 r2) ∧ wx.cell? ⟨w.heap.size + 2, 3, none⟩ = some (.slice r3 r4 r5) ∧ wx.cell? ⟨w.heap.size + 2, 4, none⟩ = some (.slice r6 r7 r8) ∧ wx.cell? ⟨w.heap.size + 2, 5, none⟩ = some (.slice r9 ra rb))) := Lib.hid fun wx hbx => by
    have e1 := heap_alloc_new w (.cells #[.int .i64 p0, .string p1, .int .i64 p2, .slice p3 p4 p5, .slice p6 p7 p8, .slice p9 pa pb] 26)
    have e2 := heap_alloc_new (w.alloc (.cells #[.int .i64 p0, .string p1, .int .i64 p2, .slice p3 p4 p5, .slice p6 p7 p8, .slice p9 pa pb] 26)) (.cells #[.int .i64 q0, .string q1, .int .i64 q2, .slice q3 q4 q5, .slice q6 q7 q8, .slice q9 qa qb] 26)
    have e3 := heap_alloc_new ((w.alloc (.cells #[.int .i64 p0, .string p1, .int .i64 p2, .slice p3 p4 p5, .slice p6 p7 p8, .slice p9 pa pb] 26)).alloc (.cells #[.int .i64 q0, .string q1, .int .i64 q2, .slice q3 q4 q5, .slice q6 q7 q8, .slice q9 qa qb] 26)) (.cells #[.int .i64 r0, .string r1, .int .i64 r2, .slice r3 r4 r5, .slice r6 r7 r8, .slice r9 ra rb] 26)
    simp only [World.size_alloc] at e2 e3
    have f1 := (hbx.block w.heap.size (by simp; omega)).trans ((Below.heap_alloc _ _ _ (by simp; omega)).trans ((Below.heap_alloc _ _ _ (by simp)).trans e1))
    have f2 := (hbx.block (w.heap.size + 1) (by simp)).trans ((Below.heap_alloc _ _ _ (by simp)).trans e2)
    have f3 := (hbx.block (w.heap.size + 2) (by simp)).trans e3
    exact ⟨⟨cell_of_row _ _ 0 _ _ _ f1, cell_of_row _ _ 1 _ _ _ f1, cell_of_row _ _ 2 _ _ _ f1, cell_of_row _ _ 3 _ _ _ f1, cell_of_row _ _ 4 _ _ _ f1, cell_of_row _ _ 5 _ _ _ f1⟩, ⟨cell_of_row _ _ 0 _ _ _ f2, cell_of_row _ _ 1 _ _ _ f2, cell_of_row _ _ 2 _ _ _ f2, cell_of_row _ _ 3 _ _ _ f2, cell_of_row _ _ 4 _ _ _ f2, cell_of_row _ _ 5 _ _ _ f2⟩, cell_of_row _ _ 0 _ _ _ f3, cell_of_row _ _ 1 _ _ _ f3, cell_of_row _ _ 2 _ _ _ f3, cell_of_row _ _ 3 _ _ _ f3, cell_of_row _ _ 4 _ _ _ f3, cell_of_row _ _ 5 _ _ _ f3⟩
  clear ha hb hc hw
  generalize hsa : decide (cntT a ≤ 4096) = sa at Sa
  generalize hsb : decide (cntT b ≤ 4096) = sb at Sb
  generalize hsc : decide (cntT c ≤ 4096) = sc at Sc
  clear hsa hsb hsc
  generalize hW3 : (((w.alloc (.cells #[.int .i64 p0, .string p1, .int .i64 p2, .slice p3 p4 p5, .slice p6 p7 p8, .slice p9 pa pb] 26)).alloc (.cells #[.int .i64 q0, .string q1, .int .i64 q2, .slice q3 q4 q5, .slice q6 q7 q8, .slice q9 qa qb] 26)).alloc (.cells #[.int .i64 r0, .string r1, .int .i64 r2, .slice r3 r4 r5, .slice r6 r7 r8, .slice r9 ra rb] 26)) = w3 at HB0 HX
  have HW3 := Lib.hid hW3
  clear hW3
  go_enter Tryz.func3, Tryz.ntmps3
  go_wp2_with fail
  rw [HW3.out]
  refine (AW.out _ HB0.out).mono ?_
  rintro e w4 ⟨rfl, hb4⟩
  have HB4 := Lib.hid hb4
  have HC4 := Lib.hid (HB0.out.trans (hb4.mono HB0.out.size))
  clear hb4
  obtain ⟨⟨p0_, p1_, p2_, p3_, p4_, p5_⟩, ⟨q0_, q1_, q2_, q3_, q4_, q5_⟩, r0_, r1_, r2_, r3_, r4_, r5_⟩ := HX.out _ HB4.out
  go_wp2_with fail
  refine (Sa.out _ HC4.out).mono ?_
  rintro e w5 ⟨rfl, hb5⟩
  have HB5 := Lib.hid (HB4.out.trans (hb5.below.mono HB4.out.size))
  have HC5 := Lib.hid (HC4.out.trans (hb5.below.mono HC4.out.size))
  clear hb5
  clear p0_ p1_ p2_ p3_ p4_ p5_ q0_ q1_ q2_ q3_ q4_ q5_ r0_ r1_ r2_ r3_ r4_ r5_
  obtain ⟨⟨p0_, p1_, p2_, p3_, p4_, p5_⟩, ⟨q0_, q1_, q2_, q3_, q4_, q5_⟩, r0_, r1_, r2_, r3_, r4_, r5_⟩ := HX.out _ HB5.out
  cases sa with
  | false =>
    go_wp2_with fail
    refine (AW.out _ HC5.out).mono ?_
    rintro e w6 ⟨rfl, hb6⟩
    have HC6 := Lib.hid (HC5.out.trans (hb6.mono HC5.out.size))
    clear hb6
    go_wp2_with fail
    go_ret
    exact ⟨rfl, HC6.out⟩
  | true =>
  go_wp2_with fail
  refine (Sb.out _ HC5.out).mono ?_
  rintro e w6 ⟨rfl, hb6⟩
  have HB6 := Lib.hid (HB5.out.trans (hb6.below.mono HB5.out.size))
  have HC6 := Lib.hid (HC5.out.trans (hb6.below.mono HC5.out.size))
  clear hb6
  clear p0_ p1_ p2_ p3_ p4_ p5_ q0_ q1_ q2_ q3_ q4_ q5_ r0_ r1_ r2_ r3_ r4_ r5_
  obtain ⟨⟨p0_, p1_, p2_, p3_, p4_, p5_⟩, ⟨q0_, q1_, q2_, q3_, q4_, q5_⟩, r0_, r1_, r2_, r3_, r4_, r5_⟩ := HX.out _ HB6.out
  cases sb with
  | false =>
    go_wp2_with fail
    refine (AW.out _ HC6.out).mono ?_
    rintro e w7 ⟨rfl, hb7⟩
    have HC7 := Lib.hid (HC6.out.trans (hb7.mono HC6.out.size))
    clear hb7
    go_wp2_with fail
    go_ret
    exact ⟨rfl, HC7.out⟩
  | true =>
  go_wp2_with fail
  refine (Sc.out _ HC6.out).mono ?_
  rintro e w7 ⟨rfl, hb7⟩
  have HB7 := Lib.hid (HB6.out.trans (hb7.below.mono HB6.out.size))
  have HC7 := Lib.hid (HC6.out.trans (hb7.below.mono HC6.out.size))
  clear hb7
  clear p0_ p1_ p2_ p3_ p4_ p5_ q0_ q1_ q2_ q3_ q4_ q5_ r0_ r1_ r2_ r3_ r4_ r5_
  obtain ⟨⟨p0_, p1_, p2_, p3_, p4_, p5_⟩, ⟨q0_, q1_, q2_, q3_, q4_, q5_⟩, r0_, r1_, r2_, r3_, r4_, r5_⟩ := HX.out _ HB7.out
  cases sc with
  | false =>
    go_wp2_with fail
    refine (AW.out _ HC7.out).mono ?_
    rintro e w8 ⟨rfl, hb8⟩
    have HC8 := Lib.hid (HC7.out.trans (hb8.mono HC7.out.size))
    clear hb8
    go_wp2_with fail
    go_ret
    exact ⟨rfl, HC8.out⟩
  | true =>
  go_wp2_with fail
  clear p0_ p1_ p2_ p3_ p4_ p5_ q0_ q1_ q2_ q3_ q4_ q5_ r0_ r1_ r2_ r3_ r4_ r5_
  refine wp_region_held_drew (S := (fun w' => (w'.cell? ⟨w.heap.size, 0, none⟩ = some (.int .i64 p0) ∧ w'.cell? ⟨w.heap.size, 1, none⟩ = some (.string p1) ∧ w'.cell? ⟨w.heap.size, 2, none⟩ = some (.int .i64 p2) ∧ w'.cell? ⟨w.heap.size, 3, none⟩ = some (.slice p3 p4 p5) ∧ w'.cell? ⟨w.heap.size, 4, none⟩ = some (.slice p6 p7 p8) ∧ w'.cell? ⟨w.heap.size, 5, none⟩ = some (.slice p9 pa pb)) ∧ (w'.cell? ⟨w.heap.size + 1, 0, none⟩ = some (.int .i64 q0) ∧ w'.cell? ⟨w.heap.size + 1, 1, none⟩ = some (.string q1) ∧ w'.cell? ⟨w.heap.size + 1, 2, none⟩ = some (.int .i64 q2) ∧ w'.cell? ⟨w.heap.size + 1, 3, none⟩ = some (.slice q3 q4 q5) ∧ w'.cell? ⟨w.heap.size + 1, 4, none⟩ = some (.slice q6 q7 q8) ∧ w'.cell? ⟨w.heap.size + 1, 5, none⟩ = some (.slice q9 qa qb)) ∧ (w'.cell? ⟨w.heap.size + 2, 0, none⟩ = some (.int .i64 r0) ∧ w'.cell? ⟨w.heap.size + 2, 1, none⟩ = some (.string r1) ∧ w'.cell? ⟨w.heap.size + 2, 2, none⟩ = some (.int .i64 r2) ∧ w'.cell? ⟨w.heap.size + 2, 3, none⟩ = some (.slice r3 r4 r5) ∧ w'.cell? ⟨w.heap.size + 2, 4, none⟩ = some (.slice r6 r7 r8) ∧ w'.cell? ⟨w.heap.size + 2, 5, none⟩ = some (.slice r9 ra rb)))) (by kernel_rfl) (HX.out _ HB7.out.drew) (fun hHeld => ?_)
  refine wpAnyH_take (i := 0) (v := ?_) (show _ = some { dst := some 28, op := _, type := _, pos := _, after := _, guard := _ } from rfl) (by kernel_rfl) (by kernel_rfl) (by kernel_rfl) (fun _ _ _ h => h) (Or.inl ⟨by rfl, ?_⟩) hHeld ?_
  rotate_left
  · intro w' hSw
    (try dsimp only at hSw)
    go_simp
    try with_reducible rfl
  try simp only [Act.put, List.setIfInBounds_toArray, List.set_cons_zero, List.set_cons_succ]
  refine wpAnyH_take (i := 1) (v := ?_) (show _ = some { dst := some 29, op := _, type := _, pos := _, after := _, guard := _ } from rfl) (by kernel_rfl) (by kernel_rfl) (by kernel_rfl) (fun _ _ _ h => h) (Or.inl ⟨by rfl, ?_⟩) hHeld ?_
  rotate_left
  · intro w' hSw
    (try dsimp only at hSw)
    go_simp
    try with_reducible rfl
  try simp only [Act.put, List.setIfInBounds_toArray, List.set_cons_zero, List.set_cons_succ]
  refine wpAnyH_take (i := 3) (v := ?_) (show _ = some { dst := some 31, op := _, type := _, pos := _, after := _, guard := _ } from rfl) (by kernel_rfl) (by kernel_rfl) (by kernel_rfl) (fun _ _ _ h => h) (Or.inl ⟨by rfl, ?_⟩) hHeld ?_
  rotate_left
  · intro w' hSw
    (try dsimp only at hSw)
    go_simp
    try with_reducible rfl
  try simp only [Act.put, List.setIfInBounds_toArray, List.set_cons_zero, List.set_cons_succ]
  refine wpAnyH_take (i := 4) (v := ?_) (show _ = some { dst := some 32, op := _, type := _, pos := _, after := _, guard := _ } from rfl) (by kernel_rfl) (by kernel_rfl) (by kernel_rfl) (fun _ _ _ h => h) (Or.inl ⟨by rfl, ?_⟩) hHeld ?_
  rotate_left
  · intro w' hSw
    (try dsimp only at hSw)
    go_simp
    try with_reducible rfl
  try simp only [Act.put, List.setIfInBounds_toArray, List.set_cons_zero, List.set_cons_succ]
  refine wpAnyH_take (i := 6) (v := ?_) (show _ = some { dst := some 34, op := _, type := _, pos := _, after := _, guard := _ } from rfl) (by kernel_rfl) (by kernel_rfl) (by kernel_rfl) (fun _ _ _ h => h) (Or.inl ⟨by rfl, ?_⟩) hHeld ?_
  rotate_left
  · intro w' hSw
    (try dsimp only at hSw)
    go_simp
    try with_reducible rfl
  try simp only [Act.put, List.setIfInBounds_toArray, List.set_cons_zero, List.set_cons_succ]
  refine wpAnyH_take (i := 7) (v := ?_) (show _ = some { dst := some 35, op := _, type := _, pos := _, after := _, guard := _ } from rfl) (by kernel_rfl) (by kernel_rfl) (by kernel_rfl) (fun _ _ _ h => h) (Or.inl ⟨by rfl, ?_⟩) hHeld ?_
  rotate_left
  · intro w' hSw
    (try dsimp only at hSw)
    go_simp
    try with_reducible rfl
  try simp only [Act.put, List.setIfInBounds_toArray, List.set_cons_zero, List.set_cons_succ]
  refine wpAnyH_ready (rs := [2]) (by kernel_rfl) (by simp) ?_
  refine AllReadyH.cons (show _ = some { dst := some 30, op := _, type := _, pos := _, after := _, guard := _ } from rfl) (fun K hK => ?_) AllReadyH.nil
  go_simp
  refine (Kab.out _ HC7.out.drew).mono ?_
  rintro e w8 ⟨rfl, hb8⟩
  have HB8 := Lib.hid (HB7.out.drew.trans (hb8.below.mono HB7.out.drew.size))
  have HC8 := Lib.hid (HC7.out.drew.trans (hb8.below.mono HC7.out.drew.size))
  clear hb8
  go_wp2_with fail
  refine hK.out _ _ (HX.out _ HB8.out) (fun hHeld => ?_)
  clear hK K
  try simp only [Act.put, List.setIfInBounds_toArray, List.set_cons_zero, List.set_cons_succ]
  refine wpAnyH_ready (rs := [5]) (by kernel_rfl) (by simp) ?_
  refine AllReadyH.cons (show _ = some { dst := some 33, op := _, type := _, pos := _, after := _, guard := _ } from rfl) (fun K hK => ?_) AllReadyH.nil
  go_simp
  refine (Kbc.out _ HC8.out).mono ?_
  rintro e w9 ⟨rfl, hb9⟩
  have HB9 := Lib.hid (HB8.out.trans (hb9.below.mono HB8.out.size))
  have HC9 := Lib.hid (HC8.out.trans (hb9.below.mono HC8.out.size))
  clear hb9
  go_wp2_with fail
  refine hK.out _ _ (HX.out _ HB9.out) (fun hHeld => ?_)
  clear hK K
  try simp only [Act.put, List.setIfInBounds_toArray, List.set_cons_zero, List.set_cons_succ]
  refine wpAnyH_ready (rs := [8]) (by kernel_rfl) (by simp) ?_
  refine AllReadyH.cons (show _ = some { dst := some 36, op := _, type := _, pos := _, after := _, guard := _ } from rfl) (fun K hK => ?_) AllReadyH.nil
  go_simp
  refine (Kac.out _ HC9.out).mono ?_
  rintro e w10 ⟨rfl, hb10⟩
  have HB10 := Lib.hid (HB9.out.trans (hb10.below.mono HB9.out.size))
  have HC10 := Lib.hid (HC9.out.trans (hb10.below.mono HC9.out.size))
  clear hb10
  go_wp2_with fail
  refine hK.out _ _ (HX.out _ HB10.out) (fun hHeld => ?_)
  clear hK K
  try simp only [Act.put, List.setIfInBounds_toArray, List.set_cons_zero, List.set_cons_succ]
  refine wpAnyH_take (i := 9) (v := ?_) (show _ = some { dst := some 7, op := _, type := _, pos := _, after := _, guard := _ } from rfl) (by kernel_rfl) (by kernel_rfl) (by kernel_rfl) (fun _ _ _ h => h) (Or.inl ⟨by rfl, ?_⟩) hHeld ?_
  rotate_left
  · intro w' hSw
    (try dsimp only at hSw)
    go_simp
    try with_reducible rfl
  try simp only [Act.put, List.setIfInBounds_toArray, List.set_cons_zero, List.set_cons_succ]
  refine wpAnyH_take (i := 10) (v := ?_) (show _ = some { dst := some 8, op := _, type := _, pos := _, after := _, guard := _ } from rfl) (by kernel_rfl) (by kernel_rfl) (by kernel_rfl) (fun _ _ _ h => h) (Or.inl ⟨by rfl, ?_⟩) hHeld ?_
  rotate_left
  · intro w' hSw
    (try dsimp only at hSw)
    go_simp
    try with_reducible rfl
  try simp only [Act.put, List.setIfInBounds_toArray, List.set_cons_zero, List.set_cons_succ]
  refine wpAnyH_take (i := 11) (v := ?_) (show _ = some { dst := some 9, op := _, type := _, pos := _, after := _, guard := _ } from rfl) (by kernel_rfl) (by kernel_rfl) (by kernel_rfl) (fun _ _ _ h => h) (Or.inl ⟨by rfl, ?_⟩) hHeld ?_
  rotate_left
  · intro w' hSw
    (try dsimp only at hSw)
    go_simp
    try with_reducible rfl
  try simp only [Act.put, List.setIfInBounds_toArray, List.set_cons_zero, List.set_cons_succ]
  refine wpAnyH_done (by kernel_rfl) ?_ _
  clear hHeld
  obtain ⟨hx, hy, hz, hu, hd, he⟩ := FX.out
  rcases hx with rfl | rfl | rfl <;> rcases hy with rfl | rfl | rfl <;> rcases hz with rfl | rfl | rfl <;> first
  | exact absurd (hu (by decide) (by decide)) (by decide)
  | exact absurd (hd (by decide) (by decide)) (by decide)
  | exact absurd (he rfl) (by decide)
  | skip
  all_goals clear hu hd he
  all_goals
    obtain ⟨⟨p0_, p1_, p2_, p3_, p4_, p5_⟩, ⟨q0_, q1_, q2_, q3_, q4_, q5_⟩, r0_, r1_, r2_, r3_, r4_, r5_⟩ := HX.out _ HB10.out
    go_wp2_with fail
    refine (Kba.out _ HC10.out).mono ?_
    rintro e w11 ⟨rfl, hb11⟩
    have HB11 := Lib.hid (HB10.out.trans (hb11.below.mono HB10.out.size))
    have HC11 := Lib.hid (HC10.out.trans (hb11.below.mono HC10.out.size))
    clear hb11
    clear p0_ p1_ p2_ p3_ p4_ p5_ q0_ q1_ q2_ q3_ q4_ q5_ r0_ r1_ r2_ r3_ r4_ r5_
    obtain ⟨⟨p0_, p1_, p2_, p3_, p4_, p5_⟩, ⟨q0_, q1_, q2_, q3_, q4_, q5_⟩, r0_, r1_, r2_, r3_, r4_, r5_⟩ := HX.out _ HB11.out
    go_wp2_with fail
    refine (Kaa.out _ HC11.out).mono ?_
    rintro e w12 ⟨rfl, hb12⟩
    have HC12 := Lib.hid (HC11.out.trans (hb12.below.mono HC11.out.size))
    clear hb12
    clear p0_ p1_ p2_ p3_ p4_ p5_ q0_ q1_ q2_ q3_ q4_ q5_ r0_ r1_ r2_ r3_ r4_ r5_
    go_wp2_with fail
    go_ret
    exact ⟨rfl, HC12.out⟩
end Go.Proofs.YtnnjbgjhhbmfgaaGreatDoor
