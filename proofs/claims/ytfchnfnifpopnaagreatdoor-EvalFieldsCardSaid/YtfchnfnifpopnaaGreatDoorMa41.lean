import Derived.Test.YtfchnfnifpopnaaGreatDoorMa0
import Derived.Test.YtfchnfnifpopnaaGreatDoorMa40
namespace Go.Proofs.YtfchnfnifpopnaaGreatDoor
open Go.RowKit
set_option maxRecDepth 100000 in
set_option maxHeartbeats 2000000 in
theorem of13 (k : Int) (w : World) : Calls Tryz.prog 11 #[.int .i64 k] w fun e w' => e = .returned (.agg #[.int .i64 k, .string ⟨#[]⟩, .int .i64 0, .slice none 0 0, .slice none 0 0, .slice none 0 0]) ∧ Below w.heap.size w w' := by
 go_enter Tryz.func11, Tryz.ntmps11
 go_wp2_with fail
 exact bodyPost_ret (v := .agg #[.int .i64 k, .string ⟨#[]⟩, .int .i64 0, .slice none 0 0, .slice none 0 0, .slice none 0 0]) (by simp [results, Tryz.results11, go_sem]) rfl ⟨rfl, (Below.refl _ _).alloc (Nat.le_refl _) _⟩
set_option maxRecDepth 100000 in
set_option maxHeartbeats 2000000 in
theorem str13 (s : ByteArray) (w : World) : Calls Tryz.prog 13 #[.string s] w fun e w' => e = .returned (.agg #[.int .i64 10, .string s, .int .i64 0, .slice none 0 0, .slice none 0 0, .slice none 0 0]) ∧ Below w.heap.size w w' := by
 go_enter Tryz.func13, Tryz.ntmps13
 go_wp2_with fail
 exact bodyPost_ret (v := .agg #[.int .i64 10, .string s, .int .i64 0, .slice none 0 0, .slice none 0 0, .slice none 0 0]) (by simp [results, Tryz.results13, go_sem]) rfl ⟨rfl, (Below.refl _ _).alloc (Nat.le_refl _) _⟩
set_option maxRecDepth 100000 in
set_option maxHeartbeats 16000000 in
theorem same13 {K K' : Nat → Prop} {w : World} {t q : Ty} {cs ds : List Value} (hr : RepT K w t cs) (hp : RepT K' w q ds) :
  Calls Tryz.prog 12 #[.agg cs.toArray, .agg ds.toArray] w fun e w' => e = .returned (.bool (ordT t q == 0)) ∧ Below w.heap.size w w' := by
 have KO := Lib.hid fun wx (hx : Below w.heap.size w wx) => order_ref t K K' q wx cs ds (hr.later hx) (hp.later hx)
 generalize ordT t q = z at KO
 obtain ⟨k, s, n, ps, fs, vs⟩ := t
 obtain ⟨A, c, A', c', A'', c'', rfl, -⟩ := hr.inv
 obtain ⟨k3, s3, n3, ps3, fs3, vs3⟩ := q
 obtain ⟨A3, c3, B3, d3, C3, e3, rfl, -⟩ := hp.inv
 simp only [cells6T] at KO ⊢
 obtain ⟨w1, hw1⟩ : ∃ x, x = (w.alloc (.cells #[.int .i64 k, .string s, .int .i64 n, .slice A ps.length c, .slice A' fs.length c', .slice A'' vs.length c''] 26)).alloc (.cells #[.int .i64 k3, .string s3, .int .i64 n3, .slice A3 ps3.length c3, .slice B3 fs3.length d3, .slice C3 vs3.length e3] 26) := ⟨_, rfl⟩
 have hb1 : Below w.heap.size w w1 := by rw [hw1]; exact ((Below.refl _ _).alloc (Nat.le_refl _) _).alloc (by simp) _
 have hx0 : w1.heap[w.heap.size]? = some (.cells #[.int .i64 k, .string s, .int .i64 n, .slice A ps.length c, .slice A' fs.length c', .slice A'' vs.length c''] 26 (0, 0)) := by rw [hw1, Below.heap_alloc _ _ _ (by simp)]; exact heap_alloc_new w _
 have hy0 : w1.heap[w.heap.size + 1]? = some (.cells #[.int .i64 k3, .string s3, .int .i64 n3, .slice A3 ps3.length c3, .slice B3 fs3.length d3, .slice C3 vs3.length e3] 26 (0, 0)) := by
  rw [hw1]
  have h := heap_alloc_new (w.alloc (.cells #[.int .i64 k, .string s, .int .i64 n, .slice A ps.length c, .slice A' fs.length c', .slice A'' vs.length c''] 26)) (.cells #[.int .i64 k3, .string s3, .int .i64 n3, .slice A3 ps3.length c3, .slice B3 fs3.length d3, .slice C3 vs3.length e3] 26)
  rw [World.size_alloc] at h
  exact h
 have HB1 := Lib.hid hb1
 have HX0 := Lib.hid hx0
 have HY0 := Lib.hid hy0
 have HW1 := Lib.hid hw1
 clear hr hp hb1 hx0 hy0 hw1
 go_enter Tryz.func12, Tryz.ntmps12
 go_upto_region 1 with fail
 rw [← HW1.out]
 obtain ⟨x0, x1, x2, x3, x4, x5⟩ := cz6 HX0.out
 obtain ⟨y0, y1, y2, y3, y4, y5⟩ := cz6 HY0.out
 go_wp2_with fail
 refine (KO.out _ HB1.out).mono ?_
 rintro e w2 ⟨rfl, hg⟩
 have HB2 := Lib.hid (HB1.out.trans (hg.below.mono HB1.out.size))
 clear hg KO x0 x1 x2 x3 x4 x5 y0 y1 y2 y3 y4 y5
 go_wp2_with fail
 go_ret
 exact ⟨rfl, HB2.out⟩
set_option maxRecDepth 100000 in
set_option maxHeartbeats 16000000 in
theorem small13 {K : Nat → Prop} {w : World} {t : Ty} {cs : List Value} (hr : RepT K w t cs) :
  Calls Tryz.prog 5 #[.agg cs.toArray] w fun e w' => e = .returned (.bool (decide (cntT t ≤ 4096))) ∧ Below w.heap.size w w' := by
 have hN := nod_any t
 have KN := Lib.hid fun wx (hx : Below w.heap.size w wx) => hN K wx cs (hr.later hx)
 obtain ⟨k, s, n, ps, fs, vs⟩ := t
 obtain ⟨A, c, A', c', A'', c'', rfl, -⟩ := hr.inv
 simp only [cells6T] at KN ⊢
 obtain ⟨w1, hw1⟩ : ∃ x, x = w.alloc (.cells #[.int .i64 k, .string s, .int .i64 n, .slice A ps.length c, .slice A' fs.length c', .slice A'' vs.length c''] 26) := ⟨_, rfl⟩
 have hb1 : Below w.heap.size w w1 := by rw [hw1]; exact (Below.refl _ _).alloc (Nat.le_refl _) _
 have hx0 : w1.heap[w.heap.size]? = some (.cells #[.int .i64 k, .string s, .int .i64 n, .slice A ps.length c, .slice A' fs.length c', .slice A'' vs.length c''] 26 (0, 0)) := by rw [hw1]; exact heap_alloc_new w _
 have HB1 := Lib.hid hb1
 have HX0 := Lib.hid hx0
 have HW1 := Lib.hid hw1
 generalize hq : cntT (.mk k s n ps fs vs) = q at KN
 have t1 : decide ((capN q : Int) ≤ 4096) = decide (q ≤ 4096) := by rw [decide_eq_decide]; unfold capN; omega
 have HT := Lib.hid t1
 generalize decide (q ≤ 4096) = r at HT t1 ⊢
 clear hr hN hb1 hx0 hw1 hq
 go_enter Tryz.func5, Tryz.ntmps5
 go_upto_region 1 with fail
 rw [← HW1.out]
 obtain ⟨x0, x1, x2, x3, x4, x5⟩ := cz6 HX0.out
 go_wp2_with fail
 refine (KN.out _ HB1.out).mono ?_
 rintro e w2 ⟨rfl, hg⟩
 have HB2 := Lib.hid (HB1.out.trans (hg.below.mono HB1.out.size))
 clear x0 x1 x2 x3 x4 x5 hg KN
 go_wp2_with fail
 go_ret
 exact ⟨by first | rfl | rw [HT.out] | (rw [← HT.out]; rfl), HB2.out⟩
end Go.Proofs.YtfchnfnifpopnaaGreatDoor
