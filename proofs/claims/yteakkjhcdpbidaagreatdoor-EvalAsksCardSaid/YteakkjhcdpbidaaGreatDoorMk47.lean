import Derived.Test.YteakkjhcdpbidaaGreatDoorMk45
namespace Go.Proofs.YteakkjhcdpbidaaGreatDoor
set_option maxRecDepth 100000
set_option maxHeartbeats 64000000
open Go.RowKit
theorem form_11 {t : ByteArray} {n : Int} {ps : List Ty} {fs : FsT} {vs : VsT} (h : formT (.mk 11 t n ps fs vs) = true) : ∃ q, ps = [q] := by
 have hf := form_fits h
 have hs : shapeK 11 = ⟨false, false, false, false, 1, 1, true⟩ := rfl
 rw [hs] at hf
 unfold fitsB at hf
 simp only [Bool.and_eq_true, Bool.not_eq_true', Bool.or_eq_false_iff, Bool.or_eq_true, decide_eq_true_eq, beq_iff_eq, Bool.not_false, Bool.true_and, decide_eq_false_iff_not] at hf
 obtain ⟨_, h5, h6⟩ := hf
 have h7 : ps.length = 1 := by omega
 exact List.length_eq_one_iff.1 h7
theorem row_na {K : Nat → Prop} {w : World} (s : ByteArray) (n : Int) (ps : List Ty) (fs : FsT) (vs : VsT) (k3 : Int) (s3 : ByteArray) (n3 : Int) (ps3 : List Ty) (fs3 : FsT) (vs3 : VsT) {cs ds : List Value} (hr : RepT K w (.mk 11 s n ps fs vs) cs) (hp : RepT K w (.mk k3 s3 n3 ps3 fs3 vs3) ds) (hlo : ∀ b, K b → b < w.heap.size) (h7 : k3 ≠ 7) (h9 : k3 ≠ 9) :
  Calls Tryz.prog 38 #[.agg cs.toArray, .agg ds.toArray] w (FdT K w (tyK 2)) := by
 unfold FdT
 refine two_res hr hp fun A c B d C e A3 c3 B3 d3 C3 e3 w1 g h hcs hds => ?_
 subst hcs
 subst hds
 obtain ⟨HX, HY, HB1, HS1, HG, HW1, HR, -⟩ := h
 have HLO := Hd hlo
 clear hr hp hlo
 have g7 : (k3 == 7) = false := beq_eq_false_iff_ne.2 h7
 have g9 : (k3 == 9) = false := beq_eq_false_iff_ne.2 h9
 clear h7 h9
 go_enter Tryz.func38, Tryz.ntmps38
 go_upto_region 1 with fail
 rw [← HW1.out, ← HG.out]
 obtain ⟨⟨x0, x1, x2, x3, x4, x5⟩, ⟨y0, y1, y2, y3, y4, y5⟩⟩ := HX.out _ (Below.refl _ _)
 go_wp2_with fail
 refine (of_r13 2 _).mono ?_
 rintro e w7 ⟨rfl, hb7⟩
 have HB7 := Hd (HB1.out.trans (hb7.mono HB1.out.size))
 have rb := box_up hb7 (by have := HS1.out; omega) HY.out
 have HRR : Hid (RepT (fun b => K b ∨ g < b) w7 (tyK 2) [.int .i64 2, .string ⟨#[]⟩, .int .i64 0, .slice none 0 0, .slice none 0 0, .slice none 0 0]) := Hd (rep_k _ _ 2)
 clear hb7 x0 x1 x2 x3 x4 x5 y0 y1 y2 y3 y4 y5
 obtain ⟨q0, q1, q2, q3, q4, q5, z0, z1, z2, z3, z4, z5⟩ := qz6 rb
 have RBX := Hd rb
 clear rb
 go_wp2_with fail
 obtain ⟨r0, r1, r2, r3, r4, r5⟩ := cz6 (six_set RBX.out (.int .i64 2) (.string ⟨#[]⟩) (.int .i64 0) (.slice none 0 0) (.slice none 0 0) (.slice none 0 0))
 clear q0 q1 q2 q3 q4 q5 z0 z1 z2 z3 z4 z5 RBX
 refine bodyPost_ret (v := .agg #[.int .i64 2, .string ⟨#[]⟩, .int .i64 0, .slice none 0 0, .slice none 0 0, .slice none 0 0]) (by simp [results, Tryz.results38, go_sem, r0, r1, r2, r3, r4, r5]) rfl ?_
 clear r0 r1 r2 r3 r4 r5
 exact ⟨[.int .i64 2, .string ⟨#[]⟩, .int .i64 0, .slice none 0 0, .slice none 0 0, .slice none 0 0], rfl, ret_box HRR.out (fun b h => by have h1 := HLO.out b h; have h2 := HG.out; omega) (by have := HG.out; omega) _ _ _ _ _ _, set_six_below HB7.out (by have := HG.out; omega) _ _ _ _ _ _⟩
theorem row_nb {K : Nat → Prop} {w : World} (s : ByteArray) (n : Int) (ps : List Ty) (fs : FsT) (vs : VsT) (k3 : Int) (s3 : ByteArray) (n3 : Int) (ps3 : List Ty) (fs3 : FsT) (vs3 : VsT) {cs ds : List Value} (hr : RepT K w (.mk 12 s n ps fs vs) cs) (hp : RepT K w (.mk k3 s3 n3 ps3 fs3 vs3) ds) (hlo : ∀ b, K b → b < w.heap.size) (h7 : k3 ≠ 7) (h9 : k3 ≠ 9) :
  Calls Tryz.prog 38 #[.agg cs.toArray, .agg ds.toArray] w (FdT K w (tyK 2)) := by
 unfold FdT
 refine two_res hr hp fun A c B d C e A3 c3 B3 d3 C3 e3 w1 g h hcs hds => ?_
 subst hcs
 subst hds
 obtain ⟨HX, HY, HB1, HS1, HG, HW1, HR, -⟩ := h
 have HLO := Hd hlo
 clear hr hp hlo
 have g7 : (k3 == 7) = false := beq_eq_false_iff_ne.2 h7
 have g9 : (k3 == 9) = false := beq_eq_false_iff_ne.2 h9
 clear h7 h9
 go_enter Tryz.func38, Tryz.ntmps38
 go_upto_region 1 with fail
 rw [← HW1.out, ← HG.out]
 obtain ⟨⟨x0, x1, x2, x3, x4, x5⟩, ⟨y0, y1, y2, y3, y4, y5⟩⟩ := HX.out _ (Below.refl _ _)
 go_wp2_with fail
 refine (of_r13 2 _).mono ?_
 rintro e w7 ⟨rfl, hb7⟩
 have HB7 := Hd (HB1.out.trans (hb7.mono HB1.out.size))
 have rb := box_up hb7 (by have := HS1.out; omega) HY.out
 have HRR : Hid (RepT (fun b => K b ∨ g < b) w7 (tyK 2) [.int .i64 2, .string ⟨#[]⟩, .int .i64 0, .slice none 0 0, .slice none 0 0, .slice none 0 0]) := Hd (rep_k _ _ 2)
 clear hb7 x0 x1 x2 x3 x4 x5 y0 y1 y2 y3 y4 y5
 obtain ⟨q0, q1, q2, q3, q4, q5, z0, z1, z2, z3, z4, z5⟩ := qz6 rb
 have RBX := Hd rb
 clear rb
 go_wp2_with fail
 obtain ⟨r0, r1, r2, r3, r4, r5⟩ := cz6 (six_set RBX.out (.int .i64 2) (.string ⟨#[]⟩) (.int .i64 0) (.slice none 0 0) (.slice none 0 0) (.slice none 0 0))
 clear q0 q1 q2 q3 q4 q5 z0 z1 z2 z3 z4 z5 RBX
 refine bodyPost_ret (v := .agg #[.int .i64 2, .string ⟨#[]⟩, .int .i64 0, .slice none 0 0, .slice none 0 0, .slice none 0 0]) (by simp [results, Tryz.results38, go_sem, r0, r1, r2, r3, r4, r5]) rfl ?_
 clear r0 r1 r2 r3 r4 r5
 exact ⟨[.int .i64 2, .string ⟨#[]⟩, .int .i64 0, .slice none 0 0, .slice none 0 0, .slice none 0 0], rfl, ret_box HRR.out (fun b h => by have h1 := HLO.out b h; have h2 := HG.out; omega) (by have := HG.out; omega) _ _ _ _ _ _, set_six_below HB7.out (by have := HG.out; omega) _ _ _ _ _ _⟩
theorem row_nc {K : Nat → Prop} {w : World} (k : Int) (s : ByteArray) (n : Int) (ps : List Ty) (fs : FsT) (vs : VsT) (k3 : Int) (s3 : ByteArray) (n3 : Int) (ps3 : List Ty) (fs3 : FsT) (vs3 : VsT) {cs ds : List Value} (hr : RepT K w (.mk k s n ps fs vs) cs) (hp : RepT K w (.mk k3 s3 n3 ps3 fs3 vs3) ds) (hlo : ∀ b, K b → b < w.heap.size) (h7 : k3 ≠ 7) (h9 : k3 ≠ 9) (h11 : k ≠ 11) (h12 : k ≠ 12) :
  Calls Tryz.prog 38 #[.agg cs.toArray, .agg ds.toArray] w (FdT K w (tyK 2)) := by
 unfold FdT
 refine two_res hr hp fun A c B d C e A3 c3 B3 d3 C3 e3 w1 g h hcs hds => ?_
 subst hcs
 subst hds
 obtain ⟨HX, HY, HB1, HS1, HG, HW1, HR, -⟩ := h
 have HLO := Hd hlo
 clear hr hp hlo
 have g7 : (k3 == 7) = false := beq_eq_false_iff_ne.2 h7
 have g9 : (k3 == 9) = false := beq_eq_false_iff_ne.2 h9
 have f11 : (k == 11) = false := beq_eq_false_iff_ne.2 h11
 have f12 : (k == 12) = false := beq_eq_false_iff_ne.2 h12
 clear h7 h9 h11 h12
 go_enter Tryz.func38, Tryz.ntmps38
 go_upto_region 1 with fail
 rw [← HW1.out, ← HG.out]
 obtain ⟨⟨x0, x1, x2, x3, x4, x5⟩, ⟨y0, y1, y2, y3, y4, y5⟩⟩ := HX.out _ (Below.refl _ _)
 go_wp2_with fail
 refine (of_r13 2 _).mono ?_
 rintro e w7 ⟨rfl, hb7⟩
 have HB7 := Hd (HB1.out.trans (hb7.mono HB1.out.size))
 have rb := box_up hb7 (by have := HS1.out; omega) HY.out
 have HRR : Hid (RepT (fun b => K b ∨ g < b) w7 (tyK 2) [.int .i64 2, .string ⟨#[]⟩, .int .i64 0, .slice none 0 0, .slice none 0 0, .slice none 0 0]) := Hd (rep_k _ _ 2)
 clear hb7 x0 x1 x2 x3 x4 x5 y0 y1 y2 y3 y4 y5
 obtain ⟨q0, q1, q2, q3, q4, q5, z0, z1, z2, z3, z4, z5⟩ := qz6 rb
 have RBX := Hd rb
 clear rb
 go_wp2_with fail
 obtain ⟨r0, r1, r2, r3, r4, r5⟩ := cz6 (six_set RBX.out (.int .i64 2) (.string ⟨#[]⟩) (.int .i64 0) (.slice none 0 0) (.slice none 0 0) (.slice none 0 0))
 clear q0 q1 q2 q3 q4 q5 z0 z1 z2 z3 z4 z5 RBX
 refine bodyPost_ret (v := .agg #[.int .i64 2, .string ⟨#[]⟩, .int .i64 0, .slice none 0 0, .slice none 0 0, .slice none 0 0]) (by simp [results, Tryz.results38, go_sem, r0, r1, r2, r3, r4, r5]) rfl ?_
 clear r0 r1 r2 r3 r4 r5
 exact ⟨[.int .i64 2, .string ⟨#[]⟩, .int .i64 0, .slice none 0 0, .slice none 0 0, .slice none 0 0], rfl, ret_box HRR.out (fun b h => by have h1 := HLO.out b h; have h2 := HG.out; omega) (by have := HG.out; omega) _ _ _ _ _ _, set_six_below HB7.out (by have := HG.out; omega) _ _ _ _ _ _⟩
theorem row_nd {K : Nat → Prop} {w : World} (k : Int) (s : ByteArray) (n : Int) (ps : List Ty) (fs : FsT) (vs : VsT) (s3 : ByteArray) (n3 : Int) (ps3 : List Ty) (fs3 : FsT) (vs3 : VsT) {cs ds : List Value} (hr : RepT K w (.mk k s n ps fs vs) cs) (hp : RepT K w (.mk 7 s3 n3 ps3 fs3 vs3) ds) (hlo : ∀ b, K b → b < w.heap.size) (h11 : k ≠ 11) (h12 : k ≠ 12) :
  Calls Tryz.prog 38 #[.agg cs.toArray, .agg ds.toArray] w (FdT K w (tyK 2)) := by
 unfold FdT
 refine two_res hr hp fun A c B d C e A3 c3 B3 d3 C3 e3 w1 g h hcs hds => ?_
 subst hcs
 subst hds
 obtain ⟨HX, HY, HB1, HS1, HG, HW1, HR, -⟩ := h
 have HLO := Hd hlo
 clear hr hp hlo
 have f11 : (k == 11) = false := beq_eq_false_iff_ne.2 h11
 have f12 : (k == 12) = false := beq_eq_false_iff_ne.2 h12
 clear h11 h12
 go_enter Tryz.func38, Tryz.ntmps38
 go_upto_region 1 with fail
 rw [← HW1.out, ← HG.out]
 obtain ⟨⟨x0, x1, x2, x3, x4, x5⟩, ⟨y0, y1, y2, y3, y4, y5⟩⟩ := HX.out _ (Below.refl _ _)
 go_wp2_with fail
 refine (of_r13 2 _).mono ?_
 rintro e w7 ⟨rfl, hb7⟩
 have HB7 := Hd (HB1.out.trans (hb7.mono HB1.out.size))
 have rb := box_up hb7 (by have := HS1.out; omega) HY.out
 have HRR : Hid (RepT (fun b => K b ∨ g < b) w7 (tyK 2) [.int .i64 2, .string ⟨#[]⟩, .int .i64 0, .slice none 0 0, .slice none 0 0, .slice none 0 0]) := Hd (rep_k _ _ 2)
 clear hb7 x0 x1 x2 x3 x4 x5 y0 y1 y2 y3 y4 y5
 obtain ⟨q0, q1, q2, q3, q4, q5, z0, z1, z2, z3, z4, z5⟩ := qz6 rb
 have RBX := Hd rb
 clear rb
 go_wp2_with fail
 obtain ⟨r0, r1, r2, r3, r4, r5⟩ := cz6 (six_set RBX.out (.int .i64 2) (.string ⟨#[]⟩) (.int .i64 0) (.slice none 0 0) (.slice none 0 0) (.slice none 0 0))
 clear q0 q1 q2 q3 q4 q5 z0 z1 z2 z3 z4 z5 RBX
 refine bodyPost_ret (v := .agg #[.int .i64 2, .string ⟨#[]⟩, .int .i64 0, .slice none 0 0, .slice none 0 0, .slice none 0 0]) (by simp [results, Tryz.results38, go_sem, r0, r1, r2, r3, r4, r5]) rfl ?_
 clear r0 r1 r2 r3 r4 r5
 exact ⟨[.int .i64 2, .string ⟨#[]⟩, .int .i64 0, .slice none 0 0, .slice none 0 0, .slice none 0 0], rfl, ret_box HRR.out (fun b h => by have h1 := HLO.out b h; have h2 := HG.out; omega) (by have := HG.out; omega) _ _ _ _ _ _, set_six_below HB7.out (by have := HG.out; omega) _ _ _ _ _ _⟩
theorem row_ne {K : Nat → Prop} {w : World} (k : Int) (s : ByteArray) (n : Int) (ps : List Ty) (fs : FsT) (vs : VsT) (s3 : ByteArray) (n3 : Int) (ps3 : List Ty) (fs3 : FsT) (vs3 : VsT) {cs ds : List Value} (hr : RepT K w (.mk k s n ps fs vs) cs) (hp : RepT K w (.mk 9 s3 n3 ps3 fs3 vs3) ds) (hlo : ∀ b, K b → b < w.heap.size) (h11 : k ≠ 11) (h12 : k ≠ 12) :
  Calls Tryz.prog 38 #[.agg cs.toArray, .agg ds.toArray] w (FdT K w (tyK 2)) := by
 unfold FdT
 refine two_res hr hp fun A c B d C e A3 c3 B3 d3 C3 e3 w1 g h hcs hds => ?_
 subst hcs
 subst hds
 obtain ⟨HX, HY, HB1, HS1, HG, HW1, HR, -⟩ := h
 have HLO := Hd hlo
 clear hr hp hlo
 have f11 : (k == 11) = false := beq_eq_false_iff_ne.2 h11
 have f12 : (k == 12) = false := beq_eq_false_iff_ne.2 h12
 clear h11 h12
 go_enter Tryz.func38, Tryz.ntmps38
 go_upto_region 1 with fail
 rw [← HW1.out, ← HG.out]
 obtain ⟨⟨x0, x1, x2, x3, x4, x5⟩, ⟨y0, y1, y2, y3, y4, y5⟩⟩ := HX.out _ (Below.refl _ _)
 go_wp2_with fail
 refine (of_r13 2 _).mono ?_
 rintro e w7 ⟨rfl, hb7⟩
 have HB7 := Hd (HB1.out.trans (hb7.mono HB1.out.size))
 have rb := box_up hb7 (by have := HS1.out; omega) HY.out
 have HRR : Hid (RepT (fun b => K b ∨ g < b) w7 (tyK 2) [.int .i64 2, .string ⟨#[]⟩, .int .i64 0, .slice none 0 0, .slice none 0 0, .slice none 0 0]) := Hd (rep_k _ _ 2)
 clear hb7 x0 x1 x2 x3 x4 x5 y0 y1 y2 y3 y4 y5
 obtain ⟨q0, q1, q2, q3, q4, q5, z0, z1, z2, z3, z4, z5⟩ := qz6 rb
 have RBX := Hd rb
 clear rb
 go_wp2_with fail
 obtain ⟨r0, r1, r2, r3, r4, r5⟩ := cz6 (six_set RBX.out (.int .i64 2) (.string ⟨#[]⟩) (.int .i64 0) (.slice none 0 0) (.slice none 0 0) (.slice none 0 0))
 clear q0 q1 q2 q3 q4 q5 z0 z1 z2 z3 z4 z5 RBX
 refine bodyPost_ret (v := .agg #[.int .i64 2, .string ⟨#[]⟩, .int .i64 0, .slice none 0 0, .slice none 0 0, .slice none 0 0]) (by simp [results, Tryz.results38, go_sem, r0, r1, r2, r3, r4, r5]) rfl ?_
 clear r0 r1 r2 r3 r4 r5
 exact ⟨[.int .i64 2, .string ⟨#[]⟩, .int .i64 0, .slice none 0 0, .slice none 0 0, .slice none 0 0], rfl, ret_box HRR.out (fun b h => by have h1 := HLO.out b h; have h2 := HG.out; omega) (by have := HG.out; omega) _ _ _ _ _ _, set_six_below HB7.out (by have := HG.out; omega) _ _ _ _ _ _⟩
theorem row_at {K : Nat → Prop} {w : World} (s : ByteArray) (n : Int) (ps : List Ty) (fs : FsT) (vs : VsT) (s3 : ByteArray) (n3 : Int) (ps3 : List Ty) (fs3 : FsT) (vs3 : VsT) {cs ds : List Value} (hr : RepT K w (.mk 12 s n ps fs vs) cs) (hp : RepT K w (.mk 9 s3 n3 ps3 fs3 vs3) ds) (hlo : ∀ b, K b → b < w.heap.size) (hn : 0 ≤ n3) :
  Calls Tryz.prog 38 #[.agg cs.toArray, .agg ds.toArray] w (FdT K w (if n3 < 0 then tyK 4 else (ps[n3.toNat]?).getD (tyK 4))) := by
 obtain ⟨m, rfl⟩ : ∃ m : Nat, n3 = (m : Int) := ⟨n3.toNat, by omega⟩
 rw [if_neg (by omega), Int.toNat_natCast]
 clear hn
 unfold FdT
 refine two_res hr hp fun A c B d C e A3 c3 B3 d3 C3 e3 w1 g h hcs hds => ?_
 subst hcs
 subst hds
 obtain ⟨HX, HY, HB1, HS1, HG, HW1, HR, -⟩ := h
 have HLO := Hd hlo
 clear hr hp hlo
 obtain ⟨_, _, _, _, _, _, he, -, hL, -, -⟩ := HR.out.inv
 simp only [cells6T, List.cons.injEq, Value.slice.injEq] at he
 obtain ⟨-, -, -, ⟨rfl, -, rfl⟩, -⟩ := he
 by_cases hin : m < ps.length
 ·have t1 : decide ((m : Int) < (ps.length : Int)) = true := by simp; omega
  have i1 : (0 : Int) ≤ (m : Int) := by omega
  have i2 : (m : Int) < (ps.length : Int) := by omega
  obtain ⟨tb, tq, hA, -, hat⟩ := hL.at (by omega)
  subst hA
  obtain ⟨es, hes, hrq⟩ := hat m hin
  rw [List.getElem?_eq_getElem hin, Option.getD_some]
  generalize ps[m] = u at hrq ⊢
  obtain ⟨k8, s8, n8, ps8, fs8, vs8⟩ := u
  obtain ⟨A8, c8, B8, d8, C8, e8, rfl, -⟩ := hrq.inv
  have HRR := Hd (hrq.weak (K' := fun b => K b ∨ g < b) fun b h => .inl h)
  simp only [cells6T] at hes HRR
  have z0 := hes 0 _ rfl
  have z1 := hes 1 _ rfl
  have z2 := hes 2 _ rfl
  have z3 := hes 3 _ rfl
  have z4 := hes 4 _ rfl
  have z5 := hes 5 _ rfl
  simp only [Nat.add_zero] at z0
  clear hL hat hes hrq
  go_enter Tryz.func38, Tryz.ntmps38
  go_upto_region 1 with fail
  rw [← HW1.out, ← HG.out]
  obtain ⟨⟨x0, x1, x2, x3, x4, x5⟩, ⟨y0, y1, y2, y3, y4, y5⟩⟩ := HX.out _ (Below.refl _ _)
  go_upto_region 6 with fail
  have w0' := z0
  have w1' := z1
  have w2' := z2
  have w3' := z3
  have w4' := z4
  have w5' := z5
  clear z0 z1 z2 z3 z4 z5
  have rb := HY.out
  obtain ⟨q0, q1, q2, q3, q4, q5, z0, z1, z2, z3, z4, z5⟩ := qz6 rb
  have RBX := Hd rb
  clear rb
  go_wp2_with fail
  obtain ⟨r0, r1, r2, r3, r4, r5⟩ := cz6 (six_set RBX.out (.int .i64 k8) (.string s8) (.int .i64 n8) (.slice A8 ps8.length c8) (.slice B8 fs8.length d8) (.slice C8 vs8.length e8))
  clear q0 q1 q2 q3 q4 q5 z0 z1 z2 z3 z4 z5 RBX
  refine bodyPost_ret (v := .agg #[.int .i64 k8, .string s8, .int .i64 n8, .slice A8 ps8.length c8, .slice B8 fs8.length d8, .slice C8 vs8.length e8]) (by simp [results, Tryz.results38, go_sem, r0, r1, r2, r3, r4, r5]) rfl ?_
  clear r0 r1 r2 r3 r4 r5
  exact ⟨[.int .i64 k8, .string s8, .int .i64 n8, .slice A8 ps8.length c8, .slice B8 fs8.length d8, .slice C8 vs8.length e8], rfl, ret_box HRR.out (fun b h => by have h1 := HLO.out b h; have h2 := HG.out; omega) (by have := HG.out; omega) _ _ _ _ _ _, set_six_below HB1.out (by have := HG.out; omega) _ _ _ _ _ _⟩
 ·have t1 : decide ((m : Int) < (ps.length : Int)) = false := by simp; omega
  rw [List.getElem?_eq_none (by omega), Option.getD_none]
  clear hL
  go_enter Tryz.func38, Tryz.ntmps38
  go_upto_region 1 with fail
  rw [← HW1.out, ← HG.out]
  obtain ⟨⟨x0, x1, x2, x3, x4, x5⟩, ⟨y0, y1, y2, y3, y4, y5⟩⟩ := HX.out _ (Below.refl _ _)
  go_wp2_with fail
  refine (of_r13 4 _).mono ?_
  rintro e w7 ⟨rfl, hb7⟩
  have HB7 := Hd (HB1.out.trans (hb7.mono HB1.out.size))
  have rb := box_up hb7 (by have := HS1.out; omega) HY.out
  have HRR : Hid (RepT (fun b => K b ∨ g < b) w7 (tyK 4) [.int .i64 4, .string ⟨#[]⟩, .int .i64 0, .slice none 0 0, .slice none 0 0, .slice none 0 0]) := Hd (rep_k _ _ 4)
  clear hb7 x0 x1 x2 x3 x4 x5 y0 y1 y2 y3 y4 y5
  obtain ⟨q0, q1, q2, q3, q4, q5, z0, z1, z2, z3, z4, z5⟩ := qz6 rb
  have RBX := Hd rb
  clear rb
  go_wp2_with fail
  obtain ⟨r0, r1, r2, r3, r4, r5⟩ := cz6 (six_set RBX.out (.int .i64 4) (.string ⟨#[]⟩) (.int .i64 0) (.slice none 0 0) (.slice none 0 0) (.slice none 0 0))
  clear q0 q1 q2 q3 q4 q5 z0 z1 z2 z3 z4 z5 RBX
  refine bodyPost_ret (v := .agg #[.int .i64 4, .string ⟨#[]⟩, .int .i64 0, .slice none 0 0, .slice none 0 0, .slice none 0 0]) (by simp [results, Tryz.results38, go_sem, r0, r1, r2, r3, r4, r5]) rfl ?_
  clear r0 r1 r2 r3 r4 r5
  exact ⟨[.int .i64 4, .string ⟨#[]⟩, .int .i64 0, .slice none 0 0, .slice none 0 0, .slice none 0 0], rfl, ret_box HRR.out (fun b h => by have h1 := HLO.out b h; have h2 := HG.out; omega) (by have := HG.out; omega) _ _ _ _ _ _, set_six_below HB7.out (by have := HG.out; omega) _ _ _ _ _ _⟩
theorem row_arr7 {K : Nat → Prop} {w : World} (s : ByteArray) (n : Int) (ps : List Ty) (fs : FsT) (vs : VsT) (s3 : ByteArray) (n3 : Int) (ps3 : List Ty) (fs3 : FsT) (vs3 : VsT) {cs ds : List Value} (hr : RepT K w (.mk 11 s n ps fs vs) cs) (hp : RepT K w (.mk 7 s3 n3 ps3 fs3 vs3) ds) (hlo : ∀ b, K b → b < w.heap.size) (hf : formT (.mk 11 s n ps fs vs) = true) (hc : cntL ps ≤ 1000000) :
  Calls Tryz.prog 38 #[.agg cs.toArray, .agg ds.toArray] w (FdT K w (unionT (tyK 4 :: ps))) := by
 obtain ⟨u, rfl⟩ := form_11 hf
 have hfu := form_ps hf u (by simp [Ty.ps])
 have hcu := cntL_mem (l := [u]) (x := u) (by simp)
 have e0 : unionT (tyK 4 :: [u]) = unionT [u, tyK 4] := union_same fun x => by simp only [List.mem_cons, List.not_mem_nil, or_false]; exact or_comm
 rw [e0]
 clear e0 hf
 unfold FdT
 refine two_res hr hp fun A c B d C e A3 c3 B3 d3 C3 e3 w1 g h hcs hds => ?_
 subst hcs
 subst hds
 obtain ⟨HX, HY, HB1, HS1, HG, HW1, HR, -⟩ := h
 have HLO := Hd hlo
 clear hr hp hlo
 obtain ⟨_, _, _, _, _, _, he, -, hL, -, -⟩ := HR.out.inv
 simp only [cells6T, List.cons.injEq, Value.slice.injEq] at he
 obtain ⟨-, -, -, ⟨rfl, -, rfl⟩, -⟩ := he
 obtain ⟨tb, tq, hA, hKb, hat⟩ := hL.at (by simp)
 subst hA
 have HTB : Hid (tb ≠ g) := Hd (by have h1 := HLO.out tb hKb; have h2 := HG.out; omega)
 clear hKb
 obtain ⟨es, hes, hrq⟩ := hat 0 (by simp)
 simp only [List.getElem_cons_zero, Nat.zero_mul, Nat.add_zero] at hes hrq
 obtain ⟨k4, s4, n4, ps4, fs4, vs4⟩ := u
 obtain ⟨A4, c4, B4, d4, C4, e4, rfl, -⟩ := hrq.inv
 have HR3 := Hd hrq
 simp only [cells6T] at hes HR3
 have HC : Hid (∀ wx, Below w1.heap.size w1 wx → wx.cell? ⟨w.heap.size, 3, none⟩ = some (.slice (some ⟨tb, tq, none⟩) 1 c) ∧ (wx.cell? ⟨tb, tq, none⟩ = some (.int .i64 k4) ∧ wx.cell? ⟨tb, tq + 1, none⟩ = some (.string s4) ∧ wx.cell? ⟨tb, tq + 2, none⟩ = some (.int .i64 n4) ∧ wx.cell? ⟨tb, tq + 3, none⟩ = some (.slice A4 ps4.length c4) ∧ wx.cell? ⟨tb, tq + 4, none⟩ = some (.slice B4 fs4.length d4) ∧ wx.cell? ⟨tb, tq + 5, none⟩ = some (.slice C4 vs4.length e4))) := Hd fun wx hx => ⟨(HX.out wx hx).1.2.2.2.1, cell_stays hx (hes 0 _ rfl), cell_stays hx (hes 1 _ rfl), cell_stays hx (hes 2 _ rfl), cell_stays hx (hes 3 _ rfl), cell_stays hx (hes 4 _ rfl), cell_stays hx (hes 5 _ rfl)⟩
 have HFU : Hid (formT (.mk k4 s4 n4 ps4 fs4 vs4) = true ∧ cntT (.mk k4 s4 n4 ps4 fs4 vs4) ≤ 1000000) := Hd ⟨hfu, by omega⟩
 clear hfu hcu hc hL hat hes hrq
 generalize hU : unionT [.mk k4 s4 n4 ps4 fs4 vs4, tyK 4] = u8
 have HU := Hd hU
 clear hU
 simp only [List.length_cons, List.length_nil, Nat.zero_add] at HX HW1
 go_enter Tryz.func38, Tryz.ntmps38
 go_upto_region 1 with fail
 rw [← HW1.out, ← HG.out]
 obtain ⟨⟨x0, x1, x2, x3, x4, x5⟩, ⟨y0, y1, y2, y3, y4, y5⟩⟩ := HX.out _ (Below.refl _ _)
 go_upto_region 3 with fail
 clear x0 x1 x2 x3 x4 x5 y0 y1 y2 y3 y4 y5
 refine wp_region_held_drew (S := (fun w' => w'.cell? ⟨w.heap.size, 3, none⟩ = some (.slice (some ⟨tb, tq, none⟩) 1 c) ∧ (w'.cell? ⟨tb, tq, none⟩ = some (.int .i64 k4) ∧ w'.cell? ⟨tb, tq + 1, none⟩ = some (.string s4) ∧ w'.cell? ⟨tb, tq + 2, none⟩ = some (.int .i64 n4) ∧ w'.cell? ⟨tb, tq + 3, none⟩ = some (.slice A4 ps4.length c4) ∧ w'.cell? ⟨tb, tq + 4, none⟩ = some (.slice B4 fs4.length d4) ∧ w'.cell? ⟨tb, tq + 5, none⟩ = some (.slice C4 vs4.length e4)))) (by kernel_rfl) (HC.out _ (Below.refl _ _).drew) (fun hHeld => ?_)
 refine Plan.start [0, 1, 2, 3] ?_
 iterate 4 (refine Plan.tk (so rfl) hHeld ?_; try simp only [Act.put, pz1, pz2, pz3])
 refine Plan.done ?_
 refine wpAnyH_ready (rs := [4]) (by kernel_rfl) (by simp) ?_
 refine AllReadyH.cons (sd (some 26) rfl) (fun Kx hK => ?_) AllReadyH.nil
 go_simp
 refine (of_r13 4 _).mono ?_
 rintro e w5 ⟨rfl, hb⟩
 have HB5 := Hd ((Below.refl w1.heap.size w1).drew.trans hb)
 clear hb
 go_wp2_with fail
 refine hK.out _ _ (HC.out _ HB5.out) (fun hHeld => ?_)
 clear hK Kx
 try simp only [Act.put, pz1, pz2, pz3]
 refine wpAnyH_ready (rs := [5]) (by kernel_rfl) (by simp) ?_
 refine AllReadyH.cons (sd (some 27) rfl) (fun Kx hK => ?_) AllReadyH.nil
 go_simp
 generalize hW : World.alloc w5 (.cells #[.int .i64 k4, .string s4, .int .i64 n4, .slice A4 ps4.length c4, .slice B4 fs4.length d4, .slice C4 vs4.length e4, .int .i64 4, .string ⟨#[]⟩, .int .i64 0, .slice none 0 0, .slice none 0 0, .slice none 0 0] 26) = w6
 have hb : Below w5.heap.size w5 w6 := by rw [← hW]; exact (Below.refl _ _).alloc (Nat.le_refl _) _
 have hx : w6.heap[w5.heap.size]? = some (.cells #[.int .i64 k4, .string s4, .int .i64 n4, .slice A4 ps4.length c4, .slice B4 fs4.length d4, .slice C4 vs4.length e4, .int .i64 4, .string ⟨#[]⟩, .int .i64 0, .slice none 0 0, .slice none 0 0, .slice none 0 0] 26 (0, 0)) := by rw [← hW]; exact heap_alloc_new w5 _
 have HB6 := Hd (HB5.out.trans (hb.mono HB5.out.size))
 have KU := Hd (uni2_ref (HR3.out.later HB6.out) (rep_k K w6 4) hx HFU.out.1 (form_tyK (by decide) (by decide)) (by have := HFU.out.2; omega) (by rw [cnt_kind]; omega))
 have HL5 : Hid (w1.heap.size ≤ w5.heap.size ∧ w1.heap.size ≤ w6.heap.size) := Hd ⟨HB5.out.size, HB6.out.size⟩
 rw [HU.out] at KU
 clear hW hb hx
 refine hK.out _ _ (HC.out _ HB6.out) (fun hHeld => ?_)
 clear hK Kx
 try simp only [Act.put, pz1, pz2, pz3]
 refine wpAnyH_ready (rs := [6]) (by kernel_rfl) (by simp) ?_
 refine AllReadyH.cons (sd (some 28) rfl) (fun Kx hK => ?_) AllReadyH.nil
 go_simp
 refine KU.out.mono ?_
 rintro e w7 ⟨rs, rfl, hr7, hb⟩
 have HZ7 := Hd (HB6.out.trans (hb.mono HB6.out.size))
 have HB7 := Hd (HB1.out.trans (HZ7.out.mono HB1.out.size))
 have hr8 : RepT (fun b => K b ∨ g < b) w7 u8 rs := hr7.weak fun b h => by
  have h1 := HL5.out
  have h2 := HS1.out
  rcases h with h | h | h
  ·exact .inl h
  ·exact .inr (by omega)
  ·exact .inr (by omega)
 clear hr7 hb KU HU
 obtain ⟨k8, s8, n8, ps8, fs8, vs8⟩ := u8
 obtain ⟨A8, c8, B8, d8, C8, e8, rfl, -⟩ := hr8.inv
 have HRR := Hd hr8
 simp only [cells6T] at HRR ⊢
 clear hr8
 go_wp2_with fail
 refine hK.out _ _ (HC.out _ HZ7.out) (fun hHeld => ?_)
 clear hK Kx
 try simp only [Act.put, pz1, pz2, pz3]
 refine wpAnyH_ready (rs := [7]) (by kernel_rfl) (by simp) ?_
 refine AllReadyH.cons (sd none rfl) (fun Kx hK => ?_) AllReadyH.nil
 go_simp
 have rb := box_up HZ7.out (by have := HS1.out; omega) HY.out
 obtain ⟨q0, q1, q2, q3, q4, q5, z0, z1, z2, z3, z4, z5⟩ := qz6 rb
 have HSET := Hd (six_set rb (.int .i64 k8) (.string s8) (.int .i64 n8) (.slice A8 ps8.length c8) (.slice B8 fs8.length d8) (.slice C8 vs8.length e8))
 have HRS := Hd (ret_box HRR.out (fun b h => by have h1 := HLO.out b h; have h2 := HG.out; omega) (show w.heap.size ≤ g by have := HG.out; omega) (.int .i64 k8) (.string s8) (.int .i64 n8) (.slice A8 ps8.length c8) (.slice B8 fs8.length d8) (.slice C8 vs8.length e8))
 have HBS := Hd (set_six_below HB7.out (show w.heap.size ≤ g by have := HG.out; omega) (.int .i64 k8) (.string s8) (.int .i64 n8) (.slice A8 ps8.length c8) (.slice B8 fs8.length d8) (.slice C8 vs8.length e8))
 have HCS : Hid (((((((w7.setCell ⟨g, 0, none⟩ (.int .i64 k8)).setCell ⟨g, 1, none⟩ (.string s8)).setCell ⟨g, 2, none⟩ (.int .i64 n8)).setCell ⟨g, 3, none⟩ (.slice A8 ps8.length c8)).setCell ⟨g, 4, none⟩ (.slice B8 fs8.length d8)).setCell ⟨g, 5, none⟩ (.slice C8 vs8.length e8)).cell? ⟨w.heap.size, 3, none⟩ = some (.slice (some ⟨tb, tq, none⟩) 1 c) ∧ (((((((w7.setCell ⟨g, 0, none⟩ (.int .i64 k8)).setCell ⟨g, 1, none⟩ (.string s8)).setCell ⟨g, 2, none⟩ (.int .i64 n8)).setCell ⟨g, 3, none⟩ (.slice A8 ps8.length c8)).setCell ⟨g, 4, none⟩ (.slice B8 fs8.length d8)).setCell ⟨g, 5, none⟩ (.slice C8 vs8.length e8)).cell? ⟨tb, tq, none⟩ = some (.int .i64 k4) ∧ ((((((w7.setCell ⟨g, 0, none⟩ (.int .i64 k8)).setCell ⟨g, 1, none⟩ (.string s8)).setCell ⟨g, 2, none⟩ (.int .i64 n8)).setCell ⟨g, 3, none⟩ (.slice A8 ps8.length c8)).setCell ⟨g, 4, none⟩ (.slice B8 fs8.length d8)).setCell ⟨g, 5, none⟩ (.slice C8 vs8.length e8)).cell? ⟨tb, tq + 1, none⟩ = some (.string s4) ∧ ((((((w7.setCell ⟨g, 0, none⟩ (.int .i64 k8)).setCell ⟨g, 1, none⟩ (.string s8)).setCell ⟨g, 2, none⟩ (.int .i64 n8)).setCell ⟨g, 3, none⟩ (.slice A8 ps8.length c8)).setCell ⟨g, 4, none⟩ (.slice B8 fs8.length d8)).setCell ⟨g, 5, none⟩ (.slice C8 vs8.length e8)).cell? ⟨tb, tq + 2, none⟩ = some (.int .i64 n4) ∧ ((((((w7.setCell ⟨g, 0, none⟩ (.int .i64 k8)).setCell ⟨g, 1, none⟩ (.string s8)).setCell ⟨g, 2, none⟩ (.int .i64 n8)).setCell ⟨g, 3, none⟩ (.slice A8 ps8.length c8)).setCell ⟨g, 4, none⟩ (.slice B8 fs8.length d8)).setCell ⟨g, 5, none⟩ (.slice C8 vs8.length e8)).cell? ⟨tb, tq + 3, none⟩ = some (.slice A4 ps4.length c4) ∧ ((((((w7.setCell ⟨g, 0, none⟩ (.int .i64 k8)).setCell ⟨g, 1, none⟩ (.string s8)).setCell ⟨g, 2, none⟩ (.int .i64 n8)).setCell ⟨g, 3, none⟩ (.slice A8 ps8.length c8)).setCell ⟨g, 4, none⟩ (.slice B8 fs8.length d8)).setCell ⟨g, 5, none⟩ (.slice C8 vs8.length e8)).cell? ⟨tb, tq + 4, none⟩ = some (.slice B4 fs4.length d4) ∧ ((((((w7.setCell ⟨g, 0, none⟩ (.int .i64 k8)).setCell ⟨g, 1, none⟩ (.string s8)).setCell ⟨g, 2, none⟩ (.int .i64 n8)).setCell ⟨g, 3, none⟩ (.slice A8 ps8.length c8)).setCell ⟨g, 4, none⟩ (.slice B8 fs8.length d8)).setCell ⟨g, 5, none⟩ (.slice C8 vs8.length e8)).cell? ⟨tb, tq + 5, none⟩ = some (.slice C4 vs4.length e4))) := Hd (by
  have h := HC.out _ HZ7.out
  have hg := HG.out
  have htb : tb ≠ g := HTB.out
  refine ⟨?_, ?_, ?_, ?_, ?_, ?_, ?_⟩
  ·rw [six_other _ _ _ _ _ _ _ (by show w.heap.size ≠ g; omega)]; exact h.1
  ·rw [six_other _ _ _ _ _ _ _ (by show tb ≠ g; exact htb)]; exact h.2.1
  ·rw [six_other _ _ _ _ _ _ _ (by show tb ≠ g; exact htb)]; exact h.2.2.1
  ·rw [six_other _ _ _ _ _ _ _ (by show tb ≠ g; exact htb)]; exact h.2.2.2.1
  ·rw [six_other _ _ _ _ _ _ _ (by show tb ≠ g; exact htb)]; exact h.2.2.2.2.1
  ·rw [six_other _ _ _ _ _ _ _ (by show tb ≠ g; exact htb)]; exact h.2.2.2.2.2.1
  ·rw [six_other _ _ _ _ _ _ _ (by show tb ≠ g; exact htb)]; exact h.2.2.2.2.2.2)
 clear rb
 go_simp
 refine hK.out _ _ HCS.out (fun hHeld => ?_)
 clear hK Kx q0 q1 q2 q3 q4 q5 z0 z1 z2 z3 z4 z5 HCS
 try simp only [Act.put, pz1, pz2, pz3]
 refine wpAnyH_done (by kernel_rfl) ?_ _
 clear hHeld
 obtain ⟨r0, r1, r2, r3, r4, r5⟩ := cz6 HSET.out
 clear HSET
 go_wp2_with fail
 refine bodyPost_ret (v := .agg #[.int .i64 k8, .string s8, .int .i64 n8, .slice A8 ps8.length c8, .slice B8 fs8.length d8, .slice C8 vs8.length e8]) (by simp [results, Tryz.results38, go_sem, r0, r1, r2, r3, r4, r5]) rfl ?_
 exact ⟨[.int .i64 k8, .string s8, .int .i64 n8, .slice A8 ps8.length c8, .slice B8 fs8.length d8, .slice C8 vs8.length e8], rfl, HRS.out, HBS.out⟩
theorem row_arr9 {K : Nat → Prop} {w : World} (s : ByteArray) (n : Int) (ps : List Ty) (fs : FsT) (vs : VsT) (s3 : ByteArray) (n3 : Int) (ps3 : List Ty) (fs3 : FsT) (vs3 : VsT) {cs ds : List Value} (hr : RepT K w (.mk 11 s n ps fs vs) cs) (hp : RepT K w (.mk 9 s3 n3 ps3 fs3 vs3) ds) (hlo : ∀ b, K b → b < w.heap.size) (hf : formT (.mk 11 s n ps fs vs) = true) (hc : cntL ps ≤ 1000000) :
  Calls Tryz.prog 38 #[.agg cs.toArray, .agg ds.toArray] w (FdT K w (unionT (tyK 4 :: ps))) := by
 obtain ⟨u, rfl⟩ := form_11 hf
 have hfu := form_ps hf u (by simp [Ty.ps])
 have hcu := cntL_mem (l := [u]) (x := u) (by simp)
 have e0 : unionT (tyK 4 :: [u]) = unionT [u, tyK 4] := union_same fun x => by simp only [List.mem_cons, List.not_mem_nil, or_false]; exact or_comm
 rw [e0]
 clear e0 hf
 unfold FdT
 refine two_res hr hp fun A c B d C e A3 c3 B3 d3 C3 e3 w1 g h hcs hds => ?_
 subst hcs
 subst hds
 obtain ⟨HX, HY, HB1, HS1, HG, HW1, HR, -⟩ := h
 have HLO := Hd hlo
 clear hr hp hlo
 obtain ⟨_, _, _, _, _, _, he, -, hL, -, -⟩ := HR.out.inv
 simp only [cells6T, List.cons.injEq, Value.slice.injEq] at he
 obtain ⟨-, -, -, ⟨rfl, -, rfl⟩, -⟩ := he
 obtain ⟨tb, tq, hA, hKb, hat⟩ := hL.at (by simp)
 subst hA
 have HTB : Hid (tb ≠ g) := Hd (by have h1 := HLO.out tb hKb; have h2 := HG.out; omega)
 clear hKb
 obtain ⟨es, hes, hrq⟩ := hat 0 (by simp)
 simp only [List.getElem_cons_zero, Nat.zero_mul, Nat.add_zero] at hes hrq
 obtain ⟨k4, s4, n4, ps4, fs4, vs4⟩ := u
 obtain ⟨A4, c4, B4, d4, C4, e4, rfl, -⟩ := hrq.inv
 have HR3 := Hd hrq
 simp only [cells6T] at hes HR3
 have HC : Hid (∀ wx, Below w1.heap.size w1 wx → wx.cell? ⟨w.heap.size, 3, none⟩ = some (.slice (some ⟨tb, tq, none⟩) 1 c) ∧ (wx.cell? ⟨tb, tq, none⟩ = some (.int .i64 k4) ∧ wx.cell? ⟨tb, tq + 1, none⟩ = some (.string s4) ∧ wx.cell? ⟨tb, tq + 2, none⟩ = some (.int .i64 n4) ∧ wx.cell? ⟨tb, tq + 3, none⟩ = some (.slice A4 ps4.length c4) ∧ wx.cell? ⟨tb, tq + 4, none⟩ = some (.slice B4 fs4.length d4) ∧ wx.cell? ⟨tb, tq + 5, none⟩ = some (.slice C4 vs4.length e4))) := Hd fun wx hx => ⟨(HX.out wx hx).1.2.2.2.1, cell_stays hx (hes 0 _ rfl), cell_stays hx (hes 1 _ rfl), cell_stays hx (hes 2 _ rfl), cell_stays hx (hes 3 _ rfl), cell_stays hx (hes 4 _ rfl), cell_stays hx (hes 5 _ rfl)⟩
 have HFU : Hid (formT (.mk k4 s4 n4 ps4 fs4 vs4) = true ∧ cntT (.mk k4 s4 n4 ps4 fs4 vs4) ≤ 1000000) := Hd ⟨hfu, by omega⟩
 clear hfu hcu hc hL hat hes hrq
 generalize hU : unionT [.mk k4 s4 n4 ps4 fs4 vs4, tyK 4] = u8
 have HU := Hd hU
 clear hU
 simp only [List.length_cons, List.length_nil, Nat.zero_add] at HX HW1
 go_enter Tryz.func38, Tryz.ntmps38
 go_upto_region 1 with fail
 rw [← HW1.out, ← HG.out]
 obtain ⟨⟨x0, x1, x2, x3, x4, x5⟩, ⟨y0, y1, y2, y3, y4, y5⟩⟩ := HX.out _ (Below.refl _ _)
 go_upto_region 3 with fail
 clear x0 x1 x2 x3 x4 x5 y0 y1 y2 y3 y4 y5
 refine wp_region_held_drew (S := (fun w' => w'.cell? ⟨w.heap.size, 3, none⟩ = some (.slice (some ⟨tb, tq, none⟩) 1 c) ∧ (w'.cell? ⟨tb, tq, none⟩ = some (.int .i64 k4) ∧ w'.cell? ⟨tb, tq + 1, none⟩ = some (.string s4) ∧ w'.cell? ⟨tb, tq + 2, none⟩ = some (.int .i64 n4) ∧ w'.cell? ⟨tb, tq + 3, none⟩ = some (.slice A4 ps4.length c4) ∧ w'.cell? ⟨tb, tq + 4, none⟩ = some (.slice B4 fs4.length d4) ∧ w'.cell? ⟨tb, tq + 5, none⟩ = some (.slice C4 vs4.length e4)))) (by kernel_rfl) (HC.out _ (Below.refl _ _).drew) (fun hHeld => ?_)
 refine Plan.start [0, 1, 2, 3] ?_
 iterate 4 (refine Plan.tk (so rfl) hHeld ?_; try simp only [Act.put, pz1, pz2, pz3])
 refine Plan.done ?_
 refine wpAnyH_ready (rs := [4]) (by kernel_rfl) (by simp) ?_
 refine AllReadyH.cons (sd (some 26) rfl) (fun Kx hK => ?_) AllReadyH.nil
 go_simp
 refine (of_r13 4 _).mono ?_
 rintro e w5 ⟨rfl, hb⟩
 have HB5 := Hd ((Below.refl w1.heap.size w1).drew.trans hb)
 clear hb
 go_wp2_with fail
 refine hK.out _ _ (HC.out _ HB5.out) (fun hHeld => ?_)
 clear hK Kx
 try simp only [Act.put, pz1, pz2, pz3]
 refine wpAnyH_ready (rs := [5]) (by kernel_rfl) (by simp) ?_
 refine AllReadyH.cons (sd (some 27) rfl) (fun Kx hK => ?_) AllReadyH.nil
 go_simp
 generalize hW : World.alloc w5 (.cells #[.int .i64 k4, .string s4, .int .i64 n4, .slice A4 ps4.length c4, .slice B4 fs4.length d4, .slice C4 vs4.length e4, .int .i64 4, .string ⟨#[]⟩, .int .i64 0, .slice none 0 0, .slice none 0 0, .slice none 0 0] 26) = w6
 have hb : Below w5.heap.size w5 w6 := by rw [← hW]; exact (Below.refl _ _).alloc (Nat.le_refl _) _
 have hx : w6.heap[w5.heap.size]? = some (.cells #[.int .i64 k4, .string s4, .int .i64 n4, .slice A4 ps4.length c4, .slice B4 fs4.length d4, .slice C4 vs4.length e4, .int .i64 4, .string ⟨#[]⟩, .int .i64 0, .slice none 0 0, .slice none 0 0, .slice none 0 0] 26 (0, 0)) := by rw [← hW]; exact heap_alloc_new w5 _
 have HB6 := Hd (HB5.out.trans (hb.mono HB5.out.size))
 have KU := Hd (uni2_ref (HR3.out.later HB6.out) (rep_k K w6 4) hx HFU.out.1 (form_tyK (by decide) (by decide)) (by have := HFU.out.2; omega) (by rw [cnt_kind]; omega))
 have HL5 : Hid (w1.heap.size ≤ w5.heap.size ∧ w1.heap.size ≤ w6.heap.size) := Hd ⟨HB5.out.size, HB6.out.size⟩
 rw [HU.out] at KU
 clear hW hb hx
 refine hK.out _ _ (HC.out _ HB6.out) (fun hHeld => ?_)
 clear hK Kx
 try simp only [Act.put, pz1, pz2, pz3]
 refine wpAnyH_ready (rs := [6]) (by kernel_rfl) (by simp) ?_
 refine AllReadyH.cons (sd (some 28) rfl) (fun Kx hK => ?_) AllReadyH.nil
 go_simp
 refine KU.out.mono ?_
 rintro e w7 ⟨rs, rfl, hr7, hb⟩
 have HZ7 := Hd (HB6.out.trans (hb.mono HB6.out.size))
 have HB7 := Hd (HB1.out.trans (HZ7.out.mono HB1.out.size))
 have hr8 : RepT (fun b => K b ∨ g < b) w7 u8 rs := hr7.weak fun b h => by
  have h1 := HL5.out
  have h2 := HS1.out
  rcases h with h | h | h
  ·exact .inl h
  ·exact .inr (by omega)
  ·exact .inr (by omega)
 clear hr7 hb KU HU
 obtain ⟨k8, s8, n8, ps8, fs8, vs8⟩ := u8
 obtain ⟨A8, c8, B8, d8, C8, e8, rfl, -⟩ := hr8.inv
 have HRR := Hd hr8
 simp only [cells6T] at HRR ⊢
 clear hr8
 go_wp2_with fail
 refine hK.out _ _ (HC.out _ HZ7.out) (fun hHeld => ?_)
 clear hK Kx
 try simp only [Act.put, pz1, pz2, pz3]
 refine wpAnyH_ready (rs := [7]) (by kernel_rfl) (by simp) ?_
 refine AllReadyH.cons (sd none rfl) (fun Kx hK => ?_) AllReadyH.nil
 go_simp
 have rb := box_up HZ7.out (by have := HS1.out; omega) HY.out
 obtain ⟨q0, q1, q2, q3, q4, q5, z0, z1, z2, z3, z4, z5⟩ := qz6 rb
 have HSET := Hd (six_set rb (.int .i64 k8) (.string s8) (.int .i64 n8) (.slice A8 ps8.length c8) (.slice B8 fs8.length d8) (.slice C8 vs8.length e8))
 have HRS := Hd (ret_box HRR.out (fun b h => by have h1 := HLO.out b h; have h2 := HG.out; omega) (show w.heap.size ≤ g by have := HG.out; omega) (.int .i64 k8) (.string s8) (.int .i64 n8) (.slice A8 ps8.length c8) (.slice B8 fs8.length d8) (.slice C8 vs8.length e8))
 have HBS := Hd (set_six_below HB7.out (show w.heap.size ≤ g by have := HG.out; omega) (.int .i64 k8) (.string s8) (.int .i64 n8) (.slice A8 ps8.length c8) (.slice B8 fs8.length d8) (.slice C8 vs8.length e8))
 have HCS : Hid (((((((w7.setCell ⟨g, 0, none⟩ (.int .i64 k8)).setCell ⟨g, 1, none⟩ (.string s8)).setCell ⟨g, 2, none⟩ (.int .i64 n8)).setCell ⟨g, 3, none⟩ (.slice A8 ps8.length c8)).setCell ⟨g, 4, none⟩ (.slice B8 fs8.length d8)).setCell ⟨g, 5, none⟩ (.slice C8 vs8.length e8)).cell? ⟨w.heap.size, 3, none⟩ = some (.slice (some ⟨tb, tq, none⟩) 1 c) ∧ (((((((w7.setCell ⟨g, 0, none⟩ (.int .i64 k8)).setCell ⟨g, 1, none⟩ (.string s8)).setCell ⟨g, 2, none⟩ (.int .i64 n8)).setCell ⟨g, 3, none⟩ (.slice A8 ps8.length c8)).setCell ⟨g, 4, none⟩ (.slice B8 fs8.length d8)).setCell ⟨g, 5, none⟩ (.slice C8 vs8.length e8)).cell? ⟨tb, tq, none⟩ = some (.int .i64 k4) ∧ ((((((w7.setCell ⟨g, 0, none⟩ (.int .i64 k8)).setCell ⟨g, 1, none⟩ (.string s8)).setCell ⟨g, 2, none⟩ (.int .i64 n8)).setCell ⟨g, 3, none⟩ (.slice A8 ps8.length c8)).setCell ⟨g, 4, none⟩ (.slice B8 fs8.length d8)).setCell ⟨g, 5, none⟩ (.slice C8 vs8.length e8)).cell? ⟨tb, tq + 1, none⟩ = some (.string s4) ∧ ((((((w7.setCell ⟨g, 0, none⟩ (.int .i64 k8)).setCell ⟨g, 1, none⟩ (.string s8)).setCell ⟨g, 2, none⟩ (.int .i64 n8)).setCell ⟨g, 3, none⟩ (.slice A8 ps8.length c8)).setCell ⟨g, 4, none⟩ (.slice B8 fs8.length d8)).setCell ⟨g, 5, none⟩ (.slice C8 vs8.length e8)).cell? ⟨tb, tq + 2, none⟩ = some (.int .i64 n4) ∧ ((((((w7.setCell ⟨g, 0, none⟩ (.int .i64 k8)).setCell ⟨g, 1, none⟩ (.string s8)).setCell ⟨g, 2, none⟩ (.int .i64 n8)).setCell ⟨g, 3, none⟩ (.slice A8 ps8.length c8)).setCell ⟨g, 4, none⟩ (.slice B8 fs8.length d8)).setCell ⟨g, 5, none⟩ (.slice C8 vs8.length e8)).cell? ⟨tb, tq + 3, none⟩ = some (.slice A4 ps4.length c4) ∧ ((((((w7.setCell ⟨g, 0, none⟩ (.int .i64 k8)).setCell ⟨g, 1, none⟩ (.string s8)).setCell ⟨g, 2, none⟩ (.int .i64 n8)).setCell ⟨g, 3, none⟩ (.slice A8 ps8.length c8)).setCell ⟨g, 4, none⟩ (.slice B8 fs8.length d8)).setCell ⟨g, 5, none⟩ (.slice C8 vs8.length e8)).cell? ⟨tb, tq + 4, none⟩ = some (.slice B4 fs4.length d4) ∧ ((((((w7.setCell ⟨g, 0, none⟩ (.int .i64 k8)).setCell ⟨g, 1, none⟩ (.string s8)).setCell ⟨g, 2, none⟩ (.int .i64 n8)).setCell ⟨g, 3, none⟩ (.slice A8 ps8.length c8)).setCell ⟨g, 4, none⟩ (.slice B8 fs8.length d8)).setCell ⟨g, 5, none⟩ (.slice C8 vs8.length e8)).cell? ⟨tb, tq + 5, none⟩ = some (.slice C4 vs4.length e4))) := Hd (by
  have h := HC.out _ HZ7.out
  have hg := HG.out
  have htb : tb ≠ g := HTB.out
  refine ⟨?_, ?_, ?_, ?_, ?_, ?_, ?_⟩
  ·rw [six_other _ _ _ _ _ _ _ (by show w.heap.size ≠ g; omega)]; exact h.1
  ·rw [six_other _ _ _ _ _ _ _ (by show tb ≠ g; exact htb)]; exact h.2.1
  ·rw [six_other _ _ _ _ _ _ _ (by show tb ≠ g; exact htb)]; exact h.2.2.1
  ·rw [six_other _ _ _ _ _ _ _ (by show tb ≠ g; exact htb)]; exact h.2.2.2.1
  ·rw [six_other _ _ _ _ _ _ _ (by show tb ≠ g; exact htb)]; exact h.2.2.2.2.1
  ·rw [six_other _ _ _ _ _ _ _ (by show tb ≠ g; exact htb)]; exact h.2.2.2.2.2.1
  ·rw [six_other _ _ _ _ _ _ _ (by show tb ≠ g; exact htb)]; exact h.2.2.2.2.2.2)
 clear rb
 go_simp
 refine hK.out _ _ HCS.out (fun hHeld => ?_)
 clear hK Kx q0 q1 q2 q3 q4 q5 z0 z1 z2 z3 z4 z5 HCS
 try simp only [Act.put, pz1, pz2, pz3]
 refine wpAnyH_done (by kernel_rfl) ?_ _
 clear hHeld
 obtain ⟨r0, r1, r2, r3, r4, r5⟩ := cz6 HSET.out
 clear HSET
 go_wp2_with fail
 refine bodyPost_ret (v := .agg #[.int .i64 k8, .string s8, .int .i64 n8, .slice A8 ps8.length c8, .slice B8 fs8.length d8, .slice C8 vs8.length e8]) (by simp [results, Tryz.results38, go_sem, r0, r1, r2, r3, r4, r5]) rfl ?_
 exact ⟨[.int .i64 k8, .string s8, .int .i64 n8, .slice A8 ps8.length c8, .slice B8 fs8.length d8, .slice C8 vs8.length e8], rfl, HRS.out, HBS.out⟩
theorem row_num {K : Nat → Prop} {w : World} (s : ByteArray) (n : Int) (ps : List Ty) (fs : FsT) (vs : VsT) (s3 : ByteArray) (n3 : Int) (ps3 : List Ty) (fs3 : FsT) (vs3 : VsT) {cs ds : List Value} (hr : RepT K w (.mk 12 s n ps fs vs) cs) (hp : RepT K w (.mk 7 s3 n3 ps3 fs3 vs3) ds) (hlo : ∀ b, K b → b < w.heap.size) (hf : ∀ x ∈ ps, formT x = true) (hc : cntL ps ≤ 1000000) :
  Calls Tryz.prog 38 #[.agg cs.toArray, .agg ds.toArray] w (FdT K w (unionT (tyK 4 :: ps))) := by
 unfold FdT
 refine two_res hr hp fun A c B d C e A3 c3 B3 d3 C3 e3 w1 g h hcs hds => ?_
 subst hcs
 subst hds
 obtain ⟨HX, HY, HB1, HS1, HG, HW1, HR, -⟩ := h
 have HLO := Hd hlo
 clear hr hp hlo
 have hll := cntL_len ps
 have HFP : Hid ((∀ x ∈ tyK 4 :: ps, formT x = true) ∧ cntL (tyK 4 :: ps) ≤ 1000001 ∧ ps.length ≤ 1000000) := Hd ⟨fun x hx => by
  rcases List.mem_cons.1 hx with rfl | hx
  ·exact form_tyK (by decide) (by decide)
  ·exact hf x hx, by rw [cntL_cons, cnt_kind]; omega, by omega⟩
 obtain ⟨_, _, _, _, _, _, he, -, hL, -, -⟩ := HR.out.inv
 simp only [cells6T, List.cons.injEq, Value.slice.injEq] at he
 obtain ⟨-, -, -, ⟨rfl, -, rfl⟩, -⟩ := he
 have HL := Hd hL
 generalize hU : unionT (tyK 4 :: ps) = u8
 have HU := Hd hU
 clear hU hL hf hc hll
 go_enter Tryz.func38, Tryz.ntmps38
 go_upto_region 1 with fail
 rw [← HW1.out, ← HG.out]
 obtain ⟨⟨x0, x1, x2, x3, x4, x5⟩, ⟨y0, y1, y2, y3, y4, y5⟩⟩ := HX.out _ (Below.refl _ _)
 go_wp2_with fail
 refine (of_r13 4 _).mono ?_
 rintro e w2 ⟨rfl, hb2⟩
 have HB12 := Hd hb2
 clear hb2 x0 x1 x2 x3 x4 x5 y0 y1 y2 y3 y4 y5
 obtain ⟨w3, hw3⟩ : ∃ x, x = w2.alloc (.cells #[.int .i64 4, .string ⟨#[]⟩, .int .i64 0, .slice none 0 0, .slice none 0 0, .slice none 0 0] 26) := ⟨_, rfl⟩
 have HO3 : Hid (OutT K w2 w3 (.slice (some ⟨w2.heap.size, 0, none⟩) 1 1) [tyK 4] ∧ Below w2.heap.size w2 w3) := Hd (by
  rw [hw3]
  exact ⟨OutT.lit (rep_k K w2 4) (Nat.le_refl _) (heap_alloc_new w2 _), (Below.refl _ _).alloc (Nat.le_refl _) _⟩)
 have HW3 := Hd hw3
 clear hw3
 obtain ⟨⟨x0, x1, x2, x3, x4, x5⟩, -⟩ := HX.out w3 (HB12.out.trans (HO3.out.2.mono HB12.out.size))
 go_upto_region 10 with fail
 rw [← HW3.out]
 go_wp2_with (at_builtin; refine wpList_plain rfl fun Kx hK => ?_; go_loud (refine wp_append_many (w0 := w2) (ts := [tyK 4]) (l := ps) _ _ rfl (by rfl) (by rfl) HO3.out.1 (HL.out.later HB12.out) HO3.out.2 (by have := HFP.out.2.2; simp only [List.length_cons, List.length_nil]; omega) ?_))
 intro v4 w4 ho4 hb4 _
 refine hK _ _ ?_
 clear hK Kx x0 x1 x2 x3 x4 x5
 have ho5 : OutT K w2 w4 v4 (tyK 4 :: ps) := ho4
 obtain ⟨Ar, cr, rfl, hl⟩ := ho5.list (fun b h => by have h1 := HLO.out b h; have h2 := HB1.out.size; have h3 := HB12.out.size; omega) hb4 (by have := HFP.out.2.2; simp only [List.length_cons]; omega)
 have hl2 := hl.both
 have KU := Hd (uniL_any hl2 (fun b h => h.2) HFP.out.1 (by have := HFP.out.2.1; omega))
 unfold FdT at KU
 rw [HU.out] at KU
 have HB24 := Hd hb4
 clear ho4 ho5 hl hl2 hb4
 go_wp2_with fail
 refine KU.out.mono ?_
 rintro e w7 ⟨rs, rfl, hr7, hb7⟩
 have HZ7 := Hd (HB12.out.trans ((HB24.out.trans (hb7.mono HB24.out.size)).mono HB12.out.size))
 have HB7 := Hd (HB1.out.trans (HZ7.out.mono HB1.out.size))
 clear hb7 KU
 have rb := box_up HZ7.out (by have := HS1.out; omega) HY.out
 have hr8 : RepT (fun b => K b ∨ g < b) w7 u8 rs := hr7.weak fun b h => by
  have h1 := HS1.out
  have h2 := HB12.out.size
  have h3 := HB24.out.size
  rcases h with ⟨h | h, -⟩ | h
  ·exact .inl h
  ·exact .inr (by omega)
  ·exact .inr (by omega)
 obtain ⟨k8, s8, n8, ps8, fs8, vs8⟩ := u8
 obtain ⟨A8, c8, B8, d8, C8, e8, rfl, -⟩ := hr8.inv
 have HRR := Hd hr8
 simp only [cells6T] at HRR ⊢
 clear hr7 hr8
 obtain ⟨q0, q1, q2, q3, q4, q5, z0, z1, z2, z3, z4, z5⟩ := qz6 rb
 have RBX := Hd rb
 clear rb
 go_wp2_with fail
 obtain ⟨r0, r1, r2, r3, r4, r5⟩ := cz6 (six_set RBX.out (.int .i64 k8) (.string s8) (.int .i64 n8) (.slice A8 ps8.length c8) (.slice B8 fs8.length d8) (.slice C8 vs8.length e8))
 clear q0 q1 q2 q3 q4 q5 z0 z1 z2 z3 z4 z5 RBX
 refine bodyPost_ret (v := .agg #[.int .i64 k8, .string s8, .int .i64 n8, .slice A8 ps8.length c8, .slice B8 fs8.length d8, .slice C8 vs8.length e8]) (by simp [results, Tryz.results38, go_sem, r0, r1, r2, r3, r4, r5]) rfl ?_
 clear r0 r1 r2 r3 r4 r5
 exact ⟨[.int .i64 k8, .string s8, .int .i64 n8, .slice A8 ps8.length c8, .slice B8 fs8.length d8, .slice C8 vs8.length e8], rfl, ret_box HRR.out (fun b h => by have h1 := HLO.out b h; have h2 := HG.out; omega) (by have := HG.out; omega) _ _ _ _ _ _, set_six_below HB7.out (by have := HG.out; omega) _ _ _ _ _ _⟩
theorem form_9 {s : ByteArray} {n : Int} {ps : List Ty} {fs : FsT} {vs : VsT} (h : formT (.mk 9 s n ps fs vs) = true) : 0 ≤ n := by
 rw [formT_mk] at h
 simp only [Bool.and_eq_true] at h
 have h1 := h.1.2
 unfold selfB at h1
 rw [if_pos rfl] at h1
 simpa using h1
theorem row_ref {K : Nat → Prop} {w : World} {t q : Ty} {cs ds : List Value} (hr : RepT K w t cs) (hp : RepT K w q ds) (hlo : ∀ b, K b → b < w.heap.size) (hft : formT t = true) (hfq : formT q = true) (hc : cntT t ≤ 1000000) :
  Calls Tryz.prog 38 #[.agg cs.toArray, .agg ds.toArray] w (FdT K w (rowT t q)) := by
 obtain ⟨k, s, n, ps, fs, vs⟩ := t
 obtain ⟨k3, s3, n3, ps3, fs3, vs3⟩ := q
 rw [cntT_mk] at hc
 have hfp := form_ps hft
 unfold rowT
 have e1 : Ty.k (.mk k s n ps fs vs) = k := rfl
 have e2 : Ty.k (.mk k3 s3 n3 ps3 fs3 vs3) = k3 := rfl
 have e3 : Ty.ps (.mk k s n ps fs vs) = ps := rfl
 have e4 : Ty.n (.mk k3 s3 n3 ps3 fs3 vs3) = n3 := rfl
 rw [e1, e2, e3, e4]
 clear e1 e2 e4
 by_cases h7 : k3 = 7
 ·subst h7
  by_cases h11 : k = 11
  ·subst h11; rw [if_pos ⟨rfl, .inl rfl⟩]; exact row_arr7 _ _ _ _ _ _ _ _ _ _ hr hp hlo hft (by omega)
  rw [if_neg (fun h => h11 h.1), if_neg (fun h => by have := h.2; omega)]
  by_cases h12 : k = 12
  ·subst h12; rw [if_pos ⟨rfl, rfl⟩]; exact row_num _ _ _ _ _ _ _ _ _ _ hr hp hlo hfp (by omega)
  rw [if_neg (fun h => h12 h.1)]
  exact row_nd _ _ _ _ _ _ _ _ _ _ _ hr hp hlo h11 h12
 by_cases h9 : k3 = 9
 ·subst h9
  by_cases h11 : k = 11
  ·subst h11; rw [if_pos ⟨rfl, .inr rfl⟩]; exact row_arr9 _ _ _ _ _ _ _ _ _ _ hr hp hlo hft (by omega)
  rw [if_neg (fun h => h11 h.1)]
  by_cases h12 : k = 12
  ·subst h12; rw [if_pos ⟨rfl, rfl⟩]; exact row_at _ _ _ _ _ _ _ _ _ _ hr hp hlo (form_9 hfq)
  rw [if_neg (fun h => h12 h.1), if_neg (fun h => h12 h.1)]
  exact row_ne _ _ _ _ _ _ _ _ _ _ _ hr hp hlo h11 h12
 rw [if_neg (fun h => by rcases h.2 with h | h <;> omega), if_neg (fun h => h9 h.2), if_neg (fun h => h7 h.2)]
 by_cases h11 : k = 11
 ·subst h11; exact row_na _ _ _ _ _ _ _ _ _ _ _ hr hp hlo h7 h9
 by_cases h12 : k = 12
 ·subst h12; exact row_nb _ _ _ _ _ _ _ _ _ _ _ hr hp hlo h7 h9
 exact row_nc _ _ _ _ _ _ _ _ _ _ _ _ hr hp hlo h7 h9 h11 h12
end Go.Proofs.YteakkjhcdpbidaaGreatDoor
