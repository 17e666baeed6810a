import Derived.Test.YtfchnfnifpopnaaGreatDoorMa0
import Derived.Test.YtfchnfnifpopnaaGreatDoorMa18
import Derived.Test.YtfchnfnifpopnaaGreatDoorMa25
import Derived.Shelf.SlSortCmp.NoneTotal
namespace Go.Proofs.YtfchnfnifpopnaaGreatDoor
open Go.RowKit
set_option maxRecDepth 100000 in
set_option maxHeartbeats 32000000 in
theorem at_i1 (hU : UnionP) {K : Nat → Prop} {w : World} (s : ByteArray) (n : Int) (ps : List Ty) (fs : List (ByteArray × Int × Ty)) (vs : List (ByteArray × List Ty)) (s3 : ByteArray) (m : Nat) (ps3 : List Ty) (fs3 : List (ByteArray × Int × Ty)) (vs3 : List (ByteArray × List Ty)) {cs ds : List Value} (hr : RepT K w (.mk 12 s n ps fs vs) cs) (hp : RepT K w (.mk 9 s3 (m : Int) ps3 fs3 vs3) ds) (hlo : ∀ b, K b → b < w.heap.size) (hm : m < ps.length) :
  Calls Tryz.prog 19 #[.agg cs.toArray, .agg ds.toArray] w (TyPost K w (ps[m])) := by
 generalize hu : ps[m] = u
 obtain ⟨k2, s2, n2, ps2, fs2, vs2⟩ := u
 refine at_pre hr hp hlo fun A c A' c' A'' c'' A3 c3 B3 d3 C3 e3 w1 g hcs hds h => ?_
 clear hr hp
 subst hcs hds
 obtain ⟨HB1, HS1, HX0, HY0, HX1, HW1, HG, HR, HP, HL, HL3, HLO1, hlp, hlp3⟩ := h
 have HLO := Lib.hid hlo
 have HU := Lib.hid hU
 have HUE := Lib.hid hu
 have hb1 := HB1.out
 have hs1 := HS1.out
 have hx0 := HX0.out
 have hy0 := HY0.out
 have hr := HR.out
 have hp := HP.out
 have hL := HL.out
 have hL3 := HL3.out
 have hx1 := HX1.out
 have hw1 := HW1.out
 have hgg := HG.out
 have i1 : (0 : Int) ≤ (m : Int) := by omega
 have i2 : decide ((m : Int) < 0) = false := decide_eq_false (by omega)
 have i3 : decide ((ps.length : Int) ≤ (m : Int)) = false := decide_eq_false (by omega)
 have i4 : decide (ps.length ≤ m) = false := decide_eq_false (by omega)
 have i5 : (m : Int) < (ps.length : Int) := by omega
 obtain ⟨b, o, hA, _, hat⟩ := hL.at (by omega)
 subst hA
 obtain ⟨dq, hdq, hrep⟩ := hat m hm
 rw [hu] at hrep
 obtain ⟨Aq, cq, Ag, cg, Ah, ch, rfl, -⟩ := hrep.inv
 have HQ := Lib.hid (hrep.later hb1)
 have z0 : w1.cell? ⟨b, o + m * 6, none⟩ = some (.int .i64 k2) := cell_stays hb1 (hdq 0 _ rfl)
 have z1 : w1.cell? ⟨b, o + m * 6 + 1, none⟩ = some (.string s2) := cell_stays hb1 (hdq 1 _ rfl)
 have z2 : w1.cell? ⟨b, o + m * 6 + 2, none⟩ = some (.int .i64 n2) := cell_stays hb1 (hdq 2 _ rfl)
 have z3 : w1.cell? ⟨b, o + m * 6 + 3, none⟩ = some (.slice Aq ps2.length cq) := cell_stays hb1 (hdq 3 _ rfl)
 have z4 : w1.cell? ⟨b, o + m * 6 + 4, none⟩ = some (.slice Ag fs2.length cg) := cell_stays hb1 (hdq 4 _ rfl)
 have z5 : w1.cell? ⟨b, o + m * 6 + 5, none⟩ = some (.slice Ah vs2.length ch) := cell_stays hb1 (hdq 5 _ rfl)
 clear hat hdq hrep HUE
 unfold TyPost
 clear hr hp hlo hU hb1 hs1 hx0 hy0 hx1 hw1 hgg hL hL3 hu
 go_enter Tryz.func19, Tryz.ntmps19
 go_upto_region 1 with fail
 rw [← HW1.out, ← HG.out]
 obtain ⟨x0, x1, x2, x3, x4, x5⟩ := cz6 HX0.out
 obtain ⟨y0, y1, y2, y3, y4, y5⟩ := cz6 HY0.out
 go_upto_region 17 with fail
 have rb := HX1.out
 obtain ⟨q0, q1, q2, q3, q4, q5, z0, z1, z2, z3, z4, z5⟩ := qz6 rb
 have RBX := Lib.hid rb
 clear rb
 go_wp2_with fail
 have rs := six_set RBX.out (.int .i64 k2) (.string s2) (.int .i64 n2) (.slice Aq ps2.length cq) (.slice Ag fs2.length cg) (.slice Ah vs2.length ch)
 obtain ⟨r0, r1, r2, r3, r4, r5⟩ := cz6 rs
 clear q0 q1 q2 q3 q4 q5 z0 z1 z2 z3 z4 z5 RBX rs
 refine bodyPost_ret (v := .agg #[.int .i64 k2, .string s2, .int .i64 n2, .slice Aq ps2.length cq, .slice Ag fs2.length cg, .slice Ah vs2.length ch]) (by simp [results, Tryz.results19, go_sem, r0, r1, r2, r3, r4, r5]) rfl ?_
 clear r0 r1 r2 r3 r4 r5
 exact ⟨[.int .i64 k2, .string s2, .int .i64 n2, .slice Aq ps2.length cq, .slice Ag fs2.length cg, .slice Ah vs2.length ch], rfl, ret_box (HQ.out.weak fun b h => Or.inl h) (fun b h => by have := HLO.out b h; have := HG.out; omega) (by have := HG.out; omega) _ _ _ _ _ _, set_six_below (HB1.out) (by have := HG.out; omega) _ _ _ _ _ _⟩
set_option maxRecDepth 100000 in
set_option maxHeartbeats 32000000 in
theorem at_u0 (hU : UnionP) {K : Nat → Prop} {w : World} (k : Int) (s : ByteArray) (n : Int) (ps : List Ty) (fs : List (ByteArray × Int × Ty)) (vs : List (ByteArray × List Ty)) (k3 : Int) (s3 : ByteArray) (n3 : Int) (ps3 : List Ty) (fs3 : List (ByteArray × Int × Ty)) (vs3 : List (ByteArray × List Ty)) {cs ds : List Value} (hr : RepT K w (.mk k s n ps fs vs) cs) (hp : RepT K w (.mk k3 s3 n3 ps3 fs3 vs3) ds) (hlo : ∀ b, K b → b < w.heap.size) (h1 : k3 ≠ 1) (h15 : k3 ≠ 15) (h3 : k ≠ 3) (h4 : k ≠ 1) (h5 : k ≠ 15) (h6 : k ≠ 14) (h7 : k ≠ 11) (h8 : k ≠ 12) :
  Calls Tryz.prog 19 #[.agg cs.toArray, .agg ds.toArray] w (TyPost K w (tyK 2)) := by
 generalize hu : tyK 2 = u
 obtain ⟨k2, s2, n2, ps2, fs2, vs2⟩ := u
 refine at_pre hr hp hlo fun A c A' c' A'' c'' A3 c3 B3 d3 C3 e3 w1 g hcs hds h => ?_
 clear hr hp
 subst hcs hds
 obtain ⟨HB1, HS1, HX0, HY0, HX1, HW1, HG, HR, HP, HL, HL3, HLO1, hlp, hlp3⟩ := h
 have HLO := Lib.hid hlo
 have HU := Lib.hid hU
 have HUE := Lib.hid hu
 have hb1 := HB1.out
 have hs1 := HS1.out
 have hx0 := HX0.out
 have hy0 := HY0.out
 have hr := HR.out
 have hp := HP.out
 have hL := HL.out
 have hL3 := HL3.out
 have hx1 := HX1.out
 have hw1 := HW1.out
 have hgg := HG.out
 have f_k3_1 : (k3 == 1) = false := beq_eq_false_iff_ne.2 (by omega)
 have f_k3_15 : (k3 == 15) = false := beq_eq_false_iff_ne.2 (by omega)
 have f_k_3 : (k == 3) = false := beq_eq_false_iff_ne.2 (by omega)
 have f_k_1 : (k == 1) = false := beq_eq_false_iff_ne.2 (by omega)
 have f_k_15 : (k == 15) = false := beq_eq_false_iff_ne.2 (by omega)
 have f_k_14 : (k == 14) = false := beq_eq_false_iff_ne.2 (by omega)
 have f_k_11 : (k == 11) = false := beq_eq_false_iff_ne.2 (by omega)
 have f_k_12 : (k == 12) = false := beq_eq_false_iff_ne.2 (by omega)
 unfold TyPost
 clear hr hp hlo hU hb1 hs1 hx0 hy0 hx1 hw1 hgg hL hL3 hu
 go_enter Tryz.func19, Tryz.ntmps19
 go_upto_region 1 with fail
 rw [← HW1.out, ← HG.out]
 obtain ⟨x0, x1, x2, x3, x4, x5⟩ := cz6 HX0.out
 obtain ⟨y0, y1, y2, y3, y4, y5⟩ := cz6 HY0.out
 go_upto_region 20 with fail
 have rb := HX1.out
 obtain ⟨q0, q1, q2, q3, q4, q5, z0, z1, z2, z3, z4, z5⟩ := qz6 rb
 have RBX := Lib.hid rb
 clear rb
 go_wp2_with fail
 have rs := six_set RBX.out (.int .i64 2) (.string ⟨#[]⟩) (.int .i64 0) (.slice none 0 0) (.slice none 0 0) (.slice none 0 0)
 obtain ⟨r0, r1, r2, r3, r4, r5⟩ := cz6 rs
 clear q0 q1 q2 q3 q4 q5 z0 z1 z2 z3 z4 z5 RBX rs
 refine bodyPost_ret (v := .agg #[.int .i64 2, .string ⟨#[]⟩, .int .i64 0, .slice none 0 0, .slice none 0 0, .slice none 0 0]) (by simp [results, Tryz.results19, go_sem, r0, r1, r2, r3, r4, r5]) rfl ?_
 clear r0 r1 r2 r3 r4 r5
 rw [← HUE.out]
 exact ⟨[.int .i64 2, .string ⟨#[]⟩, .int .i64 0, .slice none 0 0, .slice none 0 0, .slice none 0 0], rfl, ret_box (rep_k (fun b => K b ∨ g < b) w1 2) (fun b h => by have := HLO.out b h; have := HG.out; omega) (by have := HG.out; omega) _ _ _ _ _ _, set_six_below (HB1.out) (by have := HG.out; omega) _ _ _ _ _ _⟩
set_option maxRecDepth 100000 in
set_option maxHeartbeats 32000000 in
theorem at_u1 (hU : UnionP) {K : Nat → Prop} {w : World} (s : ByteArray) (n : Int) (ps : List Ty) (fs : List (ByteArray × Int × Ty)) (vs : List (ByteArray × List Ty)) (k3 : Int) (s3 : ByteArray) (n3 : Int) (ps3 : List Ty) (fs3 : List (ByteArray × Int × Ty)) (vs3 : List (ByteArray × List Ty)) {cs ds : List Value} (hr : RepT K w (.mk 14 s n ps fs vs) cs) (hp : RepT K w (.mk k3 s3 n3 ps3 fs3 vs3) ds) (hlo : ∀ b, K b → b < w.heap.size) (h1 : k3 ≠ 1) (h15 : k3 ≠ 15) (h10 : k3 ≠ 10) :
  Calls Tryz.prog 19 #[.agg cs.toArray, .agg ds.toArray] w (TyPost K w (tyK 2)) := by
 generalize hu : tyK 2 = u
 obtain ⟨k2, s2, n2, ps2, fs2, vs2⟩ := u
 refine at_pre hr hp hlo fun A c A' c' A'' c'' A3 c3 B3 d3 C3 e3 w1 g hcs hds h => ?_
 clear hr hp
 subst hcs hds
 obtain ⟨HB1, HS1, HX0, HY0, HX1, HW1, HG, HR, HP, HL, HL3, HLO1, hlp, hlp3⟩ := h
 have HLO := Lib.hid hlo
 have HU := Lib.hid hU
 have HUE := Lib.hid hu
 have hb1 := HB1.out
 have hs1 := HS1.out
 have hx0 := HX0.out
 have hy0 := HY0.out
 have hr := HR.out
 have hp := HP.out
 have hL := HL.out
 have hL3 := HL3.out
 have hx1 := HX1.out
 have hw1 := HW1.out
 have hgg := HG.out
 have f_k3_1 : (k3 == 1) = false := beq_eq_false_iff_ne.2 (by omega)
 have f_k3_15 : (k3 == 15) = false := beq_eq_false_iff_ne.2 (by omega)
 have f_k3_10 : (k3 == 10) = false := beq_eq_false_iff_ne.2 (by omega)
 unfold TyPost
 clear hr hp hlo hU hb1 hs1 hx0 hy0 hx1 hw1 hgg hL hL3 hu
 go_enter Tryz.func19, Tryz.ntmps19
 go_upto_region 1 with fail
 rw [← HW1.out, ← HG.out]
 obtain ⟨x0, x1, x2, x3, x4, x5⟩ := cz6 HX0.out
 obtain ⟨y0, y1, y2, y3, y4, y5⟩ := cz6 HY0.out
 go_upto_region 20 with fail
 have rb := HX1.out
 obtain ⟨q0, q1, q2, q3, q4, q5, z0, z1, z2, z3, z4, z5⟩ := qz6 rb
 have RBX := Lib.hid rb
 clear rb
 go_wp2_with fail
 have rs := six_set RBX.out (.int .i64 2) (.string ⟨#[]⟩) (.int .i64 0) (.slice none 0 0) (.slice none 0 0) (.slice none 0 0)
 obtain ⟨r0, r1, r2, r3, r4, r5⟩ := cz6 rs
 clear q0 q1 q2 q3 q4 q5 z0 z1 z2 z3 z4 z5 RBX rs
 refine bodyPost_ret (v := .agg #[.int .i64 2, .string ⟨#[]⟩, .int .i64 0, .slice none 0 0, .slice none 0 0, .slice none 0 0]) (by simp [results, Tryz.results19, go_sem, r0, r1, r2, r3, r4, r5]) rfl ?_
 clear r0 r1 r2 r3 r4 r5
 rw [← HUE.out]
 exact ⟨[.int .i64 2, .string ⟨#[]⟩, .int .i64 0, .slice none 0 0, .slice none 0 0, .slice none 0 0], rfl, ret_box (rep_k (fun b => K b ∨ g < b) w1 2) (fun b h => by have := HLO.out b h; have := HG.out; omega) (by have := HG.out; omega) _ _ _ _ _ _, set_six_below (HB1.out) (by have := HG.out; omega) _ _ _ _ _ _⟩
set_option maxRecDepth 100000 in
set_option maxHeartbeats 32000000 in
theorem at_u2 (hU : UnionP) {K : Nat → Prop} {w : World} (s : ByteArray) (n : Int) (ps : List Ty) (fs : List (ByteArray × Int × Ty)) (vs : List (ByteArray × List Ty)) (k3 : Int) (s3 : ByteArray) (n3 : Int) (ps3 : List Ty) (fs3 : List (ByteArray × Int × Ty)) (vs3 : List (ByteArray × List Ty)) {cs ds : List Value} (hr : RepT K w (.mk 11 s n ps fs vs) cs) (hp : RepT K w (.mk k3 s3 n3 ps3 fs3 vs3) ds) (hlo : ∀ b, K b → b < w.heap.size) (h1 : k3 ≠ 1) (h15 : k3 ≠ 15) (h7 : k3 ≠ 7) (h9 : k3 ≠ 9) :
  Calls Tryz.prog 19 #[.agg cs.toArray, .agg ds.toArray] w (TyPost K w (tyK 2)) := by
 generalize hu : tyK 2 = u
 obtain ⟨k2, s2, n2, ps2, fs2, vs2⟩ := u
 refine at_pre hr hp hlo fun A c A' c' A'' c'' A3 c3 B3 d3 C3 e3 w1 g hcs hds h => ?_
 clear hr hp
 subst hcs hds
 obtain ⟨HB1, HS1, HX0, HY0, HX1, HW1, HG, HR, HP, HL, HL3, HLO1, hlp, hlp3⟩ := h
 have HLO := Lib.hid hlo
 have HU := Lib.hid hU
 have HUE := Lib.hid hu
 have hb1 := HB1.out
 have hs1 := HS1.out
 have hx0 := HX0.out
 have hy0 := HY0.out
 have hr := HR.out
 have hp := HP.out
 have hL := HL.out
 have hL3 := HL3.out
 have hx1 := HX1.out
 have hw1 := HW1.out
 have hgg := HG.out
 have f_k3_1 : (k3 == 1) = false := beq_eq_false_iff_ne.2 (by omega)
 have f_k3_15 : (k3 == 15) = false := beq_eq_false_iff_ne.2 (by omega)
 have f_k3_7 : (k3 == 7) = false := beq_eq_false_iff_ne.2 (by omega)
 have f_k3_9 : (k3 == 9) = false := beq_eq_false_iff_ne.2 (by omega)
 unfold TyPost
 clear hr hp hlo hU hb1 hs1 hx0 hy0 hx1 hw1 hgg hL hL3 hu
 go_enter Tryz.func19, Tryz.ntmps19
 go_upto_region 1 with fail
 rw [← HW1.out, ← HG.out]
 obtain ⟨x0, x1, x2, x3, x4, x5⟩ := cz6 HX0.out
 obtain ⟨y0, y1, y2, y3, y4, y5⟩ := cz6 HY0.out
 go_upto_region 20 with fail
 have rb := HX1.out
 obtain ⟨q0, q1, q2, q3, q4, q5, z0, z1, z2, z3, z4, z5⟩ := qz6 rb
 have RBX := Lib.hid rb
 clear rb
 go_wp2_with fail
 have rs := six_set RBX.out (.int .i64 2) (.string ⟨#[]⟩) (.int .i64 0) (.slice none 0 0) (.slice none 0 0) (.slice none 0 0)
 obtain ⟨r0, r1, r2, r3, r4, r5⟩ := cz6 rs
 clear q0 q1 q2 q3 q4 q5 z0 z1 z2 z3 z4 z5 RBX rs
 refine bodyPost_ret (v := .agg #[.int .i64 2, .string ⟨#[]⟩, .int .i64 0, .slice none 0 0, .slice none 0 0, .slice none 0 0]) (by simp [results, Tryz.results19, go_sem, r0, r1, r2, r3, r4, r5]) rfl ?_
 clear r0 r1 r2 r3 r4 r5
 rw [← HUE.out]
 exact ⟨[.int .i64 2, .string ⟨#[]⟩, .int .i64 0, .slice none 0 0, .slice none 0 0, .slice none 0 0], rfl, ret_box (rep_k (fun b => K b ∨ g < b) w1 2) (fun b h => by have := HLO.out b h; have := HG.out; omega) (by have := HG.out; omega) _ _ _ _ _ _, set_six_below (HB1.out) (by have := HG.out; omega) _ _ _ _ _ _⟩
set_option maxRecDepth 100000 in
set_option maxHeartbeats 32000000 in
theorem at_u3 (hU : UnionP) {K : Nat → Prop} {w : World} (s : ByteArray) (n : Int) (ps : List Ty) (fs : List (ByteArray × Int × Ty)) (vs : List (ByteArray × List Ty)) (k3 : Int) (s3 : ByteArray) (n3 : Int) (ps3 : List Ty) (fs3 : List (ByteArray × Int × Ty)) (vs3 : List (ByteArray × List Ty)) {cs ds : List Value} (hr : RepT K w (.mk 12 s n ps fs vs) cs) (hp : RepT K w (.mk k3 s3 n3 ps3 fs3 vs3) ds) (hlo : ∀ b, K b → b < w.heap.size) (h1 : k3 ≠ 1) (h15 : k3 ≠ 15) (h7 : k3 ≠ 7) (h9 : k3 ≠ 9) :
  Calls Tryz.prog 19 #[.agg cs.toArray, .agg ds.toArray] w (TyPost K w (tyK 2)) := by
 generalize hu : tyK 2 = u
 obtain ⟨k2, s2, n2, ps2, fs2, vs2⟩ := u
 refine at_pre hr hp hlo fun A c A' c' A'' c'' A3 c3 B3 d3 C3 e3 w1 g hcs hds h => ?_
 clear hr hp
 subst hcs hds
 obtain ⟨HB1, HS1, HX0, HY0, HX1, HW1, HG, HR, HP, HL, HL3, HLO1, hlp, hlp3⟩ := h
 have HLO := Lib.hid hlo
 have HU := Lib.hid hU
 have HUE := Lib.hid hu
 have hb1 := HB1.out
 have hs1 := HS1.out
 have hx0 := HX0.out
 have hy0 := HY0.out
 have hr := HR.out
 have hp := HP.out
 have hL := HL.out
 have hL3 := HL3.out
 have hx1 := HX1.out
 have hw1 := HW1.out
 have hgg := HG.out
 have f_k3_1 : (k3 == 1) = false := beq_eq_false_iff_ne.2 (by omega)
 have f_k3_15 : (k3 == 15) = false := beq_eq_false_iff_ne.2 (by omega)
 have f_k3_7 : (k3 == 7) = false := beq_eq_false_iff_ne.2 (by omega)
 have f_k3_9 : (k3 == 9) = false := beq_eq_false_iff_ne.2 (by omega)
 unfold TyPost
 clear hr hp hlo hU hb1 hs1 hx0 hy0 hx1 hw1 hgg hL hL3 hu
 go_enter Tryz.func19, Tryz.ntmps19
 go_upto_region 1 with fail
 rw [← HW1.out, ← HG.out]
 obtain ⟨x0, x1, x2, x3, x4, x5⟩ := cz6 HX0.out
 obtain ⟨y0, y1, y2, y3, y4, y5⟩ := cz6 HY0.out
 go_upto_region 20 with fail
 have rb := HX1.out
 obtain ⟨q0, q1, q2, q3, q4, q5, z0, z1, z2, z3, z4, z5⟩ := qz6 rb
 have RBX := Lib.hid rb
 clear rb
 go_wp2_with fail
 have rs := six_set RBX.out (.int .i64 2) (.string ⟨#[]⟩) (.int .i64 0) (.slice none 0 0) (.slice none 0 0) (.slice none 0 0)
 obtain ⟨r0, r1, r2, r3, r4, r5⟩ := cz6 rs
 clear q0 q1 q2 q3 q4 q5 z0 z1 z2 z3 z4 z5 RBX rs
 refine bodyPost_ret (v := .agg #[.int .i64 2, .string ⟨#[]⟩, .int .i64 0, .slice none 0 0, .slice none 0 0, .slice none 0 0]) (by simp [results, Tryz.results19, go_sem, r0, r1, r2, r3, r4, r5]) rfl ?_
 clear r0 r1 r2 r3 r4 r5
 rw [← HUE.out]
 exact ⟨[.int .i64 2, .string ⟨#[]⟩, .int .i64 0, .slice none 0 0, .slice none 0 0, .slice none 0 0], rfl, ret_box (rep_k (fun b => K b ∨ g < b) w1 2) (fun b h => by have := HLO.out b h; have := HG.out; omega) (by have := HG.out; omega) _ _ _ _ _ _, set_six_below (HB1.out) (by have := HG.out; omega) _ _ _ _ _ _⟩
set_option maxRecDepth 100000 in
set_option maxHeartbeats 16000000 in
theorem comp_long {K : Nat → Prop} {w0 w : World} {g c : Nat} {s : List Ty} (h : InT K w0 w g c s) (hb : Below w0.heap.size w0 w) (hg : w0.heap.size ≤ g) (hs : 2 ≤ s.length) (hbd : s.length ≤ 1099511627776) :
  Calls Tryz.prog 55 #[.slice (some ⟨g, 0, none⟩) s.length c, .func (.func 56) #[] #[]] w fun e w' => e = .returned (.slice (some ⟨g, 0, none⟩) (dedupT s).length c) ∧ Below w0.heap.size w0 w' ∧ InT K w0 w' g c (dedupT s) := by
 have H0 := Lib.hid (And.intro h hb)
 have HG := Lib.hid hg
 have HB := Lib.hid hbd
 have HS := Lib.hid hs
 have t2 : decide ((s.length : Int) < 2) = false := by simp; omega
 have hcap := h.le
 clear h hb hg hbd
 go_enter Tryz.func55, Tryz.ntmps55
 go_wp2_with fail
 go_loopw [5] (fun v wr => ∃ (m : Nat), m + 1 ≤ s.length ∧ v = .int .i64 ((m + 1 : Nat) : Int) ∧ dedupT (s.take (m + 1)) = s.take (m + 1) ∧ InT K w0 wr g c s ∧ Below w0.heap.size w0 wr) (fun v _ => s.length - (intOf v).toNat)
 case atStart => exact ⟨0, by omega, rfl, by match s with | [] => rfl | _ :: _ => rfl, H0.out⟩
 case round =>
  obtain ⟨m, hm, rfl, hdd, hin, hbr⟩ := hrel
  have HR := Lib.hid (And.intro hdd (And.intro hin hbr))
  by_cases hlt : m + 1 < s.length
  ·have t1 : decide (((m + 1 : Nat) : Int) < (s.length : Int)) = true := by simp; omega
   obtain ⟨p0, p1, p2, p3, p4, p5, p6, p7, p8, p9, pa, pb, hp, hrp⟩ := hin.six hlt
   obtain ⟨q0, q1, q2, q3, q4, q5, q6, q7, q8, q9, qa, qb, hq, hrq⟩ := hin.six (i := m) (by omega)
   have KE : Hid (∀ wx, Below wr.heap.size wr wx → Calls Tryz.prog 56 #[.agg #[.int .i64 p0, .string p1, .int .i64 p2, .slice p3 p4 p5, .slice p6 p7 p8, .slice p9 pa pb], .agg #[.int .i64 q0, .string q1, .int .i64 q2, .slice q3 q4 q5, .slice q6 q7 q8, .slice q9 qa qb]] wx fun e w' => e = .returned (.bool (ordT s[m + 1] s[m] == 0)) ∧ Gw wx w') := Lib.hid fun wx hx => eqf_any (hrp.later (hbr.trans (hx.mono hbr.size))) (hrq.later (hbr.trans (hx.mono hbr.size)))
   have HPQ : Hid (∀ wx, Below wr.heap.size wr wx → (wx.cell? ⟨g, (m + 1) * 6, none⟩ = some (.int .i64 p0) ∧ wx.cell? ⟨g, (m + 1) * 6 + 1, none⟩ = some (.string p1) ∧ wx.cell? ⟨g, (m + 1) * 6 + 2, none⟩ = some (.int .i64 p2) ∧ wx.cell? ⟨g, (m + 1) * 6 + 3, none⟩ = some (.slice p3 p4 p5) ∧ wx.cell? ⟨g, (m + 1) * 6 + 4, none⟩ = some (.slice p6 p7 p8) ∧ wx.cell? ⟨g, (m + 1) * 6 + 5, none⟩ = some (.slice p9 pa pb)) ∧ wx.cell? ⟨g, m * 6, none⟩ = some (.int .i64 q0) ∧ wx.cell? ⟨g, m * 6 + 1, none⟩ = some (.string q1) ∧ wx.cell? ⟨g, m * 6 + 2, none⟩ = some (.int .i64 q2) ∧ wx.cell? ⟨g, m * 6 + 3, none⟩ = some (.slice q3 q4 q5) ∧ wx.cell? ⟨g, m * 6 + 4, none⟩ = some (.slice q6 q7 q8) ∧ wx.cell? ⟨g, m * 6 + 5, none⟩ = some (.slice q9 qa qb)) := Lib.hid fun wx hx => ⟨⟨cell_stays hx hp.1, cell_stays hx hp.2.1, cell_stays hx hp.2.2.1, cell_stays hx hp.2.2.2.1, cell_stays hx hp.2.2.2.2.1, cell_stays hx hp.2.2.2.2.2⟩, cell_stays hx hq.1, cell_stays hx hq.2.1, cell_stays hx hq.2.2.1, cell_stays hx hq.2.2.2.1, cell_stays hx hq.2.2.2.2.1, cell_stays hx hq.2.2.2.2.2⟩
   have wr1 : wrap64 (((m + 1 : Nat) : Int) - 1) = ((m : Nat) : Int) := by rw [wrap_in (by omega) (by have := HB.out; omega)]; omega
   have wr1' : IntKind.i64.wrap (((m + 1 : Nat) : Int) - 1) = ((m : Nat) : Int) := by
    have e : IntKind.i64.wrap (((m + 1 : Nat) : Int) - 1) = wrap64 (((m + 1 : Nat) : Int) - 1) := by unfold wrap64; exact IntKind.wrap_i64 _
    rw [e, wr1]
   have i0 : (0 : Int) ≤ (m : Int) + 1 := by omega
   have i1 : (m : Int) + 1 < (s.length : Int) := by omega
   have i2 : (0 : Int) ≤ (m : Int) := by omega
   have i3 : (m : Int) < (s.length : Int) := by omega
   have wr3 : wrap64 (m : Int) = (m : Int) := wrap_in (by omega) (by have := HB.out; omega)
   have wr3' : IntKind.i64.wrap (m : Int) = (m : Int) := by
    have e : IntKind.i64.wrap (m : Int) = wrap64 (m : Int) := by unfold wrap64; exact IntKind.wrap_i64 _
    rw [e, wr3]
   clear hp hq hrp hrq hdd hin hbr
   go_wp2_with fail
   refine wp_region_held_drew (S := (fun w' => (w'.cell? ⟨g, (m + 1) * 6, none⟩ = some (.int .i64 p0) ∧ w'.cell? ⟨g, (m + 1) * 6 + 1, none⟩ = some (.string p1) ∧ w'.cell? ⟨g, (m + 1) * 6 + 2, none⟩ = some (.int .i64 p2) ∧ w'.cell? ⟨g, (m + 1) * 6 + 3, none⟩ = some (.slice p3 p4 p5) ∧ w'.cell? ⟨g, (m + 1) * 6 + 4, none⟩ = some (.slice p6 p7 p8) ∧ w'.cell? ⟨g, (m + 1) * 6 + 5, none⟩ = some (.slice p9 pa pb)) ∧ w'.cell? ⟨g, m * 6, none⟩ = some (.int .i64 q0) ∧ w'.cell? ⟨g, m * 6 + 1, none⟩ = some (.string q1) ∧ w'.cell? ⟨g, m * 6 + 2, none⟩ = some (.int .i64 q2) ∧ w'.cell? ⟨g, m * 6 + 3, none⟩ = some (.slice q3 q4 q5) ∧ w'.cell? ⟨g, m * 6 + 4, none⟩ = some (.slice q6 q7 q8) ∧ w'.cell? ⟨g, m * 6 + 5, none⟩ = some (.slice q9 qa qb))) (by kernel_rfl) (HPQ.out _ (Below.refl _ _).drew) (fun hHeld => ?_)
   refine Plan.start [0, 1, 2, 3, 4, 5, 6, 7, 8, 9] ?_
   iterate 10 ((refine Plan.take (v := ?_) (so rfl) (by kernel_rfl) (by kernel_rfl) (by kernel_rfl) (fun _ _ _ h => h) (Or.inl ⟨by rfl, ?_⟩) hHeld ?_; rotate_left; focus (intro w' hSw; (try dsimp only at hSw); go_simp; try with_reducible rfl)); try simp only [Act.put, List.setIfInBounds_toArray, List.set_cons_zero, List.set_cons_succ])
   refine Plan.done ?_
   refine wpAnyH_ready (rs := [10]) (by kernel_rfl) (by simp) ?_
   refine AllReadyH.cons (sd (some 28) rfl) (fun K hK => ?_) AllReadyH.nil
   go_simp
   refine (KE.out _ (Below.refl _ _).drew).mono ?_
   rintro e w2 ⟨rfl, hb2⟩
   have HB2 := Lib.hid ((Below.refl wr.heap.size wr).drew.trans hb2.below)
   clear hb2
   go_wp2_with fail
   refine hK.out _ _ (HPQ.out _ HB2.out) (fun hHeld => ?_)
   clear hK K
   try simp only [Act.put, List.setIfInBounds_toArray, List.set_cons_zero, List.set_cons_succ]
   refine wpAnyH_done (by kernel_rfl) ?_ _
   clear hHeld
   cases hqq : (ordT s[m + 1] s[m] == 0) with
   | false =>
    have HNE : Hid (ordT s[m] s[m + 1] ≠ 0) := Lib.hid (by have : ordT s[m + 1] s[m] ≠ 0 := (by simpa using hqq); rw [ordT_flip]; omega)
    have hlt1 := Lib.hid hlt
    have wr5 : wrap64 ((m : Int) + 1 + 1) = (m : Int) + 1 + 1 := wrap_in (by omega) (by have := HB.out; omega)
    have HM := Lib.hid (measI hlt)
    clear hqq i0 i1 i2 i3 wr1 wr1' wr3 wr3' hcap t2
    go_wp2_with fail
    refine ⟨⟨m + 1, hlt1.out, by first | rfl | (rw [wr5]; rfl) | simp, ?d1, HR.out.2.1.later HB2.out, HR.out.2.2.trans (HB2.out.mono HR.out.2.2.size)⟩, ?d2⟩
    case d1 =>
     rw [dedup_take (by omega) hlt1.out, if_neg (by simpa using HNE.out), HR.out.1]
     exact (List.take_succ_eq_append_getElem hlt1.out).symm
    case d2 => rw [wr5]; exact HM.out
   | true =>
    have HEQ : ordT s[m] s[m + 1] = 0 := by
     have h0 : ordT s[m + 1] s[m] = 0 := by simpa using hqq
     rw [ordT_flip, h0]; rfl
    have HST := Lib.hid (CompR.start hlt HR.out.1 HEQ (HR.out.2.1.later HB2.out) (HR.out.2.2.trans (HB2.out.mono HR.out.2.2.size)))
    have HL1 : Hid ((s.take (m + 1)).length = m + 1) := Lib.hid (by simp; omega)
    have HLT := Lib.hid hlt
    clear HEQ hqq i0 i1 i2 i3 wr1 wr1' wr3 wr3' t2 t1 KE HPQ HB2
    go_wp2_with fail
    generalize hn2 : s.length - (m + 1) = n2
    have HN2 : Hid (n2 + (m + 1) = s.length) := Lib.hid (by omega)
    generalize hoff : (m + 1) * 6 = off
    have HOFF := Lib.hid hoff
    clear hlt hm hs hn2 hoff
    go_loopw [5, 7] (fun v5 v7 wx => ∃ (D : List Ty) (i : Nat), v5 = .int .i64 (D.length : Int) ∧ v7 = .int .i64 ((i + 1 : Nat) : Int) ∧ CompR K w0 wx g c s m D i) (fun _ v7 _ => s.length - (intOf v7).toNat)
    case atStart => exact ⟨s.take (m + 1), 0, by rw [HL1.out]; rfl, rfl, HST.out⟩
    case round =>
     obtain ⟨D, i, rfl, rfl, hR⟩ := hrel
     have HRR := Lib.hid hR
     have hdl := hR.dl
     have hle := hR.le
     by_cases hl2 : m + 2 + i < s.length
     ·obtain ⟨p0, p1, p2, p3, p4, p5, p6, p7, p8, p9, pa, pb, hp, hrp⟩ := hR.row.sixAt (hR.at (j := m + 2 + i) (by omega) hl2)
      obtain ⟨q0, q1, q2, q3, q4, q5, q6, q7, q8, q9, qa, qb, hq, hrq⟩ := hR.row.sixAt (hR.at (j := m + 1 + i) (by omega) (by omega))
      obtain ⟨r0, r1, r2, r3, r4, r5, r6, r7, r8, r9, ra, rb, hr, -⟩ := hR.row.sixAt (i := D.length) (t := s[D.length]'(by omega)) (by rw [List.getElem?_append_right (Nat.le_refl _), List.getElem?_drop, Nat.sub_self, Nat.add_zero]; exact List.getElem?_eq_getElem (by omega))
      rw [show (m + 2 + i) * 6 = off + (i + 1) * 6 from by have := HOFF.out; omega] at hp
      rw [show (m + 1 + i) * 6 = off + i * 6 from by have := HOFF.out; omega] at hq
      have KE : Hid (∀ wx, Below wr.heap.size wr wx → Calls Tryz.prog 56 #[.agg #[.int .i64 p0, .string p1, .int .i64 p2, .slice p3 p4 p5, .slice p6 p7 p8, .slice p9 pa pb], .agg #[.int .i64 q0, .string q1, .int .i64 q2, .slice q3 q4 q5, .slice q6 q7 q8, .slice q9 qa qb]] wx fun e w' => e = .returned (.bool (ordT s[m + 2 + i] s[m + 1 + i] == 0)) ∧ Gw wx w') := Lib.hid fun wx hx => eqf_any (hrp.later (hR.below.trans (hx.mono hR.below.size))) (hrq.later (hR.below.trans (hx.mono hR.below.size)))
      have HPQ : Hid (∀ wx, Below wr.heap.size wr wx → (wx.cell? ⟨g, off + (i + 1) * 6, none⟩ = some (.int .i64 p0) ∧ wx.cell? ⟨g, off + (i + 1) * 6 + 1, none⟩ = some (.string p1) ∧ wx.cell? ⟨g, off + (i + 1) * 6 + 2, none⟩ = some (.int .i64 p2) ∧ wx.cell? ⟨g, off + (i + 1) * 6 + 3, none⟩ = some (.slice p3 p4 p5) ∧ wx.cell? ⟨g, off + (i + 1) * 6 + 4, none⟩ = some (.slice p6 p7 p8) ∧ wx.cell? ⟨g, off + (i + 1) * 6 + 5, none⟩ = some (.slice p9 pa pb)) ∧ wx.cell? ⟨g, off + i * 6, none⟩ = some (.int .i64 q0) ∧ wx.cell? ⟨g, off + i * 6 + 1, none⟩ = some (.string q1) ∧ wx.cell? ⟨g, off + i * 6 + 2, none⟩ = some (.int .i64 q2) ∧ wx.cell? ⟨g, off + i * 6 + 3, none⟩ = some (.slice q3 q4 q5) ∧ wx.cell? ⟨g, off + i * 6 + 4, none⟩ = some (.slice q6 q7 q8) ∧ wx.cell? ⟨g, off + i * 6 + 5, none⟩ = some (.slice q9 qa qb)) := Lib.hid fun wx hx => ⟨⟨cell_stays hx hp.1, cell_stays hx hp.2.1, cell_stays hx hp.2.2.1, cell_stays hx hp.2.2.2.1, cell_stays hx hp.2.2.2.2.1, cell_stays hx hp.2.2.2.2.2⟩, cell_stays hx hq.1, cell_stays hx hq.2.1, cell_stays hx hq.2.2.1, cell_stays hx hq.2.2.2.1, cell_stays hx hq.2.2.2.2.1, cell_stays hx hq.2.2.2.2.2⟩
      have HRC : Hid (∀ wx, Below wr.heap.size wr wx → wx.cell? ⟨g, D.length * 6, none⟩ = some (.int .i64 r0) ∧ wx.cell? ⟨g, D.length * 6 + 1, none⟩ = some (.string r1) ∧ wx.cell? ⟨g, D.length * 6 + 2, none⟩ = some (.int .i64 r2) ∧ wx.cell? ⟨g, D.length * 6 + 3, none⟩ = some (.slice r3 r4 r5) ∧ wx.cell? ⟨g, D.length * 6 + 4, none⟩ = some (.slice r6 r7 r8) ∧ wx.cell? ⟨g, D.length * 6 + 5, none⟩ = some (.slice r9 ra rb)) := Lib.hid fun wx hx => ⟨cell_stays hx hr.1, cell_stays hx hr.2.1, cell_stays hx hr.2.2.1, cell_stays hx hr.2.2.2.1, cell_stays hx hr.2.2.2.2.1, cell_stays hx hr.2.2.2.2.2⟩
      have HFR : Hid (∀ wx, Below wr.heap.size wr wx → ∀ o, wx.frozen? ⟨g, o, none⟩ = false) := Lib.hid fun wx hx o => by
       obtain ⟨cur, h1, _⟩ := (hR.row.later hx).blk
       exact Lib.frozen_of_heap h1 o
      have HPUT : Hid (ordT s[m + 1 + i] s[m + 2 + i] ≠ 0 → ∀ wy, Below wr.heap.size wr wy → CompR K w0 (wy.setCells g (D.length * 6) [.int .i64 p0, .string p1, .int .i64 p2, .slice p3 p4 p5, .slice p6 p7 p8, .slice p9 pa pb]) g c s m (D ++ [s[m + 2 + i]]) (i + 1)) := Lib.hid fun hne wy hy => HRR.out.put hl2 hne HG.out hy hrp
      have HSAME : Hid (ordT s[m + 1 + i] s[m + 2 + i] = 0 → ∀ wy, Below wr.heap.size wr wy → CompR K w0 wy g c s m D (i + 1)) := Lib.hid fun he wy hy => HRR.out.same hl2 he hy
      have HFL := Lib.hid (ordT_flip s[m + 2 + i] s[m + 1 + i])
      have HLA : Hid ((D ++ [s[m + 2 + i]]).length = D.length + 1) := Lib.hid (by simp)
      have HME : Hid (s.length - (intOf (Value.int .i64 ((i + 1 + 1 : Nat) : Int))).toNat < s.length - (intOf (Value.int .i64 ((i + 1 : Nat) : Int))).toNat) := Lib.hid (measI (by omega))
      generalize ordT s[m + 2 + i] s[m + 1 + i] = oo at KE HFL
      generalize ordT s[m + 1 + i] s[m + 2 + i] = o2 at HPUT HSAME HFL
      generalize hDD : D ++ [s[m + 2 + i]] = DD at HPUT HLA
      have hnn := HN2.out
      have t1 : decide (((i + 1 : Nat) : Int) < (n2 : Int)) = true := by simp; omega
      have wr1 : wrap64 (((i + 1 : Nat) : Int) - 1) = ((i : Nat) : Int) := by rw [wrap_in (by omega) (by have := HB.out; omega)]; omega
      have wr1' : IntKind.i64.wrap (((i + 1 : Nat) : Int) - 1) = ((i : Nat) : Int) := by
       have e : IntKind.i64.wrap (((i + 1 : Nat) : Int) - 1) = wrap64 (((i + 1 : Nat) : Int) - 1) := by unfold wrap64; exact IntKind.wrap_i64 _
       rw [e, wr1]
      have wr3 : wrap64 (i : Int) = (i : Int) := wrap_in (by omega) (by have := HB.out; omega)
      have wr3' : IntKind.i64.wrap (i : Int) = (i : Int) := by
       have e : IntKind.i64.wrap (i : Int) = wrap64 (i : Int) := by unfold wrap64; exact IntKind.wrap_i64 _
       rw [e, wr3]
      have i0 : (0 : Int) ≤ (i : Int) + 1 := by omega
      have i1 : (i : Int) + 1 < (n2 : Int) := by omega
      have i2 : (0 : Int) ≤ (i : Int) := by omega
      have i3 : (i : Int) < (n2 : Int) := by omega
      have j1 : (D.length : Int) < (s.length : Int) := by omega
      have wr5 : wrap64 ((i : Int) + 1 + 1) = (i : Int) + 1 + 1 := wrap_in (by omega) (by have := HB.out; omega)
      have wr6 : wrap64 ((D.length : Int) + 1) = (D.length : Int) + 1 := wrap_in (by omega) (by have := HB.out; omega)
      have HI1 := Lib.hid i1
      clear hp hq hr hrp hrq hR hdl hle hl2 hnn hDD
      go_wp2_with fail
      refine wp_region_held_drew (S := (fun w' => (w'.cell? ⟨g, off + (i + 1) * 6, none⟩ = some (.int .i64 p0) ∧ w'.cell? ⟨g, off + (i + 1) * 6 + 1, none⟩ = some (.string p1) ∧ w'.cell? ⟨g, off + (i + 1) * 6 + 2, none⟩ = some (.int .i64 p2) ∧ w'.cell? ⟨g, off + (i + 1) * 6 + 3, none⟩ = some (.slice p3 p4 p5) ∧ w'.cell? ⟨g, off + (i + 1) * 6 + 4, none⟩ = some (.slice p6 p7 p8) ∧ w'.cell? ⟨g, off + (i + 1) * 6 + 5, none⟩ = some (.slice p9 pa pb)) ∧ w'.cell? ⟨g, off + i * 6, none⟩ = some (.int .i64 q0) ∧ w'.cell? ⟨g, off + i * 6 + 1, none⟩ = some (.string q1) ∧ w'.cell? ⟨g, off + i * 6 + 2, none⟩ = some (.int .i64 q2) ∧ w'.cell? ⟨g, off + i * 6 + 3, none⟩ = some (.slice q3 q4 q5) ∧ w'.cell? ⟨g, off + i * 6 + 4, none⟩ = some (.slice q6 q7 q8) ∧ w'.cell? ⟨g, off + i * 6 + 5, none⟩ = some (.slice q9 qa qb))) (by kernel_rfl) (HPQ.out _ (Below.refl _ _).drew) (fun hHeld => ?_)
      refine Plan.start [0, 1, 2, 3, 4, 5, 6, 7, 8, 9] ?_
      iterate 10 ((refine Plan.take (v := ?_) (so rfl) (by kernel_rfl) (by kernel_rfl) (by kernel_rfl) (fun _ _ _ h => h) (Or.inl ⟨by rfl, ?_⟩) hHeld ?_; rotate_left; focus (intro w' hSw; (try dsimp only at hSw); go_simp; try with_reducible rfl)); try simp only [Act.put, List.setIfInBounds_toArray, List.set_cons_zero, List.set_cons_succ])
      refine Plan.done ?_
      refine wpAnyH_ready (rs := [10]) (by kernel_rfl) (by simp) ?_
      refine AllReadyH.cons (sd (some 48) rfl) (fun K hK => ?_) AllReadyH.nil
      go_simp
      refine (KE.out _ (Below.refl _ _).drew).mono ?_
      rintro e w2 ⟨rfl, hb2⟩
      have HB2 := Lib.hid ((Below.refl wr.heap.size wr).drew.trans hb2.below)
      clear hb2
      go_wp2_with fail
      refine hK.out _ _ (HPQ.out _ HB2.out) (fun hHeld => ?_)
      clear hK K
      try simp only [Act.put, List.setIfInBounds_toArray, List.set_cons_zero, List.set_cons_succ]
      refine wpAnyH_take (i := 11) (v := ?_) (sd (some 49) rfl) (by kernel_rfl) (by kernel_rfl) (by kernel_rfl) (fun _ _ _ h => h) (Or.inl ⟨by rfl, ?_⟩) hHeld ?_
      rotate_left
      ·intro w' hSw
       (try dsimp only at hSw)
       go_simp
       try with_reducible rfl
      try simp only [Act.put, List.setIfInBounds_toArray, List.set_cons_zero, List.set_cons_succ]
      refine wpAnyH_done (by kernel_rfl) ?_ _
      clear hHeld
      have HO2 : Hid (oo == 0 ↔ o2 = 0) := Lib.hid (by have := HFL.out; rw [beq_iff_eq]; omega)
      clear i0 i1 i2 i3 wr1 wr1' wr3 wr3' t1
      cases hqq : (oo == 0) with
      | true =>
       have HSM := Lib.hid (HSAME.out (HO2.out.1 hqq) _ HB2.out)
       clear hqq KE HPQ HRC HFR HPUT HSAME
       go_wp2_with fail
       refine ⟨⟨D, i + 1, by first | rfl | trivial, by first | rfl | (rw [wr5]; rfl), HSM.out⟩, ?_⟩
       first | exact HME.out | (rw [wr5]; exact HME.out)
      | false =>
       have HSM := Lib.hid (HPUT.out (fun h => by have := HO2.out.2 h; rw [hqq] at this; cases this) _ HB2.out)
       obtain ⟨e0, e1, e2, e3, e4, e5⟩ := HRC.out _ HB2.out
       obtain ⟨⟨u0, u1, u2, u3, u4, u5⟩, -⟩ := HPQ.out _ HB2.out
       have hfr := HFR.out _ HB2.out
       have i0 : (0 : Int) ≤ (i : Int) + 1 := by omega
       have i1 : (i : Int) + 1 < (n2 : Int) := by have := HI1.out; omega
       clear hqq KE HPQ HRC HFR HPUT HSAME
       go_wp2_with fail
       refine ⟨⟨DD, i + 1, by rw [HLA.out]; first | rfl | (rw [wr6]; rfl), by first | rfl | (rw [wr5]; rfl), HSM.out⟩, ?_⟩
       first | exact HME.out | (rw [wr5]; exact HME.out)
     ·have hnn := HN2.out
      have t1 : decide (((i + 1 : Nat) : Int) < (n2 : Int)) = false := by simp; omega
      have t2 : ¬ i + 1 < n2 := by omega
      have hdc := hR.row.le
      have hdc2 : D.length ≤ c := by simp at hdc; omega
      have hdl2 : D.length < s.length := by omega
      have hth := fun (j : Nat) (hj : j < c * 6) => hR.row.there hj
      have hcl : ∀ ty, (Builtin.clear_ #[22] ty #[.slice (some ⟨g, D.length * 6, none⟩) (s.length - D.length) (c - D.length)]).run Tryz.prog wr = .ok (.tuple #[]) (wr.setCells g (D.length * 6) (Builtin.zeroCells #[.int .i64 0, .string ⟨#[]⟩, .int .i64 0, .slice none 0 0, .slice none 0 0, .slice none 0 0] (s.length - D.length)).toList) := fun ty => run_clear_types wr ty g (D.length * 6) (s.length - D.length) (c - D.length) (by omega) (fun j hj => hth _ (by omega))
      have HFI := Lib.hid (hR.fin hl2 HG.out (Builtin.zeroCells #[.int .i64 0, .string ⟨#[]⟩, .int .i64 0, .slice none 0 0, .slice none 0 0, .slice none 0 0] (s.length - D.length)).toList)
      generalize (Builtin.zeroCells #[.int .i64 0, .string ⟨#[]⟩, .int .i64 0, .slice none 0 0, .slice none 0 0, .slice none 0 0] (s.length - D.length)).toList = LL at hcl HFI
      clear hR hdl hle hl2 hnn hth hdc
      go_wp2_with fail
      go_ret
      rw [← HFI.out.1]
      exact ⟨rfl, HFI.out.2.2, HFI.out.2.1⟩
  ·have HD : Hid (dedupT s = s) := Lib.hid (by have h := HR.out.1; rw [List.take_of_length_le (by omega)] at h; exact h)
   have t1 : decide (((m + 1 : Nat) : Int) < (s.length : Int)) = false := by simp; omega
   clear hdd hin hbr hm
   go_wp2_with fail
   go_ret
   rw [HD.out]
   exact ⟨rfl, HR.out.2.2, HR.out.2.1⟩
theorem sort_nil : SortN := by
 intro w
 have h := AnyF.slices_SortFunc_none (P := Tryz.prog) (ρ := sortTy_ren) { sortTy with } none 0 (.func (.func 54) #[] #[]) w
 refine h.mono ?_
 rintro e w' ⟨rfl, rfl⟩
 exact ⟨rfl, Below.refl _ _⟩
theorem comp_any : CompP := fun K w0 w g c s h hb hg hs => by
 by_cases h2 : s.length < 2
 ·exact comp_short h hb h2
 ·exact comp_long h hb hg (by omega) hs
theorem union_all {K : Nat → Prop} {w : World} {l : List Ty} {A : Option Addr} {c : Nat} (hL : ListT K w l A c) (hbd : (flatU l).length ≤ 1099511627776) (hlo : ∀ b, K b → b < w.heap.size) :
  Calls Tryz.prog 34 #[.slice A l.length c] w (UnionPost K w l) := union_any sort_any sort_nil comp_any comp_nil hL hbd hlo
end Go.Proofs.YtfchnfnifpopnaaGreatDoor
