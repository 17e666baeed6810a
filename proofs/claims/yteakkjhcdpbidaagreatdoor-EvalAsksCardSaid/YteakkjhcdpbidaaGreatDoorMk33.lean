import Derived.Test.YteakkjhcdpbidaaGreatDoorMk25
import Derived.Test.YteakkjhcdpbidaaGreatDoorMk31
namespace Go.Proofs.YteakkjhcdpbidaaGreatDoor
set_option maxRecDepth 100000
set_option maxHeartbeats 64000000
open Go.RowKit
theorem at_c1 (hU : UnionP) {K : Nat → Prop} {w : World} (k : Int) (s : ByteArray) (n : Int) (ps : List Ty) (fs : FsT) (vs : VsT) (s3 : ByteArray) (n3 : Int) (ps3 : List Ty) (fs3 : FsT) (vs3 : VsT) {cs ds : List Value} (hr : RepT K w (.mk k s n ps fs vs) cs) (hp : RepT K w (.mk 1 s3 n3 ps3 fs3 vs3) ds) (hlo : ∀ b, K b → b < w.heap.size)  :
  Calls Tryz.prog 20 #[.agg cs.toArray, .agg ds.toArray] w (TyPost K w (Ty.mk 1 s3 n3 ps3 fs3 vs3)) := by
 generalize hu : Ty.mk 1 s3 n3 ps3 fs3 vs3 = u
 obtain ⟨k2, s2, n2, ps2, fs2, vs2⟩ := u
 refine at_pre hr hp hlo fun A c A' c' A'' c'' A3 c3 B3 d3 C3 e3 w1 g hcs hds h => ?_
 clear hr hp
 subst hcs hds
 obtain ⟨HB1, HS1, HX0, HY0, HX1, HW1, HG, HR, HP, HL, HL3, HLO1, hlp, hlp3⟩ := h
 have HLO := Hd hlo
 have HU := Hd hU
 have HUE := Hd hu
 have hb1 := HB1.out
 have hs1 := HS1.out
 have hx0 := HX0.out
 have hy0 := HY0.out
 have hr := HR.out
 have hp := HP.out
 have hL := HL.out
 have hL3 := HL3.out
 have hx1 := HX1.out
 have hw1 := HW1.out
 have hgg := HG.out
 unfold TyPost
 clear hr hp hlo hU hb1 hs1 hx0 hy0 hx1 hw1 hgg hL hL3 hu
 go_enter Tryz.func20, Tryz.ntmps20
 go_upto_region 1 with fail
 rw [← HW1.out, ← HG.out]
 obtain ⟨x0, x1, x2, x3, x4, x5⟩ := cz6 HX0.out
 obtain ⟨y0, y1, y2, y3, y4, y5⟩ := cz6 HY0.out
 go_upto_region 2 with fail
 have rb := HX1.out
 obtain ⟨q0, q1, q2, q3, q4, q5, z0, z1, z2, z3, z4, z5⟩ := qz6 rb
 have RBX := Hd rb
 clear rb
 go_wp2_with fail
 have rs := six_set RBX.out (.int .i64 1) (.string s3) (.int .i64 n3) (.slice A3 ps3.length c3) (.slice B3 fs3.length d3) (.slice C3 vs3.length e3)
 obtain ⟨r0, r1, r2, r3, r4, r5⟩ := cz6 rs
 clear q0 q1 q2 q3 q4 q5 z0 z1 z2 z3 z4 z5 RBX rs
 refine bodyPost_ret (v := .agg #[.int .i64 1, .string s3, .int .i64 n3, .slice A3 ps3.length c3, .slice B3 fs3.length d3, .slice C3 vs3.length e3]) (by simp [results, Tryz.results20, go_sem, r0, r1, r2, r3, r4, r5]) rfl ?_
 clear r0 r1 r2 r3 r4 r5
 rw [← HUE.out]
 exact ⟨[.int .i64 1, .string s3, .int .i64 n3, .slice A3 ps3.length c3, .slice B3 fs3.length d3, .slice C3 vs3.length e3], rfl, ret_box ((HP.out.later HB1.out).weak fun b h => Or.inl h) (fun b h => by have := HLO.out b h; have := HG.out; omega) (by have := HG.out; omega) _ _ _ _ _ _, set_six_below (HB1.out) (by have := HG.out; omega) _ _ _ _ _ _⟩
theorem at_c2 (hU : UnionP) {K : Nat → Prop} {w : World} (s : ByteArray) (n : Int) (ps : List Ty) (fs : FsT) (vs : VsT) (k3 : Int) (s3 : ByteArray) (n3 : Int) (ps3 : List Ty) (fs3 : FsT) (vs3 : VsT) {cs ds : List Value} (hr : RepT K w (.mk 3 s n ps fs vs) cs) (hp : RepT K w (.mk k3 s3 n3 ps3 fs3 vs3) ds) (hlo : ∀ b, K b → b < w.heap.size) (h1 : k3 ≠ 1) :
  Calls Tryz.prog 20 #[.agg cs.toArray, .agg ds.toArray] w (TyPost K w (Ty.mk 3 s n ps fs vs)) := by
 generalize hu : Ty.mk 3 s n ps fs vs = u
 obtain ⟨k2, s2, n2, ps2, fs2, vs2⟩ := u
 refine at_pre hr hp hlo fun A c A' c' A'' c'' A3 c3 B3 d3 C3 e3 w1 g hcs hds h => ?_
 clear hr hp
 subst hcs hds
 obtain ⟨HB1, HS1, HX0, HY0, HX1, HW1, HG, HR, HP, HL, HL3, HLO1, hlp, hlp3⟩ := h
 have HLO := Hd hlo
 have HU := Hd hU
 have HUE := Hd hu
 have hb1 := HB1.out
 have hs1 := HS1.out
 have hx0 := HX0.out
 have hy0 := HY0.out
 have hr := HR.out
 have hp := HP.out
 have hL := HL.out
 have hL3 := HL3.out
 have hx1 := HX1.out
 have hw1 := HW1.out
 have hgg := HG.out
 have f_k3_1 : (k3 == 1) = false := beq_eq_false_iff_ne.2 (by omega)
 unfold TyPost
 clear hr hp hlo hU hb1 hs1 hx0 hy0 hx1 hw1 hgg hL hL3 hu
 go_enter Tryz.func20, Tryz.ntmps20
 go_upto_region 1 with fail
 rw [← HW1.out, ← HG.out]
 obtain ⟨x0, x1, x2, x3, x4, x5⟩ := cz6 HX0.out
 obtain ⟨y0, y1, y2, y3, y4, y5⟩ := cz6 HY0.out
 go_upto_region 5 with fail
 have rb := HX1.out
 obtain ⟨q0, q1, q2, q3, q4, q5, z0, z1, z2, z3, z4, z5⟩ := qz6 rb
 have RBX := Hd rb
 clear rb
 go_wp2_with fail
 have rs := six_set RBX.out (.int .i64 3) (.string s) (.int .i64 n) (.slice A ps.length c) (.slice A' fs.length c') (.slice A'' vs.length c'')
 obtain ⟨r0, r1, r2, r3, r4, r5⟩ := cz6 rs
 clear q0 q1 q2 q3 q4 q5 z0 z1 z2 z3 z4 z5 RBX rs
 refine bodyPost_ret (v := .agg #[.int .i64 3, .string s, .int .i64 n, .slice A ps.length c, .slice A' fs.length c', .slice A'' vs.length c'']) (by simp [results, Tryz.results20, go_sem, r0, r1, r2, r3, r4, r5]) rfl ?_
 clear r0 r1 r2 r3 r4 r5
 rw [← HUE.out]
 exact ⟨[.int .i64 3, .string s, .int .i64 n, .slice A ps.length c, .slice A' fs.length c', .slice A'' vs.length c''], rfl, ret_box ((HR.out.later HB1.out).weak fun b h => Or.inl h) (fun b h => by have := HLO.out b h; have := HG.out; omega) (by have := HG.out; omega) _ _ _ _ _ _, set_six_below (HB1.out) (by have := HG.out; omega) _ _ _ _ _ _⟩
theorem at_c3 (hU : UnionP) {K : Nat → Prop} {w : World} (s : ByteArray) (n : Int) (ps : List Ty) (fs : FsT) (vs : VsT) (k3 : Int) (s3 : ByteArray) (n3 : Int) (ps3 : List Ty) (fs3 : FsT) (vs3 : VsT) {cs ds : List Value} (hr : RepT K w (.mk 1 s n ps fs vs) cs) (hp : RepT K w (.mk k3 s3 n3 ps3 fs3 vs3) ds) (hlo : ∀ b, K b → b < w.heap.size) (h1 : k3 ≠ 1) :
  Calls Tryz.prog 20 #[.agg cs.toArray, .agg ds.toArray] w (TyPost K w (Ty.mk 1 s n ps fs vs)) := by
 generalize hu : Ty.mk 1 s n ps fs vs = u
 obtain ⟨k2, s2, n2, ps2, fs2, vs2⟩ := u
 refine at_pre hr hp hlo fun A c A' c' A'' c'' A3 c3 B3 d3 C3 e3 w1 g hcs hds h => ?_
 clear hr hp
 subst hcs hds
 obtain ⟨HB1, HS1, HX0, HY0, HX1, HW1, HG, HR, HP, HL, HL3, HLO1, hlp, hlp3⟩ := h
 have HLO := Hd hlo
 have HU := Hd hU
 have HUE := Hd hu
 have hb1 := HB1.out
 have hs1 := HS1.out
 have hx0 := HX0.out
 have hy0 := HY0.out
 have hr := HR.out
 have hp := HP.out
 have hL := HL.out
 have hL3 := HL3.out
 have hx1 := HX1.out
 have hw1 := HW1.out
 have hgg := HG.out
 have f_k3_1 : (k3 == 1) = false := beq_eq_false_iff_ne.2 (by omega)
 unfold TyPost
 clear hr hp hlo hU hb1 hs1 hx0 hy0 hx1 hw1 hgg hL hL3 hu
 go_enter Tryz.func20, Tryz.ntmps20
 go_upto_region 1 with fail
 rw [← HW1.out, ← HG.out]
 obtain ⟨x0, x1, x2, x3, x4, x5⟩ := cz6 HX0.out
 obtain ⟨y0, y1, y2, y3, y4, y5⟩ := cz6 HY0.out
 go_upto_region 5 with fail
 have rb := HX1.out
 obtain ⟨q0, q1, q2, q3, q4, q5, z0, z1, z2, z3, z4, z5⟩ := qz6 rb
 have RBX := Hd rb
 clear rb
 go_wp2_with fail
 have rs := six_set RBX.out (.int .i64 1) (.string s) (.int .i64 n) (.slice A ps.length c) (.slice A' fs.length c') (.slice A'' vs.length c'')
 obtain ⟨r0, r1, r2, r3, r4, r5⟩ := cz6 rs
 clear q0 q1 q2 q3 q4 q5 z0 z1 z2 z3 z4 z5 RBX rs
 refine bodyPost_ret (v := .agg #[.int .i64 1, .string s, .int .i64 n, .slice A ps.length c, .slice A' fs.length c', .slice A'' vs.length c'']) (by simp [results, Tryz.results20, go_sem, r0, r1, r2, r3, r4, r5]) rfl ?_
 clear r0 r1 r2 r3 r4 r5
 rw [← HUE.out]
 exact ⟨[.int .i64 1, .string s, .int .i64 n, .slice A ps.length c, .slice A' fs.length c', .slice A'' vs.length c''], rfl, ret_box ((HR.out.later HB1.out).weak fun b h => Or.inl h) (fun b h => by have := HLO.out b h; have := HG.out; omega) (by have := HG.out; omega) _ _ _ _ _ _, set_six_below (HB1.out) (by have := HG.out; omega) _ _ _ _ _ _⟩
theorem at_c4 (hU : UnionP) {K : Nat → Prop} {w : World} (k : Int) (s : ByteArray) (n : Int) (ps : List Ty) (fs : FsT) (vs : VsT) (s3 : ByteArray) (n3 : Int) (ps3 : List Ty) (fs3 : FsT) (vs3 : VsT) {cs ds : List Value} (hr : RepT K w (.mk k s n ps fs vs) cs) (hp : RepT K w (.mk 15 s3 n3 ps3 fs3 vs3) ds) (hlo : ∀ b, K b → b < w.heap.size) (h3 : k ≠ 3) (h4 : k ≠ 1) (KA : ∀ p ∈ ps3, ∀ wx ds, Below w.heap.size w wx → RepT K wx p ds → Calls Tryz.prog 20 #[.agg cs.toArray, .agg ds.toArray] wx (TyPost K wx (atT (.mk k s n ps fs vs) p))) (hn : (flatU (ps3.map (atT (.mk k s n ps fs vs)))).length ≤ 1099511627776) (hll : ps3.length ≤ 1099511627776) :
  Calls Tryz.prog 20 #[.agg cs.toArray, .agg ds.toArray] w (TyPost K w (unionT (ps3.map (atT (.mk k s n ps fs vs))))) := by
 generalize hu : unionT (ps3.map (atT (.mk k s n ps fs vs))) = u
 obtain ⟨k2, s2, n2, ps2, fs2, vs2⟩ := u
 refine at_pre hr hp hlo fun A c A' c' A'' c'' A3 c3 B3 d3 C3 e3 w1 g hcs hds h => ?_
 clear hr hp
 subst hcs hds
 obtain ⟨HB1, HS1, HX0, HY0, HX1, HW1, HG, HR, HP, HL, HL3, HLO1, hlp, hlp3⟩ := h
 have HLO := Hd hlo
 have HU := Hd hU
 have HUE := Hd hu
 have hb1 := HB1.out
 have hs1 := HS1.out
 have hx0 := HX0.out
 have hy0 := HY0.out
 have hr := HR.out
 have hp := HP.out
 have hL := HL.out
 have hL3 := HL3.out
 have hx1 := HX1.out
 have hw1 := HW1.out
 have hgg := HG.out
 have f_k_3 : (k == 3) = false := beq_eq_false_iff_ne.2 (by omega)
 have f_k_1 : (k == 1) = false := beq_eq_false_iff_ne.2 (by omega)
 have kc := each_1 (K := K) (w := w1) (gb := w.heap.size) hU (atT (.mk k s n ps fs vs)) (hL3.later hb1) (hr.later hb1) (fun b h => by have := hlo b h; omega) (by omega) hx0 (fun p hp wx dx hx hd => KA p hp wx dx (hb1.trans (hx.mono hb1.size)) hd) hn hll
 have KC := Hd kc
 clear kc KA hn hll
 unfold TyPost
 clear hr hp hlo hU hb1 hs1 hx0 hy0 hx1 hw1 hgg hL hL3 hu
 go_enter Tryz.func20, Tryz.ntmps20
 go_upto_region 1 with fail
 rw [← HW1.out, ← HG.out]
 obtain ⟨x0, x1, x2, x3, x4, x5⟩ := cz6 HX0.out
 obtain ⟨y0, y1, y2, y3, y4, y5⟩ := cz6 HY0.out
 go_wp2_with fail
 refine KC.out.mono ?_
 rintro e w2 ⟨rs, rfl, hr2, hb2⟩
 have HBE := Hd (HB1.out.trans (hb2.mono HB1.out.size))
 have rb := box_up hb2 (by have := HG.out; have := HS1.out; omega) HX1.out
 have hr3 : RepT (fun b => K b ∨ g < b) w2 (unionT (ps3.map (atT (.mk k s n ps fs vs)))) rs := hr2.weak fun b h => h.imp id fun h => by have := HG.out; have := HS1.out; omega
 rw [HUE.out] at hr3
 obtain ⟨Aq, cq, Ag, cg, Ah, ch, rfl, -⟩ := hr3.inv
 have HR3 := Hd hr3
 simp only [cells6T] at HR3 ⊢
 clear hr2 hb2 hr3 KC x0 x1 x2 x3 x4 x5 y0 y1 y2 y3 y4 y5
 obtain ⟨q0, q1, q2, q3, q4, q5, z0, z1, z2, z3, z4, z5⟩ := qz6 rb
 have RBX := Hd rb
 clear rb
 go_wp2_with fail
 have rs := six_set RBX.out (.int .i64 k2) (.string s2) (.int .i64 n2) (.slice Aq ps2.length cq) (.slice Ag fs2.length cg) (.slice Ah vs2.length ch)
 obtain ⟨r0, r1, r2, r3, r4, r5⟩ := cz6 rs
 clear q0 q1 q2 q3 q4 q5 z0 z1 z2 z3 z4 z5 RBX rs
 refine bodyPost_ret (v := .agg #[.int .i64 k2, .string s2, .int .i64 n2, .slice Aq ps2.length cq, .slice Ag fs2.length cg, .slice Ah vs2.length ch]) (by simp [results, Tryz.results20, go_sem, r0, r1, r2, r3, r4, r5]) rfl ?_
 clear r0 r1 r2 r3 r4 r5
 exact ⟨[.int .i64 k2, .string s2, .int .i64 n2, .slice Aq ps2.length cq, .slice Ag fs2.length cg, .slice Ah vs2.length ch], rfl, ret_box (HR3.out) (fun b h => by have := HLO.out b h; have := HG.out; omega) (by have := HG.out; omega) _ _ _ _ _ _, set_six_below (HBE.out) (by have := HG.out; omega) _ _ _ _ _ _⟩
theorem at_c5 (hU : UnionP) {K : Nat → Prop} {w : World} (s : ByteArray) (n : Int) (ps : List Ty) (fs : FsT) (vs : VsT) (k3 : Int) (s3 : ByteArray) (n3 : Int) (ps3 : List Ty) (fs3 : FsT) (vs3 : VsT) {cs ds : List Value} (hr : RepT K w (.mk 15 s n ps fs vs) cs) (hp : RepT K w (.mk k3 s3 n3 ps3 fs3 vs3) ds) (hlo : ∀ b, K b → b < w.heap.size) (h1 : k3 ≠ 1) (h15 : k3 ≠ 15) (KA : ∀ p ∈ ps, ∀ wx dx, Below w.heap.size w wx → RepT K wx p dx → Calls Tryz.prog 20 #[.agg dx.toArray, .agg ds.toArray] wx (TyPost K wx (atT p (.mk k3 s3 n3 ps3 fs3 vs3)))) (hn : (flatU (ps.map fun p => atT p (.mk k3 s3 n3 ps3 fs3 vs3))).length ≤ 1099511627776) (hll : ps.length ≤ 1099511627776) :
  Calls Tryz.prog 20 #[.agg cs.toArray, .agg ds.toArray] w (TyPost K w (unionT (ps.map fun p => atT p (.mk k3 s3 n3 ps3 fs3 vs3)))) := by
 generalize hu : unionT (ps.map fun p => atT p (.mk k3 s3 n3 ps3 fs3 vs3)) = u
 obtain ⟨k2, s2, n2, ps2, fs2, vs2⟩ := u
 refine at_pre hr hp hlo fun A c A' c' A'' c'' A3 c3 B3 d3 C3 e3 w1 g hcs hds h => ?_
 clear hr hp
 subst hcs hds
 obtain ⟨HB1, HS1, HX0, HY0, HX1, HW1, HG, HR, HP, HL, HL3, HLO1, hlp, hlp3⟩ := h
 have HLO := Hd hlo
 have HU := Hd hU
 have HUE := Hd hu
 have hb1 := HB1.out
 have hs1 := HS1.out
 have hx0 := HX0.out
 have hy0 := HY0.out
 have hr := HR.out
 have hp := HP.out
 have hL := HL.out
 have hL3 := HL3.out
 have hx1 := HX1.out
 have hw1 := HW1.out
 have hgg := HG.out
 have f_k3_1 : (k3 == 1) = false := beq_eq_false_iff_ne.2 (by omega)
 have f_k3_15 : (k3 == 15) = false := beq_eq_false_iff_ne.2 (by omega)
 have kc := each_2 (K := K) (w := w1) (gb := w.heap.size + 1) hU (fun p => atT p (.mk k3 s3 n3 ps3 fs3 vs3)) (hL.later hb1) (hp.later hb1) (fun b h => by have := hlo b h; omega) (by omega) hy0 (fun p hp wx dx hx hd => KA p hp wx dx (hb1.trans (hx.mono hb1.size)) hd) hn hll
 have KC := Hd kc
 clear kc KA hn hll
 unfold TyPost
 clear hr hp hlo hU hb1 hs1 hx0 hy0 hx1 hw1 hgg hL hL3 hu
 go_enter Tryz.func20, Tryz.ntmps20
 go_upto_region 1 with fail
 rw [← HW1.out, ← HG.out]
 obtain ⟨x0, x1, x2, x3, x4, x5⟩ := cz6 HX0.out
 obtain ⟨y0, y1, y2, y3, y4, y5⟩ := cz6 HY0.out
 go_wp2_with fail
 refine KC.out.mono ?_
 rintro e w2 ⟨rs, rfl, hr2, hb2⟩
 have HBE := Hd (HB1.out.trans (hb2.mono HB1.out.size))
 have rb := box_up hb2 (by have := HG.out; have := HS1.out; omega) HX1.out
 have hr3 : RepT (fun b => K b ∨ g < b) w2 (unionT (ps.map fun p => atT p (.mk k3 s3 n3 ps3 fs3 vs3))) rs := hr2.weak fun b h => h.imp id fun h => by have := HG.out; have := HS1.out; omega
 rw [HUE.out] at hr3
 obtain ⟨Aq, cq, Ag, cg, Ah, ch, rfl, -⟩ := hr3.inv
 have HR3 := Hd hr3
 simp only [cells6T] at HR3 ⊢
 clear hr2 hb2 hr3 KC x0 x1 x2 x3 x4 x5 y0 y1 y2 y3 y4 y5
 obtain ⟨q0, q1, q2, q3, q4, q5, z0, z1, z2, z3, z4, z5⟩ := qz6 rb
 have RBX := Hd rb
 clear rb
 go_wp2_with fail
 have rs := six_set RBX.out (.int .i64 k2) (.string s2) (.int .i64 n2) (.slice Aq ps2.length cq) (.slice Ag fs2.length cg) (.slice Ah vs2.length ch)
 obtain ⟨r0, r1, r2, r3, r4, r5⟩ := cz6 rs
 clear q0 q1 q2 q3 q4 q5 z0 z1 z2 z3 z4 z5 RBX rs
 refine bodyPost_ret (v := .agg #[.int .i64 k2, .string s2, .int .i64 n2, .slice Aq ps2.length cq, .slice Ag fs2.length cg, .slice Ah vs2.length ch]) (by simp [results, Tryz.results20, go_sem, r0, r1, r2, r3, r4, r5]) rfl ?_
 clear r0 r1 r2 r3 r4 r5
 exact ⟨[.int .i64 k2, .string s2, .int .i64 n2, .slice Aq ps2.length cq, .slice Ag fs2.length cg, .slice Ah vs2.length ch], rfl, ret_box (HR3.out) (fun b h => by have := HLO.out b h; have := HG.out; omega) (by have := HG.out; omega) _ _ _ _ _ _, set_six_below (HBE.out) (by have := HG.out; omega) _ _ _ _ _ _⟩
theorem at_c6 (hU : UnionP) {K : Nat → Prop} {w : World} (s : ByteArray) (n : Int) (ps : List Ty) (fs : FsT) (vs : VsT) (s3 : ByteArray) (n3 : Int) (ps3 : List Ty) (fs3 : FsT) (vs3 : VsT) {cs ds : List Value} (hr : RepT K w (.mk 14 s n ps fs vs) cs) (hp : RepT K w (.mk 10 s3 n3 ps3 fs3 vs3) ds) (hlo : ∀ b, K b → b < w.heap.size) (hfm : formT (.mk 14 s n ps fs vs) = true) (hc : cntT (.mk 14 s n ps fs vs) ≤ 1000000) :
  Calls Tryz.prog 20 #[.agg cs.toArray, .agg ds.toArray] w (TyPost K w (fieldT fs s3)) := by
 generalize hu : fieldT fs s3 = u
 obtain ⟨k2, s2, n2, ps2, fs2, vs2⟩ := u
 refine at_pre hr hp hlo fun A c A' c' A'' c'' A3 c3 B3 d3 C3 e3 w1 g hcs hds h => ?_
 clear hr hp
 subst hcs hds
 obtain ⟨HB1, HS1, HX0, HY0, HX1, HW1, HG, HR, HP, HL, HL3, HLO1, hlp, hlp3⟩ := h
 have HLO := Hd hlo
 have HU := Hd hU
 have HUE := Hd hu
 have hb1 := HB1.out
 have hs1 := HS1.out
 have hx0 := HX0.out
 have hy0 := HY0.out
 have hr := HR.out
 have hp := HP.out
 have hL := HL.out
 have hL3 := HL3.out
 have hx1 := HX1.out
 have hw1 := HW1.out
 have hgg := HG.out
 have kc := atfield_any (K := K) (w := w1) hU (hr.later hb1) (fun b h => by have := hlo b h; omega) hfm rfl hc s3
 have KC : Hid (Calls Tryz.prog 35 #[.agg #[.int .i64 14, .string s, .int .i64 n, .slice A ps.length c, .slice A' fs.length c', .slice A'' vs.length c''], .string s3] w1 (TyPost K w1 (fieldT fs s3))) := Hd kc
 clear kc hfm hc
 unfold TyPost
 clear hr hp hlo hU hb1 hs1 hx0 hy0 hx1 hw1 hgg hL hL3 hu
 go_enter Tryz.func20, Tryz.ntmps20
 go_upto_region 1 with fail
 rw [← HW1.out, ← HG.out]
 obtain ⟨x0, x1, x2, x3, x4, x5⟩ := cz6 HX0.out
 obtain ⟨y0, y1, y2, y3, y4, y5⟩ := cz6 HY0.out
 go_wp2_with fail
 refine KC.out.mono ?_
 rintro e w2 ⟨rs, rfl, hr2, hb2⟩
 have HBE := Hd (HB1.out.trans (hb2.mono HB1.out.size))
 have rb := box_up hb2 (by have := HG.out; have := HS1.out; omega) HX1.out
 have hr3 : RepT (fun b => K b ∨ g < b) w2 (fieldT fs s3) rs := hr2.weak fun b h => h.imp id fun h => by have := HG.out; have := HS1.out; omega
 rw [HUE.out] at hr3
 obtain ⟨Aq, cq, Ag, cg, Ah, ch, rfl, -⟩ := hr3.inv
 have HR3 := Hd hr3
 simp only [cells6T] at HR3 ⊢
 clear hr2 hb2 hr3 KC x0 x1 x2 x3 x4 x5 y0 y1 y2 y3 y4 y5
 obtain ⟨q0, q1, q2, q3, q4, q5, z0, z1, z2, z3, z4, z5⟩ := qz6 rb
 have RBX := Hd rb
 clear rb
 go_wp2_with fail
 have rs := six_set RBX.out (.int .i64 k2) (.string s2) (.int .i64 n2) (.slice Aq ps2.length cq) (.slice Ag fs2.length cg) (.slice Ah vs2.length ch)
 obtain ⟨r0, r1, r2, r3, r4, r5⟩ := cz6 rs
 clear q0 q1 q2 q3 q4 q5 z0 z1 z2 z3 z4 z5 RBX rs
 refine bodyPost_ret (v := .agg #[.int .i64 k2, .string s2, .int .i64 n2, .slice Aq ps2.length cq, .slice Ag fs2.length cg, .slice Ah vs2.length ch]) (by simp [results, Tryz.results20, go_sem, r0, r1, r2, r3, r4, r5]) rfl ?_
 clear r0 r1 r2 r3 r4 r5
 exact ⟨[.int .i64 k2, .string s2, .int .i64 n2, .slice Aq ps2.length cq, .slice Ag fs2.length cg, .slice Ah vs2.length ch], rfl, ret_box (HR3.out) (fun b h => by have := HLO.out b h; have := HG.out; omega) (by have := HG.out; omega) _ _ _ _ _ _, set_six_below (HBE.out) (by have := HG.out; omega) _ _ _ _ _ _⟩
theorem at_n0 (hU : UnionP) {K : Nat → Prop} {w : World} (s : ByteArray) (n : Int) (ps : List Ty) (fs : FsT) (vs : VsT) (s3 : ByteArray) (n3 : Int) (ps3 : List Ty) (fs3 : FsT) (vs3 : VsT) {cs ds : List Value} (hr : RepT K w (.mk 11 s n ps fs vs) cs) (hp : RepT K w (.mk 7 s3 n3 ps3 fs3 vs3) ds) (hlo : ∀ b, K b → b < w.heap.size) (hn : (flatU (tyK 4 :: ps)).length ≤ 1099511627776) (hll : 1 + ps.length ≤ 1099511627776) :
  Calls Tryz.prog 20 #[.agg cs.toArray, .agg ds.toArray] w (TyPost K w (unionT (tyK 4 :: ps))) := by
 generalize hu : unionT (tyK 4 :: ps) = u
 obtain ⟨k2, s2, n2, ps2, fs2, vs2⟩ := u
 refine at_pre hr hp hlo fun A c A' c' A'' c'' A3 c3 B3 d3 C3 e3 w1 g hcs hds h => ?_
 clear hr hp
 subst hcs hds
 obtain ⟨HB1, HS1, HX0, HY0, HX1, HW1, HG, HR, HP, HL, HL3, HLO1, hlp, hlp3⟩ := h
 have HLO := Hd hlo
 have HU := Hd hU
 have HUE := Hd hu
 have hb1 := HB1.out
 have hs1 := HS1.out
 have hx0 := HX0.out
 have hy0 := HY0.out
 have hr := HR.out
 have hp := HP.out
 have hL := HL.out
 have hL3 := HL3.out
 have hx1 := HX1.out
 have hw1 := HW1.out
 have hgg := HG.out
 have KC := Hd (ornull_any (K := K) (w := w1) hU (hL.later hb1) (fun b h => by have := hlo b h; omega) hn hll)
 clear hn hll
 unfold TyPost
 clear hr hp hlo hU hb1 hs1 hx0 hy0 hx1 hw1 hgg hL hL3 hu
 go_enter Tryz.func20, Tryz.ntmps20
 go_upto_region 1 with fail
 rw [← HW1.out, ← HG.out]
 obtain ⟨x0, x1, x2, x3, x4, x5⟩ := cz6 HX0.out
 obtain ⟨y0, y1, y2, y3, y4, y5⟩ := cz6 HY0.out
 go_wp2_with fail
 refine KC.out.mono ?_
 rintro e w2 ⟨rs, rfl, hr2, hb2⟩
 have HBE := Hd (HB1.out.trans (hb2.mono HB1.out.size))
 have rb := box_up hb2 (by have := HG.out; have := HS1.out; omega) HX1.out
 have hr3 : RepT (fun b => K b ∨ g < b) w2 (unionT (tyK 4 :: ps)) rs := hr2.weak fun b h => h.imp id fun h => by have := HG.out; have := HS1.out; omega
 rw [HUE.out] at hr3
 obtain ⟨Aq, cq, Ag, cg, Ah, ch, rfl, -⟩ := hr3.inv
 have HR3 := Hd hr3
 simp only [cells6T] at HR3 ⊢
 clear hr2 hb2 hr3 KC x0 x1 x2 x3 x4 x5 y0 y1 y2 y3 y4 y5
 obtain ⟨q0, q1, q2, q3, q4, q5, z0, z1, z2, z3, z4, z5⟩ := qz6 rb
 have RBX := Hd rb
 clear rb
 go_wp2_with fail
 have rs := six_set RBX.out (.int .i64 k2) (.string s2) (.int .i64 n2) (.slice Aq ps2.length cq) (.slice Ag fs2.length cg) (.slice Ah vs2.length ch)
 obtain ⟨r0, r1, r2, r3, r4, r5⟩ := cz6 rs
 clear q0 q1 q2 q3 q4 q5 z0 z1 z2 z3 z4 z5 RBX rs
 refine bodyPost_ret (v := .agg #[.int .i64 k2, .string s2, .int .i64 n2, .slice Aq ps2.length cq, .slice Ag fs2.length cg, .slice Ah vs2.length ch]) (by simp [results, Tryz.results20, go_sem, r0, r1, r2, r3, r4, r5]) rfl ?_
 clear r0 r1 r2 r3 r4 r5
 exact ⟨[.int .i64 k2, .string s2, .int .i64 n2, .slice Aq ps2.length cq, .slice Ag fs2.length cg, .slice Ah vs2.length ch], rfl, ret_box (HR3.out) (fun b h => by have := HLO.out b h; have := HG.out; omega) (by have := HG.out; omega) _ _ _ _ _ _, set_six_below (HBE.out) (by have := HG.out; omega) _ _ _ _ _ _⟩
theorem at_n1 (hU : UnionP) {K : Nat → Prop} {w : World} (s : ByteArray) (n : Int) (ps : List Ty) (fs : FsT) (vs : VsT) (s3 : ByteArray) (n3 : Int) (ps3 : List Ty) (fs3 : FsT) (vs3 : VsT) {cs ds : List Value} (hr : RepT K w (.mk 11 s n ps fs vs) cs) (hp : RepT K w (.mk 9 s3 n3 ps3 fs3 vs3) ds) (hlo : ∀ b, K b → b < w.heap.size) (hn : (flatU (tyK 4 :: ps)).length ≤ 1099511627776) (hll : 1 + ps.length ≤ 1099511627776) :
  Calls Tryz.prog 20 #[.agg cs.toArray, .agg ds.toArray] w (TyPost K w (unionT (tyK 4 :: ps))) := by
 generalize hu : unionT (tyK 4 :: ps) = u
 obtain ⟨k2, s2, n2, ps2, fs2, vs2⟩ := u
 refine at_pre hr hp hlo fun A c A' c' A'' c'' A3 c3 B3 d3 C3 e3 w1 g hcs hds h => ?_
 clear hr hp
 subst hcs hds
 obtain ⟨HB1, HS1, HX0, HY0, HX1, HW1, HG, HR, HP, HL, HL3, HLO1, hlp, hlp3⟩ := h
 have HLO := Hd hlo
 have HU := Hd hU
 have HUE := Hd hu
 have hb1 := HB1.out
 have hs1 := HS1.out
 have hx0 := HX0.out
 have hy0 := HY0.out
 have hr := HR.out
 have hp := HP.out
 have hL := HL.out
 have hL3 := HL3.out
 have hx1 := HX1.out
 have hw1 := HW1.out
 have hgg := HG.out
 have KC := Hd (ornull_any (K := K) (w := w1) hU (hL.later hb1) (fun b h => by have := hlo b h; omega) hn hll)
 clear hn hll
 unfold TyPost
 clear hr hp hlo hU hb1 hs1 hx0 hy0 hx1 hw1 hgg hL hL3 hu
 go_enter Tryz.func20, Tryz.ntmps20
 go_upto_region 1 with fail
 rw [← HW1.out, ← HG.out]
 obtain ⟨x0, x1, x2, x3, x4, x5⟩ := cz6 HX0.out
 obtain ⟨y0, y1, y2, y3, y4, y5⟩ := cz6 HY0.out
 go_wp2_with fail
 refine KC.out.mono ?_
 rintro e w2 ⟨rs, rfl, hr2, hb2⟩
 have HBE := Hd (HB1.out.trans (hb2.mono HB1.out.size))
 have rb := box_up hb2 (by have := HG.out; have := HS1.out; omega) HX1.out
 have hr3 : RepT (fun b => K b ∨ g < b) w2 (unionT (tyK 4 :: ps)) rs := hr2.weak fun b h => h.imp id fun h => by have := HG.out; have := HS1.out; omega
 rw [HUE.out] at hr3
 obtain ⟨Aq, cq, Ag, cg, Ah, ch, rfl, -⟩ := hr3.inv
 have HR3 := Hd hr3
 simp only [cells6T] at HR3 ⊢
 clear hr2 hb2 hr3 KC x0 x1 x2 x3 x4 x5 y0 y1 y2 y3 y4 y5
 obtain ⟨q0, q1, q2, q3, q4, q5, z0, z1, z2, z3, z4, z5⟩ := qz6 rb
 have RBX := Hd rb
 clear rb
 go_wp2_with fail
 have rs := six_set RBX.out (.int .i64 k2) (.string s2) (.int .i64 n2) (.slice Aq ps2.length cq) (.slice Ag fs2.length cg) (.slice Ah vs2.length ch)
 obtain ⟨r0, r1, r2, r3, r4, r5⟩ := cz6 rs
 clear q0 q1 q2 q3 q4 q5 z0 z1 z2 z3 z4 z5 RBX rs
 refine bodyPost_ret (v := .agg #[.int .i64 k2, .string s2, .int .i64 n2, .slice Aq ps2.length cq, .slice Ag fs2.length cg, .slice Ah vs2.length ch]) (by simp [results, Tryz.results20, go_sem, r0, r1, r2, r3, r4, r5]) rfl ?_
 clear r0 r1 r2 r3 r4 r5
 exact ⟨[.int .i64 k2, .string s2, .int .i64 n2, .slice Aq ps2.length cq, .slice Ag fs2.length cg, .slice Ah vs2.length ch], rfl, ret_box (HR3.out) (fun b h => by have := HLO.out b h; have := HG.out; omega) (by have := HG.out; omega) _ _ _ _ _ _, set_six_below (HBE.out) (by have := HG.out; omega) _ _ _ _ _ _⟩
theorem at_n2 (hU : UnionP) {K : Nat → Prop} {w : World} (s : ByteArray) (n : Int) (ps : List Ty) (fs : FsT) (vs : VsT) (s3 : ByteArray) (n3 : Int) (ps3 : List Ty) (fs3 : FsT) (vs3 : VsT) {cs ds : List Value} (hr : RepT K w (.mk 12 s n ps fs vs) cs) (hp : RepT K w (.mk 7 s3 n3 ps3 fs3 vs3) ds) (hlo : ∀ b, K b → b < w.heap.size) (hn : (flatU (tyK 4 :: ps)).length ≤ 1099511627776) (hll : 1 + ps.length ≤ 1099511627776) :
  Calls Tryz.prog 20 #[.agg cs.toArray, .agg ds.toArray] w (TyPost K w (unionT (tyK 4 :: ps))) := by
 generalize hu : unionT (tyK 4 :: ps) = u
 obtain ⟨k2, s2, n2, ps2, fs2, vs2⟩ := u
 refine at_pre hr hp hlo fun A c A' c' A'' c'' A3 c3 B3 d3 C3 e3 w1 g hcs hds h => ?_
 clear hr hp
 subst hcs hds
 obtain ⟨HB1, HS1, HX0, HY0, HX1, HW1, HG, HR, HP, HL, HL3, HLO1, hlp, hlp3⟩ := h
 have HLO := Hd hlo
 have HU := Hd hU
 have HUE := Hd hu
 have hb1 := HB1.out
 have hs1 := HS1.out
 have hx0 := HX0.out
 have hy0 := HY0.out
 have hr := HR.out
 have hp := HP.out
 have hL := HL.out
 have hL3 := HL3.out
 have hx1 := HX1.out
 have hw1 := HW1.out
 have hgg := HG.out
 have KC := Hd (ornull_any (K := K) (w := w1) hU (hL.later hb1) (fun b h => by have := hlo b h; omega) hn hll)
 clear hn hll
 unfold TyPost
 clear hr hp hlo hU hb1 hs1 hx0 hy0 hx1 hw1 hgg hL hL3 hu
 go_enter Tryz.func20, Tryz.ntmps20
 go_upto_region 1 with fail
 rw [← HW1.out, ← HG.out]
 obtain ⟨x0, x1, x2, x3, x4, x5⟩ := cz6 HX0.out
 obtain ⟨y0, y1, y2, y3, y4, y5⟩ := cz6 HY0.out
 go_wp2_with fail
 refine KC.out.mono ?_
 rintro e w2 ⟨rs, rfl, hr2, hb2⟩
 have HBE := Hd (HB1.out.trans (hb2.mono HB1.out.size))
 have rb := box_up hb2 (by have := HG.out; have := HS1.out; omega) HX1.out
 have hr3 : RepT (fun b => K b ∨ g < b) w2 (unionT (tyK 4 :: ps)) rs := hr2.weak fun b h => h.imp id fun h => by have := HG.out; have := HS1.out; omega
 rw [HUE.out] at hr3
 obtain ⟨Aq, cq, Ag, cg, Ah, ch, rfl, -⟩ := hr3.inv
 have HR3 := Hd hr3
 simp only [cells6T] at HR3 ⊢
 clear hr2 hb2 hr3 KC x0 x1 x2 x3 x4 x5 y0 y1 y2 y3 y4 y5
 obtain ⟨q0, q1, q2, q3, q4, q5, z0, z1, z2, z3, z4, z5⟩ := qz6 rb
 have RBX := Hd rb
 clear rb
 go_wp2_with fail
 have rs := six_set RBX.out (.int .i64 k2) (.string s2) (.int .i64 n2) (.slice Aq ps2.length cq) (.slice Ag fs2.length cg) (.slice Ah vs2.length ch)
 obtain ⟨r0, r1, r2, r3, r4, r5⟩ := cz6 rs
 clear q0 q1 q2 q3 q4 q5 z0 z1 z2 z3 z4 z5 RBX rs
 refine bodyPost_ret (v := .agg #[.int .i64 k2, .string s2, .int .i64 n2, .slice Aq ps2.length cq, .slice Ag fs2.length cg, .slice Ah vs2.length ch]) (by simp [results, Tryz.results20, go_sem, r0, r1, r2, r3, r4, r5]) rfl ?_
 clear r0 r1 r2 r3 r4 r5
 exact ⟨[.int .i64 k2, .string s2, .int .i64 n2, .slice Aq ps2.length cq, .slice Ag fs2.length cg, .slice Ah vs2.length ch], rfl, ret_box (HR3.out) (fun b h => by have := HLO.out b h; have := HG.out; omega) (by have := HG.out; omega) _ _ _ _ _ _, set_six_below (HBE.out) (by have := HG.out; omega) _ _ _ _ _ _⟩
theorem at_i0 (hU : UnionP) {K : Nat → Prop} {w : World} (s : ByteArray) (n : Int) (ps : List Ty) (fs : FsT) (vs : VsT) (s3 : ByteArray) (m : Nat) (ps3 : List Ty) (fs3 : FsT) (vs3 : VsT) {cs ds : List Value} (hr : RepT K w (.mk 12 s n ps fs vs) cs) (hp : RepT K w (.mk 9 s3 (m : Int) ps3 fs3 vs3) ds) (hlo : ∀ b, K b → b < w.heap.size) (hm : ps.length ≤ m) :
  Calls Tryz.prog 20 #[.agg cs.toArray, .agg ds.toArray] w (TyPost K w (tyK 4)) := by
 generalize hu : tyK 4 = u
 obtain ⟨k2, s2, n2, ps2, fs2, vs2⟩ := u
 refine at_pre hr hp hlo fun A c A' c' A'' c'' A3 c3 B3 d3 C3 e3 w1 g hcs hds h => ?_
 clear hr hp
 subst hcs hds
 obtain ⟨HB1, HS1, HX0, HY0, HX1, HW1, HG, HR, HP, HL, HL3, HLO1, hlp, hlp3⟩ := h
 have HLO := Hd hlo
 have HU := Hd hU
 have HUE := Hd hu
 have hb1 := HB1.out
 have hs1 := HS1.out
 have hx0 := HX0.out
 have hy0 := HY0.out
 have hr := HR.out
 have hp := HP.out
 have hL := HL.out
 have hL3 := HL3.out
 have hx1 := HX1.out
 have hw1 := HW1.out
 have hgg := HG.out
 have i1 : (0 : Int) ≤ (m : Int) := by omega
 have i2 : decide ((m : Int) < 0) = false := decide_eq_false (by omega)
 have i3 : decide ((ps.length : Int) ≤ (m : Int)) = true := decide_eq_true (by omega)
 have i4 : decide (ps.length ≤ m) = true := decide_eq_true (by omega)
 unfold TyPost
 clear hr hp hlo hU hb1 hs1 hx0 hy0 hx1 hw1 hgg hL hL3 hu
 go_enter Tryz.func20, Tryz.ntmps20
 go_upto_region 1 with fail
 rw [← HW1.out, ← HG.out]
 obtain ⟨x0, x1, x2, x3, x4, x5⟩ := cz6 HX0.out
 obtain ⟨y0, y1, y2, y3, y4, y5⟩ := cz6 HY0.out
 go_upto_region 16 with fail
 have rb := HX1.out
 obtain ⟨q0, q1, q2, q3, q4, q5, z0, z1, z2, z3, z4, z5⟩ := qz6 rb
 have RBX := Hd rb
 clear rb
 go_wp2_with fail
 have rs := six_set RBX.out (.int .i64 4) (.string ⟨#[]⟩) (.int .i64 0) (.slice none 0 0) (.slice none 0 0) (.slice none 0 0)
 obtain ⟨r0, r1, r2, r3, r4, r5⟩ := cz6 rs
 clear q0 q1 q2 q3 q4 q5 z0 z1 z2 z3 z4 z5 RBX rs
 refine bodyPost_ret (v := .agg #[.int .i64 4, .string ⟨#[]⟩, .int .i64 0, .slice none 0 0, .slice none 0 0, .slice none 0 0]) (by simp [results, Tryz.results20, go_sem, r0, r1, r2, r3, r4, r5]) rfl ?_
 clear r0 r1 r2 r3 r4 r5
 rw [← HUE.out]
 exact ⟨[.int .i64 4, .string ⟨#[]⟩, .int .i64 0, .slice none 0 0, .slice none 0 0, .slice none 0 0], rfl, ret_box (rep_k (fun b => K b ∨ g < b) w1 4) (fun b h => by have := HLO.out b h; have := HG.out; omega) (by have := HG.out; omega) _ _ _ _ _ _, set_six_below (HB1.out) (by have := HG.out; omega) _ _ _ _ _ _⟩
end Go.Proofs.YteakkjhcdpbidaaGreatDoor
