import Derived.Test.YteakkjhcdpbidaaGreatDoorMk42
import Derived.Test.YteakkjhcdpbidaaGreatDoorMk46
import Derived.Test.YteakkjhcdpbidaaGreatDoorMk47
namespace Go.Proofs.YteakkjhcdpbidaaGreatDoor
set_option maxRecDepth 100000
set_option maxHeartbeats 64000000
open Go.RowKit
theorem stands_1 {K : Nat → Prop} {w : World} (k : Int) (s : ByteArray) (n : Int) (ps : List Ty) (fs : FsT) (vs : VsT) (s3 : ByteArray) (n3 : Int) (ps3 : List Ty) (fs3 : FsT) (vs3 : VsT) {cs ds : List Value} (hr : RepT K w (.mk k s n ps fs vs) cs) (hp : RepT K w (.mk 1 s3 n3 ps3 fs3 vs3) ds) (hlo : ∀ b, K b → b < w.heap.size)  :
  Calls Tryz.prog 21 #[.agg cs.toArray, .agg ds.toArray] w (FdT K w (.mk 1 s3 n3 ps3 fs3 vs3)) := by
 unfold FdT
 refine two_res hr hp fun A c B d C e A3 c3 B3 d3 C3 e3 w1 g h hcs hds => ?_
 subst hcs
 subst hds
 obtain ⟨HX, HY, HB1, HS1, HG, HW1, HR, HP⟩ := h
 have HLO := Hd hlo
 have HRR : Hid (RepT (fun b => K b ∨ g < b) w1 (.mk 1 s3 n3 ps3 fs3 vs3) [.int .i64 1, .string s3, .int .i64 n3, .slice A3 ps3.length c3, .slice B3 fs3.length d3, .slice C3 vs3.length e3]) := Hd (HP.out.weak fun b h => .inl h)
 have rb := HY.out
 clear hr hp hlo
 go_enter Tryz.func21, Tryz.ntmps21
 go_upto_region 1 with fail
 rw [← HW1.out, ← HG.out]
 obtain ⟨⟨x0, x1, x2, x3, x4, x5⟩, ⟨y0, y1, y2, y3, y4, y5⟩⟩ := HX.out _ (Below.refl _ _)
 obtain ⟨q0, q1, q2, q3, q4, q5, z0, z1, z2, z3, z4, z5⟩ := qz6 rb
 have RBX := Hd rb
 clear rb
 go_wp2_with fail
 obtain ⟨r0, r1, r2, r3, r4, r5⟩ := cz6 (six_set RBX.out (.int .i64 1) (.string s3) (.int .i64 n3) (.slice A3 ps3.length c3) (.slice B3 fs3.length d3) (.slice C3 vs3.length e3))
 clear q0 q1 q2 q3 q4 q5 z0 z1 z2 z3 z4 z5 RBX
 refine bodyPost_ret (v := .agg #[.int .i64 1, .string s3, .int .i64 n3, .slice A3 ps3.length c3, .slice B3 fs3.length d3, .slice C3 vs3.length e3]) (by simp [results, Tryz.results21, go_sem, r0, r1, r2, r3, r4, r5]) rfl ?_
 clear r0 r1 r2 r3 r4 r5
 exact ⟨[.int .i64 1, .string s3, .int .i64 n3, .slice A3 ps3.length c3, .slice B3 fs3.length d3, .slice C3 vs3.length e3], rfl, ret_box HRR.out (fun b h => by have h1 := HLO.out b h; have h2 := HG.out; omega) (by have := HG.out; omega) _ _ _ _ _ _, set_six_below HB1.out (by have := HG.out; omega) _ _ _ _ _ _⟩
theorem stands_k3 {K : Nat → Prop} {w : World} (s : ByteArray) (n : Int) (ps : List Ty) (fs : FsT) (vs : VsT) (k3 : Int) (s3 : ByteArray) (n3 : Int) (ps3 : List Ty) (fs3 : FsT) (vs3 : VsT) {cs ds : List Value} (hr : RepT K w (.mk 3 s n ps fs vs) cs) (hp : RepT K w (.mk k3 s3 n3 ps3 fs3 vs3) ds) (hlo : ∀ b, K b → b < w.heap.size) (hg1 : k3 ≠ 1) :
  Calls Tryz.prog 21 #[.agg cs.toArray, .agg ds.toArray] w (FdT K w (.mk 3 s n ps fs vs)) := by
 unfold FdT
 have g1 : (k3 == 1) = false := beq_eq_false_iff_ne.2 hg1
 refine two_res hr hp fun A c B d C e A3 c3 B3 d3 C3 e3 w1 g h hcs hds => ?_
 subst hcs
 subst hds
 obtain ⟨HX, HY, HB1, HS1, HG, HW1, HR, HP⟩ := h
 have HLO := Hd hlo
 have HRR : Hid (RepT (fun b => K b ∨ g < b) w1 (.mk 3 s n ps fs vs) [.int .i64 3, .string s, .int .i64 n, .slice A ps.length c, .slice B fs.length d, .slice C vs.length e]) := Hd (HR.out.weak fun b h => .inl h)
 have rb := HY.out
 clear hr hp hlo hg1
 go_enter Tryz.func21, Tryz.ntmps21
 go_upto_region 1 with fail
 rw [← HW1.out, ← HG.out]
 obtain ⟨⟨x0, x1, x2, x3, x4, x5⟩, ⟨y0, y1, y2, y3, y4, y5⟩⟩ := HX.out _ (Below.refl _ _)
 obtain ⟨q0, q1, q2, q3, q4, q5, z0, z1, z2, z3, z4, z5⟩ := qz6 rb
 have RBX := Hd rb
 clear rb
 go_wp2_with fail
 obtain ⟨r0, r1, r2, r3, r4, r5⟩ := cz6 (six_set RBX.out (.int .i64 3) (.string s) (.int .i64 n) (.slice A ps.length c) (.slice B fs.length d) (.slice C vs.length e))
 clear q0 q1 q2 q3 q4 q5 z0 z1 z2 z3 z4 z5 RBX
 refine bodyPost_ret (v := .agg #[.int .i64 3, .string s, .int .i64 n, .slice A ps.length c, .slice B fs.length d, .slice C vs.length e]) (by simp [results, Tryz.results21, go_sem, r0, r1, r2, r3, r4, r5]) rfl ?_
 clear r0 r1 r2 r3 r4 r5
 exact ⟨[.int .i64 3, .string s, .int .i64 n, .slice A ps.length c, .slice B fs.length d, .slice C vs.length e], rfl, ret_box HRR.out (fun b h => by have h1 := HLO.out b h; have h2 := HG.out; omega) (by have := HG.out; omega) _ _ _ _ _ _, set_six_below HB1.out (by have := HG.out; omega) _ _ _ _ _ _⟩
theorem stands_k1 {K : Nat → Prop} {w : World} (s : ByteArray) (n : Int) (ps : List Ty) (fs : FsT) (vs : VsT) (k3 : Int) (s3 : ByteArray) (n3 : Int) (ps3 : List Ty) (fs3 : FsT) (vs3 : VsT) {cs ds : List Value} (hr : RepT K w (.mk 1 s n ps fs vs) cs) (hp : RepT K w (.mk k3 s3 n3 ps3 fs3 vs3) ds) (hlo : ∀ b, K b → b < w.heap.size) (hg1 : k3 ≠ 1) :
  Calls Tryz.prog 21 #[.agg cs.toArray, .agg ds.toArray] w (FdT K w (.mk 1 s n ps fs vs)) := by
 unfold FdT
 have g1 : (k3 == 1) = false := beq_eq_false_iff_ne.2 hg1
 refine two_res hr hp fun A c B d C e A3 c3 B3 d3 C3 e3 w1 g h hcs hds => ?_
 subst hcs
 subst hds
 obtain ⟨HX, HY, HB1, HS1, HG, HW1, HR, HP⟩ := h
 have HLO := Hd hlo
 have HRR : Hid (RepT (fun b => K b ∨ g < b) w1 (.mk 1 s n ps fs vs) [.int .i64 1, .string s, .int .i64 n, .slice A ps.length c, .slice B fs.length d, .slice C vs.length e]) := Hd (HR.out.weak fun b h => .inl h)
 have rb := HY.out
 clear hr hp hlo hg1
 go_enter Tryz.func21, Tryz.ntmps21
 go_upto_region 1 with fail
 rw [← HW1.out, ← HG.out]
 obtain ⟨⟨x0, x1, x2, x3, x4, x5⟩, ⟨y0, y1, y2, y3, y4, y5⟩⟩ := HX.out _ (Below.refl _ _)
 obtain ⟨q0, q1, q2, q3, q4, q5, z0, z1, z2, z3, z4, z5⟩ := qz6 rb
 have RBX := Hd rb
 clear rb
 go_wp2_with fail
 obtain ⟨r0, r1, r2, r3, r4, r5⟩ := cz6 (six_set RBX.out (.int .i64 1) (.string s) (.int .i64 n) (.slice A ps.length c) (.slice B fs.length d) (.slice C vs.length e))
 clear q0 q1 q2 q3 q4 q5 z0 z1 z2 z3 z4 z5 RBX
 refine bodyPost_ret (v := .agg #[.int .i64 1, .string s, .int .i64 n, .slice A ps.length c, .slice B fs.length d, .slice C vs.length e]) (by simp [results, Tryz.results21, go_sem, r0, r1, r2, r3, r4, r5]) rfl ?_
 clear r0 r1 r2 r3 r4 r5
 exact ⟨[.int .i64 1, .string s, .int .i64 n, .slice A ps.length c, .slice B fs.length d, .slice C vs.length e], rfl, ret_box HRR.out (fun b h => by have h1 := HLO.out b h; have h2 := HG.out; omega) (by have := HG.out; omega) _ _ _ _ _ _, set_six_below HB1.out (by have := HG.out; omega) _ _ _ _ _ _⟩
theorem stands_f {K : Nat → Prop} {w : World} (s : ByteArray) (n : Int) (ps : List Ty) (fs : FsT) (vs : VsT) (s3 : ByteArray) (n3 : Int) (ps3 : List Ty) (fs3 : FsT) (vs3 : VsT) {cs ds : List Value} (hr : RepT K w (.mk 14 s n ps fs vs) cs) (hp : RepT K w (.mk 10 s3 n3 ps3 fs3 vs3) ds) (hlo : ∀ b, K b → b < w.heap.size) (hfs : ∀ f ∈ fs, (formT f.2.2 = true ∧ cntT f.2.2 ≤ 1000000) ∧ 0 ≤ f.2.1 ∧ f.2.1 ≤ 3) :
  Calls Tryz.prog 21 #[.agg cs.toArray, .agg ds.toArray] w (FdT K w (fieldT fs s3)) := by
 unfold FdT
 refine two_res hr hp fun A c B d C e A3 c3 B3 d3 C3 e3 w1 g h hcs hds => ?_
 subst hcs
 subst hds
 obtain ⟨HX, HY, HB1, HS1, HG, HW1, HR, HP⟩ := h
 have HLO := Hd hlo
 have KC := Hd (field_ref s3 HR.out (fun b h => Nat.lt_of_lt_of_le (hlo b h) HB1.out.size) hfs)
 unfold FdT at KC
 generalize fieldT fs s3 = u8 at KC ⊢
 clear hr hp hlo hfs
 go_enter Tryz.func21, Tryz.ntmps21
 go_upto_region 1 with fail
 rw [← HW1.out, ← HG.out]
 obtain ⟨⟨x0, x1, x2, x3, x4, x5⟩, ⟨y0, y1, y2, y3, y4, y5⟩⟩ := HX.out _ (Below.refl _ _)
 go_wp2_with fail
 refine (KC.out).mono ?_
 rintro e w7 ⟨rs, rfl, hr7, hb7⟩
 have HZ7 := Hd hb7
 have HB7 := Hd (HB1.out.trans (hb7.mono HB1.out.size))
 clear hb7 KC x0 x1 x2 x3 x4 x5 y0 y1 y2 y3 y4 y5
 have rb := box_up HZ7.out (by have := HS1.out; omega) HY.out
 have hr8 : RepT (fun b => K b ∨ g < b) w7 u8 rs := hr7.weak fun b h => by
  have h1 := HS1.out
  rcases h with h | h
  ·exact .inl h
  ·exact .inr (by omega)
 obtain ⟨k8, s8, n8, ps8, fs8, vs8⟩ := u8
 obtain ⟨A8, c8, B8, d8, C8, e8, rfl, -⟩ := hr8.inv
 have HRR := Hd hr8
 simp only [cells6T] at HRR ⊢
 clear hr7 hr8
 obtain ⟨q0, q1, q2, q3, q4, q5, z0, z1, z2, z3, z4, z5⟩ := qz6 rb
 have RBX := Hd rb
 clear rb
 go_wp2_with fail
 obtain ⟨r0, r1, r2, r3, r4, r5⟩ := cz6 (six_set RBX.out (.int .i64 k8) (.string s8) (.int .i64 n8) (.slice A8 ps8.length c8) (.slice B8 fs8.length d8) (.slice C8 vs8.length e8))
 clear q0 q1 q2 q3 q4 q5 z0 z1 z2 z3 z4 z5 RBX
 refine bodyPost_ret (v := .agg #[.int .i64 k8, .string s8, .int .i64 n8, .slice A8 ps8.length c8, .slice B8 fs8.length d8, .slice C8 vs8.length e8]) (by simp [results, Tryz.results21, go_sem, r0, r1, r2, r3, r4, r5]) rfl ?_
 clear r0 r1 r2 r3 r4 r5
 exact ⟨[.int .i64 k8, .string s8, .int .i64 n8, .slice A8 ps8.length c8, .slice B8 fs8.length d8, .slice C8 vs8.length e8], rfl, ret_box HRR.out (fun b h => by have h1 := HLO.out b h; have h2 := HG.out; omega) (by have := HG.out; omega) _ _ _ _ _ _, set_six_below HB7.out (by have := HG.out; omega) _ _ _ _ _ _⟩
theorem stands_ra {K : Nat → Prop} {w : World} (k : Int) (s : ByteArray) (n : Int) (ps : List Ty) (fs : FsT) (vs : VsT) (k3 : Int) (s3 : ByteArray) (n3 : Int) (ps3 : List Ty) (fs3 : FsT) (vs3 : VsT) {cs ds : List Value} (hr : RepT K w (.mk k s n ps fs vs) cs) (hp : RepT K w (.mk k3 s3 n3 ps3 fs3 vs3) ds) (hlo : ∀ b, K b → b < w.heap.size) (h3 : k ≠ 3) (h1 : k ≠ 1) (h15 : k ≠ 15) (h14 : k ≠ 14) (hg1 : k3 ≠ 1) (hg15 : k3 ≠ 15) (hft : formT (.mk k s n ps fs vs) = true) (hfq : formT (.mk k3 s3 n3 ps3 fs3 vs3) = true) (hc : cntT (.mk k s n ps fs vs) ≤ 1000000) :
  Calls Tryz.prog 21 #[.agg cs.toArray, .agg ds.toArray] w (FdT K w (rowT (.mk k s n ps fs vs) (.mk k3 s3 n3 ps3 fs3 vs3))) := by
 unfold FdT
 have f3 : (k == 3) = false := beq_eq_false_iff_ne.2 h3
 have f1 : (k == 1) = false := beq_eq_false_iff_ne.2 h1
 have f15 : (k == 15) = false := beq_eq_false_iff_ne.2 h15
 have f14 : (k == 14) = false := beq_eq_false_iff_ne.2 h14
 have g1 : (k3 == 1) = false := beq_eq_false_iff_ne.2 hg1
 have g15 : (k3 == 15) = false := beq_eq_false_iff_ne.2 hg15
 refine two_res hr hp fun A c B d C e A3 c3 B3 d3 C3 e3 w1 g h hcs hds => ?_
 subst hcs
 subst hds
 obtain ⟨HX, HY, HB1, HS1, HG, HW1, HR, HP⟩ := h
 have HLO := Hd hlo
 have KC := Hd (row_ref HR.out HP.out (fun b h => Nat.lt_of_lt_of_le (hlo b h) HB1.out.size) hft hfq hc)
 unfold FdT at KC
 generalize rowT (.mk k s n ps fs vs) (.mk k3 s3 n3 ps3 fs3 vs3) = u8 at KC ⊢
 clear hr hp hlo hft hfq hc h3 h1 h15 h14 hg1 hg15
 go_enter Tryz.func21, Tryz.ntmps21
 go_upto_region 1 with fail
 rw [← HW1.out, ← HG.out]
 obtain ⟨⟨x0, x1, x2, x3, x4, x5⟩, ⟨y0, y1, y2, y3, y4, y5⟩⟩ := HX.out _ (Below.refl _ _)
 go_wp2_with fail
 refine (KC.out).mono ?_
 rintro e w7 ⟨rs, rfl, hr7, hb7⟩
 have HZ7 := Hd hb7
 have HB7 := Hd (HB1.out.trans (hb7.mono HB1.out.size))
 clear hb7 KC x0 x1 x2 x3 x4 x5 y0 y1 y2 y3 y4 y5
 have rb := box_up HZ7.out (by have := HS1.out; omega) HY.out
 have hr8 : RepT (fun b => K b ∨ g < b) w7 u8 rs := hr7.weak fun b h => by
  have h1 := HS1.out
  rcases h with h | h
  ·exact .inl h
  ·exact .inr (by omega)
 obtain ⟨k8, s8, n8, ps8, fs8, vs8⟩ := u8
 obtain ⟨A8, c8, B8, d8, C8, e8, rfl, -⟩ := hr8.inv
 have HRR := Hd hr8
 simp only [cells6T] at HRR ⊢
 clear hr7 hr8
 obtain ⟨q0, q1, q2, q3, q4, q5, z0, z1, z2, z3, z4, z5⟩ := qz6 rb
 have RBX := Hd rb
 clear rb
 go_wp2_with fail
 obtain ⟨r0, r1, r2, r3, r4, r5⟩ := cz6 (six_set RBX.out (.int .i64 k8) (.string s8) (.int .i64 n8) (.slice A8 ps8.length c8) (.slice B8 fs8.length d8) (.slice C8 vs8.length e8))
 clear q0 q1 q2 q3 q4 q5 z0 z1 z2 z3 z4 z5 RBX
 refine bodyPost_ret (v := .agg #[.int .i64 k8, .string s8, .int .i64 n8, .slice A8 ps8.length c8, .slice B8 fs8.length d8, .slice C8 vs8.length e8]) (by simp [results, Tryz.results21, go_sem, r0, r1, r2, r3, r4, r5]) rfl ?_
 clear r0 r1 r2 r3 r4 r5
 exact ⟨[.int .i64 k8, .string s8, .int .i64 n8, .slice A8 ps8.length c8, .slice B8 fs8.length d8, .slice C8 vs8.length e8], rfl, ret_box HRR.out (fun b h => by have h1 := HLO.out b h; have h2 := HG.out; omega) (by have := HG.out; omega) _ _ _ _ _ _, set_six_below HB7.out (by have := HG.out; omega) _ _ _ _ _ _⟩
theorem stands_rb {K : Nat → Prop} {w : World} (s : ByteArray) (n : Int) (ps : List Ty) (fs : FsT) (vs : VsT) (k3 : Int) (s3 : ByteArray) (n3 : Int) (ps3 : List Ty) (fs3 : FsT) (vs3 : VsT) {cs ds : List Value} (hr : RepT K w (.mk 14 s n ps fs vs) cs) (hp : RepT K w (.mk k3 s3 n3 ps3 fs3 vs3) ds) (hlo : ∀ b, K b → b < w.heap.size) (hg1 : k3 ≠ 1) (hg15 : k3 ≠ 15) (hg10 : k3 ≠ 10) (hft : formT (.mk 14 s n ps fs vs) = true) (hfq : formT (.mk k3 s3 n3 ps3 fs3 vs3) = true) (hc : cntT (.mk 14 s n ps fs vs) ≤ 1000000) :
  Calls Tryz.prog 21 #[.agg cs.toArray, .agg ds.toArray] w (FdT K w (rowT (.mk 14 s n ps fs vs) (.mk k3 s3 n3 ps3 fs3 vs3))) := by
 unfold FdT
 have g1 : (k3 == 1) = false := beq_eq_false_iff_ne.2 hg1
 have g15 : (k3 == 15) = false := beq_eq_false_iff_ne.2 hg15
 have g10 : (k3 == 10) = false := beq_eq_false_iff_ne.2 hg10
 refine two_res hr hp fun A c B d C e A3 c3 B3 d3 C3 e3 w1 g h hcs hds => ?_
 subst hcs
 subst hds
 obtain ⟨HX, HY, HB1, HS1, HG, HW1, HR, HP⟩ := h
 have HLO := Hd hlo
 have KC := Hd (row_ref HR.out HP.out (fun b h => Nat.lt_of_lt_of_le (hlo b h) HB1.out.size) hft hfq hc)
 unfold FdT at KC
 generalize rowT (.mk 14 s n ps fs vs) (.mk k3 s3 n3 ps3 fs3 vs3) = u8 at KC ⊢
 clear hr hp hlo hft hfq hc hg1 hg15 hg10
 go_enter Tryz.func21, Tryz.ntmps21
 go_upto_region 1 with fail
 rw [← HW1.out, ← HG.out]
 obtain ⟨⟨x0, x1, x2, x3, x4, x5⟩, ⟨y0, y1, y2, y3, y4, y5⟩⟩ := HX.out _ (Below.refl _ _)
 go_wp2_with fail
 refine (KC.out).mono ?_
 rintro e w7 ⟨rs, rfl, hr7, hb7⟩
 have HZ7 := Hd hb7
 have HB7 := Hd (HB1.out.trans (hb7.mono HB1.out.size))
 clear hb7 KC x0 x1 x2 x3 x4 x5 y0 y1 y2 y3 y4 y5
 have rb := box_up HZ7.out (by have := HS1.out; omega) HY.out
 have hr8 : RepT (fun b => K b ∨ g < b) w7 u8 rs := hr7.weak fun b h => by
  have h1 := HS1.out
  rcases h with h | h
  ·exact .inl h
  ·exact .inr (by omega)
 obtain ⟨k8, s8, n8, ps8, fs8, vs8⟩ := u8
 obtain ⟨A8, c8, B8, d8, C8, e8, rfl, -⟩ := hr8.inv
 have HRR := Hd hr8
 simp only [cells6T] at HRR ⊢
 clear hr7 hr8
 obtain ⟨q0, q1, q2, q3, q4, q5, z0, z1, z2, z3, z4, z5⟩ := qz6 rb
 have RBX := Hd rb
 clear rb
 go_wp2_with fail
 obtain ⟨r0, r1, r2, r3, r4, r5⟩ := cz6 (six_set RBX.out (.int .i64 k8) (.string s8) (.int .i64 n8) (.slice A8 ps8.length c8) (.slice B8 fs8.length d8) (.slice C8 vs8.length e8))
 clear q0 q1 q2 q3 q4 q5 z0 z1 z2 z3 z4 z5 RBX
 refine bodyPost_ret (v := .agg #[.int .i64 k8, .string s8, .int .i64 n8, .slice A8 ps8.length c8, .slice B8 fs8.length d8, .slice C8 vs8.length e8]) (by simp [results, Tryz.results21, go_sem, r0, r1, r2, r3, r4, r5]) rfl ?_
 clear r0 r1 r2 r3 r4 r5
 exact ⟨[.int .i64 k8, .string s8, .int .i64 n8, .slice A8 ps8.length c8, .slice B8 fs8.length d8, .slice C8 vs8.length e8], rfl, ret_box HRR.out (fun b h => by have h1 := HLO.out b h; have h2 := HG.out; omega) (by have := HG.out; omega) _ _ _ _ _ _, set_six_below HB7.out (by have := HG.out; omega) _ _ _ _ _ _⟩
def StP (t q : Ty) : Prop := formT t = true → formT q = true → cntT t ≤ 5000 → cntT q ≤ 5000 → ∀ (K : Nat → Prop) (w : World) (cs ds : List Value), RepT K w t cs → RepT K w q ds → (∀ b, K b → b < w.heap.size) → Calls Tryz.prog 21 #[.agg cs.toArray, .agg ds.toArray] w (FdT K w (atT t q))
theorem mul_s {a b c d : Nat} (h : c ≤ 2 * a * b) (ha : a ≤ 5000) (hb : b ≤ d) (hd : d ≤ 5000) : c ≤ 50000000 := by
 have h1 : 2 * a * b ≤ 10000 * 5000 := Nat.mul_le_mul (by omega) (by omega)
 omega
theorem stands_step (t q : Ty) (hq : ∀ p ∈ q.ps, StP t p) (ht : ∀ p ∈ t.ps, StP p q) : StP t q := by
 intro hft hfq hct hcq K w cs ds hr hp hlo
 obtain ⟨k, s, n, ps, fs, vs⟩ := t
 obtain ⟨k3, s3, n3, ps3, fs3, vs3⟩ := q
 rw [atT_eq]
 have e1 : Ty.k (.mk k s n ps fs vs) = k := rfl
 have e2 : Ty.k (.mk k3 s3 n3 ps3 fs3 vs3) = k3 := rfl
 have e3 : Ty.ps (.mk k s n ps fs vs) = ps := rfl
 have e4 : Ty.ps (.mk k3 s3 n3 ps3 fs3 vs3) = ps3 := rfl
 have e5 : Ty.fs (.mk k s n ps fs vs) = fs := rfl
 have e6 : Ty.t (.mk k3 s3 n3 ps3 fs3 vs3) = s3 := rfl
 rw [e1, e2, e3, e4, e5, e6]
 have hcp := cntT_mk k s n ps fs vs
 have hcp3 := cntT_mk k3 s3 n3 ps3 fs3 vs3
 have hl := cntL_len ps
 have hl3 := cntL_len ps3
 by_cases h1 : k3 = 1
 ·subst h1; rw [if_pos rfl]; exact stands_1 _ _ _ _ _ _ _ _ _ _ _ hr hp hlo
 rw [if_neg h1]
 by_cases ht3 : k = 3
 ·subst ht3; rw [if_pos (.inl rfl)]; exact stands_k3 _ _ _ _ _ _ _ _ _ _ _ hr hp hlo h1
 by_cases ht1 : k = 1
 ·subst ht1; rw [if_pos (.inr rfl)]; exact stands_k1 _ _ _ _ _ _ _ _ _ _ _ hr hp hlo h1
 rw [if_neg (fun h => h.elim ht3 ht1)]
 by_cases h15 : k3 = 15
 ·subst h15
  rw [if_pos rfl]
  refine stands_q _ _ _ _ _ _ _ _ _ _ _ (atT (.mk k s n ps fs vs)) hr hp hlo ht3 ht1 (fun p hp => form_at _ _ hft (form_ps hfq p hp)) ?_ (by omega) fun p hp2 w cs ds hr hp hlo => hq p hp2 hft (form_ps hfq p hp2) hct (by have := cntL_mem hp2; omega) K w cs ds hr hp hlo
  have h := cntL_map_le (g := atT (.mk k s n ps fs vs)) (c := 2 * cntT (.mk k s n ps fs vs)) (l := ps3) fun p _ => cnt_at _ p
  have h2 := mul_s h hct (d := 5000) (by omega) (by omega)
  omega
 rw [if_neg h15]
 by_cases ht15 : k = 15
 ·subst ht15
  rw [if_pos rfl]
  refine stands_t _ _ _ _ _ _ _ _ _ _ _ (fun p => atT p (.mk k3 s3 n3 ps3 fs3 vs3)) hr hp hlo h1 h15 (fun p hp => form_at _ _ (form_ps hft p hp) hfq) ?_ (by omega) fun p hp2 w ds cs hp hr hlo => ht p hp2 (form_ps hft p hp2) hfq (by have := cntL_mem hp2; omega) hcq K w cs ds hr hp hlo
  have h := cntL_map_le (g := fun p => atT p (.mk k3 s3 n3 ps3 fs3 vs3)) (c := 2 * cntT (.mk k3 s3 n3 ps3 fs3 vs3)) (l := ps) fun p _ => by
   have := cnt_at p (.mk k3 s3 n3 ps3 fs3 vs3)
   rw [Nat.mul_assoc, Nat.mul_comm (cntT p), ← Nat.mul_assoc] at this
   exact this
  have h2 := mul_s h hcq (d := 5000) (by omega) (by omega)
  omega
 rw [if_neg ht15]
 by_cases h14 : k = 14
 ·subst h14
  by_cases h10 : k3 = 10
  ·subst h10
   rw [if_pos ⟨rfl, rfl⟩]
   have hfields := fun (f : ByteArray × Int × Ty) (hf : f ∈ fs) => fieldsB_mem (form_fields (t := (.mk 14 s n ps fs vs)) hft rfl) hf
   exact stands_f _ _ _ _ _ _ _ _ _ _ hr hp hlo fun f hf => ⟨⟨(hfields f hf).2.2.2, by have := cnt_fs (t := (.mk 14 s n ps fs vs)) hf; omega⟩, (hfields f hf).2.1, (hfields f hf).2.2.1⟩
  rw [if_neg (fun h => h10 h.2)]
  exact stands_rb _ _ _ _ _ _ _ _ _ _ _ hr hp hlo h1 h15 h10 hft hfq (by omega)
 rw [if_neg (fun h => h14 h.1)]
 exact stands_ra _ _ _ _ _ _ _ _ _ _ _ _ hr hp hlo ht3 ht1 ht15 h14 h1 h15 hft hfq (by omega)
theorem stands_any (t q : Ty) : StP t q := two_ind (C := StP) (fun t q h1 h2 => stands_step t q h1 h2) t q
theorem rk_ok {K : Nat → Prop} {w : World} {t : Ty} {cs : List Value} (hr : RepT K w t cs) (hlo : ∀ b, K b → b < w.heap.size) (hft : formedT t = true) :
  Calls Tryz.prog 7 #[.agg cs.toArray] w (OkPost K w (keysT t)) := by
 have KF0 := fun wx (hx : Below w.heap.size w wx) => formed_ref (hr.later hx)
 rw [hft] at KF0
 unfold formedT at hft
 simp only [Bool.and_eq_true, decide_eq_true_eq] at hft
 have KK0 := fun wx (hx : Below w.heap.size w wx) => keysof_ref t hft.2 (by have := hft.1; omega) K wx cs (hr.later hx) (fun b h => Nat.lt_of_lt_of_le (hlo b h) hx.size)
 unfold keysT
 generalize keysU (keysN t) = u8 at KK0 ⊢
 unfold OkPost
 unfold FdT at KK0
 obtain ⟨k, s, n, ps, fs, vs⟩ := t
 refine one_res hr fun A c B d C e w1 g h hcs => ?_
 subst hcs
 obtain ⟨HX, HY, HB1, HS1, HG, HW1, HR⟩ := h
 have HLO := Hd hlo
 have KF := Hd (KF0 w1 HB1.out)
 have KK := Hd fun wx (hx : Below w1.heap.size w1 wx) => KK0 wx (HB1.out.trans (hx.mono HB1.out.size))
 clear KK0
 clear hr hlo hft KF0
 go_enter Tryz.func7, Tryz.ntmps7
 go_upto_region 1 with fail
 rw [← HW1.out, ← HG.out]
 obtain ⟨x0, x1, x2, x3, x4, x5⟩ := HX.out _ (Below.refl _ _)
 go_wp2_with fail
 refine KF.out.mono ?_
 rintro e w2 ⟨rfl, hb2⟩
 have HB12 := Hd hb2
 clear hb2 KF x0 x1 x2 x3 x4 x5
 obtain ⟨x0, x1, x2, x3, x4, x5⟩ := HX.out _ HB12.out
 go_wp2_with fail
 refine (KK.out w2 HB12.out).mono ?_
 rintro e w7 ⟨rs, rfl, hr7, hb7⟩
 have HZ7 := Hd (HB12.out.trans (hb7.mono HB12.out.size))
 have HB7 := Hd (HB1.out.trans (HZ7.out.mono HB1.out.size))
 clear hb7 KK x0 x1 x2 x3 x4 x5
 have rb := box_up HZ7.out (by have := HS1.out; omega) HY.out
 have hr8 : RepT (fun b => K b ∨ g < b) w7 u8 rs := hr7.weak fun b h => by
  have h1 := HS1.out
  have h2 := HB12.out.size
  rcases h with h | h
  ·exact .inl h
  ·exact .inr (by omega)
 obtain ⟨k8, s8, n8, ps8, fs8, vs8⟩ := u8
 obtain ⟨A8, c8, B8, d8, C8, e8, rfl, -⟩ := hr8.inv
 have HRR := Hd hr8
 simp only [cells6T] at HRR ⊢
 clear hr7 hr8
 obtain ⟨q0, q1, q2, q3, q4, q5, z0, z1, z2, z3, z4, z5⟩ := qz6 rb
 have RBX := Hd rb
 clear rb
 go_wp2_with fail
 obtain ⟨r0, r1, r2, r3, r4, r5⟩ := cz6 (six_set RBX.out (.int .i64 k8) (.string s8) (.int .i64 n8) (.slice A8 ps8.length c8) (.slice B8 fs8.length d8) (.slice C8 vs8.length e8))
 clear q0 q1 q2 q3 q4 q5 z0 z1 z2 z3 z4 z5 RBX
 refine bodyPost_ret (v := .tuple #[.agg #[.int .i64 k8, .string s8, .int .i64 n8, .slice A8 ps8.length c8, .slice B8 fs8.length d8, .slice C8 vs8.length e8], .int .i64 0]) (by simp [results, Tryz.results7, go_sem, r0, r1, r2, r3, r4, r5]) rfl ?_
 clear r0 r1 r2 r3 r4 r5
 exact ⟨[.int .i64 k8, .string s8, .int .i64 n8, .slice A8 ps8.length c8, .slice B8 fs8.length d8, .slice C8 vs8.length e8], rfl, ret_box HRR.out (fun b h => by have h1 := HLO.out b h; have h2 := HG.out; omega) (by have := HG.out; omega) _ _ _ _ _ _, set_six_below HB7.out (by have := HG.out; omega) _ _ _ _ _ _⟩
theorem rk_bad {K : Nat → Prop} {w : World} {t : Ty} {cs : List Value} (hr : RepT K w t cs) (hlo : ∀ b, K b → b < w.heap.size) (hft : formedT t = false) :
  Calls Tryz.prog 7 #[.agg cs.toArray] w (BadPost w) := by
 have KF0 := fun wx (hx : Below w.heap.size w wx) => formed_ref (hr.later hx)
 rw [hft] at KF0
 unfold BadPost
 obtain ⟨k, s, n, ps, fs, vs⟩ := t
 refine one_res hr fun A c B d C e w1 g h hcs => ?_
 subst hcs
 obtain ⟨HX, HY, HB1, HS1, HG, HW1, HR⟩ := h
 have HLO := Hd hlo
 have KF := Hd (KF0 w1 HB1.out)
 clear hr hlo hft KF0
 go_enter Tryz.func7, Tryz.ntmps7
 go_upto_region 1 with fail
 rw [← HW1.out, ← HG.out]
 obtain ⟨x0, x1, x2, x3, x4, x5⟩ := HX.out _ (Below.refl _ _)
 go_wp2_with fail
 refine KF.out.mono ?_
 rintro e w2 ⟨rfl, hb2⟩
 have HB12 := Hd hb2
 clear hb2 KF x0 x1 x2 x3 x4 x5
 have rb := box_up HB12.out (by have := HS1.out; omega) HY.out
 obtain ⟨q0, q1, q2, q3, q4, q5, z0, z1, z2, z3, z4, z5⟩ := qz6 rb
 have RBX := Hd rb
 clear rb
 go_wp2_with fail
 obtain ⟨r0, r1, r2, r3, r4, r5⟩ := cz6 (six_set RBX.out (.int .i64 0) (.string ⟨#[]⟩) (.int .i64 0) (.slice none 0 0) (.slice none 0 0) (.slice none 0 0))
 clear q0 q1 q2 q3 q4 q5 z0 z1 z2 z3 z4 z5 RBX
 refine bodyPost_ret (v := .tuple #[.agg #[.int .i64 0, .string ⟨#[]⟩, .int .i64 0, .slice none 0 0, .slice none 0 0, .slice none 0 0], .int .i64 4]) (by simp [results, Tryz.results7, go_sem, r0, r1, r2, r3, r4, r5]) rfl ?_
 clear r0 r1 r2 r3 r4 r5
 exact ⟨rfl, set_six_below (HB1.out.trans (HB12.out.mono HB1.out.size)) (by have := HG.out; omega) _ _ _ _ _ _⟩
theorem ra_ok {K : Nat → Prop} {w : World} {t q : Ty} {cs ds : List Value} (hr : RepT K w t cs) (hp : RepT K w q ds) (hlo : ∀ b, K b → b < w.heap.size) (hft : formedT t = true) (hfq : formedT q = true) :
  Calls Tryz.prog 9 #[.agg cs.toArray, .agg ds.toArray] w (OkPost K w (atT t q)) := by
 have KF0 := fun wx (hx : Below w.heap.size w wx) => formed_ref (hr.later hx)
 rw [hft] at KF0
 have KG0 := fun wx (hx : Below w.heap.size w wx) => formed_ref (hp.later hx)
 rw [hfq] at KG0
 unfold formedT at hft hfq
 simp only [Bool.and_eq_true, decide_eq_true_eq] at hft hfq
 have KK0 := fun wx (hx : Below w.heap.size w wx) => stands_any t q hft.2 hfq.2 (by have := hft.1; omega) (by have := hfq.1; omega) K wx cs ds (hr.later hx) (hp.later hx) (fun b h => Nat.lt_of_lt_of_le (hlo b h) hx.size)
 generalize atT t q = u8 at KK0 ⊢
 unfold OkPost
 unfold FdT at KK0
 obtain ⟨k, s, n, ps, fs, vs⟩ := t
 obtain ⟨k3, s3, n3, ps3, fs3, vs3⟩ := q
 refine two_res hr hp fun A c B d C e A3 c3 B3 d3 C3 e3 w1 g h hcs hds => ?_
 subst hcs
 subst hds
 obtain ⟨HX, HY, HB1, HS1, HG, HW1, -, -⟩ := h
 have HLO := Hd hlo
 have KF := Hd (KF0 w1 HB1.out)
 have KG := Hd fun wx (hx : Below w1.heap.size w1 wx) => KG0 wx (HB1.out.trans (hx.mono HB1.out.size))
 have KK := Hd fun wx (hx : Below w1.heap.size w1 wx) => KK0 wx (HB1.out.trans (hx.mono HB1.out.size))
 clear KK0
 clear hr hp hlo hft KF0 hfq KG0
 go_enter Tryz.func9, Tryz.ntmps9
 go_upto_region 1 with fail
 rw [← HW1.out, ← HG.out]
 obtain ⟨⟨x0, x1, x2, x3, x4, x5⟩, ⟨y0, y1, y2, y3, y4, y5⟩⟩ := HX.out _ (Below.refl _ _)
 go_wp2_with fail
 refine KF.out.mono ?_
 rintro e w2 ⟨rfl, hb2⟩
 have HB12 := Hd hb2
 clear hb2 KF x0 x1 x2 x3 x4 x5 y0 y1 y2 y3 y4 y5
 obtain ⟨⟨x0, x1, x2, x3, x4, x5⟩, ⟨y0, y1, y2, y3, y4, y5⟩⟩ := HX.out _ HB12.out
 go_wp2_with fail
 refine (KG.out w2 HB12.out).mono ?_
 rintro e w3 ⟨rfl, hb3⟩
 have HB13 := Hd (HB12.out.trans (hb3.mono HB12.out.size))
 clear hb3 KG x0 x1 x2 x3 x4 x5 y0 y1 y2 y3 y4 y5
 obtain ⟨⟨x0, x1, x2, x3, x4, x5⟩, ⟨y0, y1, y2, y3, y4, y5⟩⟩ := HX.out _ HB13.out
 go_wp2_with fail
 refine (KK.out w3 HB13.out).mono ?_
 rintro e w7 ⟨rs, rfl, hr7, hb7⟩
 have HZ7 := Hd (HB13.out.trans (hb7.mono HB13.out.size))
 have HB7 := Hd (HB1.out.trans (HZ7.out.mono HB1.out.size))
 clear hb7 KK x0 x1 x2 x3 x4 x5 y0 y1 y2 y3 y4 y5
 have rb := box_up HZ7.out (by have := HS1.out; omega) HY.out
 have hr8 : RepT (fun b => K b ∨ g < b) w7 u8 rs := hr7.weak fun b h => by
  have h1 := HS1.out
  have h2 := HB13.out.size
  rcases h with h | h
  ·exact .inl h
  ·exact .inr (by omega)
 obtain ⟨k8, s8, n8, ps8, fs8, vs8⟩ := u8
 obtain ⟨A8, c8, B8, d8, C8, e8, rfl, -⟩ := hr8.inv
 have HRR := Hd hr8
 simp only [cells6T] at HRR ⊢
 clear hr7 hr8
 obtain ⟨q0, q1, q2, q3, q4, q5, z0, z1, z2, z3, z4, z5⟩ := qz6 rb
 have RBX := Hd rb
 clear rb
 go_wp2_with fail
 obtain ⟨r0, r1, r2, r3, r4, r5⟩ := cz6 (six_set RBX.out (.int .i64 k8) (.string s8) (.int .i64 n8) (.slice A8 ps8.length c8) (.slice B8 fs8.length d8) (.slice C8 vs8.length e8))
 clear q0 q1 q2 q3 q4 q5 z0 z1 z2 z3 z4 z5 RBX
 refine bodyPost_ret (v := .tuple #[.agg #[.int .i64 k8, .string s8, .int .i64 n8, .slice A8 ps8.length c8, .slice B8 fs8.length d8, .slice C8 vs8.length e8], .int .i64 0]) (by simp [results, Tryz.results9, go_sem, r0, r1, r2, r3, r4, r5]) rfl ?_
 clear r0 r1 r2 r3 r4 r5
 exact ⟨[.int .i64 k8, .string s8, .int .i64 n8, .slice A8 ps8.length c8, .slice B8 fs8.length d8, .slice C8 vs8.length e8], rfl, ret_box HRR.out (fun b h => by have h1 := HLO.out b h; have h2 := HG.out; omega) (by have := HG.out; omega) _ _ _ _ _ _, set_six_below HB7.out (by have := HG.out; omega) _ _ _ _ _ _⟩
theorem ra_bad1 {K : Nat → Prop} {w : World} {t q : Ty} {cs ds : List Value} (hr : RepT K w t cs) (hp : RepT K w q ds) (hlo : ∀ b, K b → b < w.heap.size) (hft : formedT t = false) :
  Calls Tryz.prog 9 #[.agg cs.toArray, .agg ds.toArray] w (BadPost w) := by
 have KF0 := fun wx (hx : Below w.heap.size w wx) => formed_ref (hr.later hx)
 rw [hft] at KF0
 unfold BadPost
 obtain ⟨k, s, n, ps, fs, vs⟩ := t
 obtain ⟨k3, s3, n3, ps3, fs3, vs3⟩ := q
 refine two_res hr hp fun A c B d C e A3 c3 B3 d3 C3 e3 w1 g h hcs hds => ?_
 subst hcs
 subst hds
 obtain ⟨HX, HY, HB1, HS1, HG, HW1, -, -⟩ := h
 have HLO := Hd hlo
 have KF := Hd (KF0 w1 HB1.out)
 clear hr hp hlo hft KF0
 go_enter Tryz.func9, Tryz.ntmps9
 go_upto_region 1 with fail
 rw [← HW1.out, ← HG.out]
 obtain ⟨⟨x0, x1, x2, x3, x4, x5⟩, ⟨y0, y1, y2, y3, y4, y5⟩⟩ := HX.out _ (Below.refl _ _)
 go_wp2_with fail
 refine KF.out.mono ?_
 rintro e w2 ⟨rfl, hb2⟩
 have HB12 := Hd hb2
 clear hb2 KF x0 x1 x2 x3 x4 x5 y0 y1 y2 y3 y4 y5
 have rb := box_up HB12.out (by have := HS1.out; omega) HY.out
 obtain ⟨q0, q1, q2, q3, q4, q5, z0, z1, z2, z3, z4, z5⟩ := qz6 rb
 have RBX := Hd rb
 clear rb
 go_wp2_with fail
 obtain ⟨r0, r1, r2, r3, r4, r5⟩ := cz6 (six_set RBX.out (.int .i64 0) (.string ⟨#[]⟩) (.int .i64 0) (.slice none 0 0) (.slice none 0 0) (.slice none 0 0))
 clear q0 q1 q2 q3 q4 q5 z0 z1 z2 z3 z4 z5 RBX
 refine bodyPost_ret (v := .tuple #[.agg #[.int .i64 0, .string ⟨#[]⟩, .int .i64 0, .slice none 0 0, .slice none 0 0, .slice none 0 0], .int .i64 4]) (by simp [results, Tryz.results9, go_sem, r0, r1, r2, r3, r4, r5]) rfl ?_
 clear r0 r1 r2 r3 r4 r5
 exact ⟨rfl, set_six_below (HB1.out.trans (HB12.out.mono HB1.out.size)) (by have := HG.out; omega) _ _ _ _ _ _⟩
theorem ra_bad2 {K : Nat → Prop} {w : World} {t q : Ty} {cs ds : List Value} (hr : RepT K w t cs) (hp : RepT K w q ds) (hlo : ∀ b, K b → b < w.heap.size) (hft : formedT t = true) (hfq : formedT q = false) :
  Calls Tryz.prog 9 #[.agg cs.toArray, .agg ds.toArray] w (BadPost w) := by
 have KF0 := fun wx (hx : Below w.heap.size w wx) => formed_ref (hr.later hx)
 rw [hft] at KF0
 have KG0 := fun wx (hx : Below w.heap.size w wx) => formed_ref (hp.later hx)
 rw [hfq] at KG0
 unfold BadPost
 obtain ⟨k, s, n, ps, fs, vs⟩ := t
 obtain ⟨k3, s3, n3, ps3, fs3, vs3⟩ := q
 refine two_res hr hp fun A c B d C e A3 c3 B3 d3 C3 e3 w1 g h hcs hds => ?_
 subst hcs
 subst hds
 obtain ⟨HX, HY, HB1, HS1, HG, HW1, -, -⟩ := h
 have HLO := Hd hlo
 have KF := Hd (KF0 w1 HB1.out)
 have KG := Hd fun wx (hx : Below w1.heap.size w1 wx) => KG0 wx (HB1.out.trans (hx.mono HB1.out.size))
 clear hr hp hlo hft KF0 hfq KG0
 go_enter Tryz.func9, Tryz.ntmps9
 go_upto_region 1 with fail
 rw [← HW1.out, ← HG.out]
 obtain ⟨⟨x0, x1, x2, x3, x4, x5⟩, ⟨y0, y1, y2, y3, y4, y5⟩⟩ := HX.out _ (Below.refl _ _)
 go_wp2_with fail
 refine KF.out.mono ?_
 rintro e w2 ⟨rfl, hb2⟩
 have HB12 := Hd hb2
 clear hb2 KF x0 x1 x2 x3 x4 x5 y0 y1 y2 y3 y4 y5
 obtain ⟨⟨x0, x1, x2, x3, x4, x5⟩, ⟨y0, y1, y2, y3, y4, y5⟩⟩ := HX.out _ HB12.out
 go_wp2_with fail
 refine (KG.out w2 HB12.out).mono ?_
 rintro e w3 ⟨rfl, hb3⟩
 have HB13 := Hd (HB12.out.trans (hb3.mono HB12.out.size))
 clear hb3 KG x0 x1 x2 x3 x4 x5 y0 y1 y2 y3 y4 y5
 have rb := box_up HB13.out (by have := HS1.out; omega) HY.out
 obtain ⟨q0, q1, q2, q3, q4, q5, z0, z1, z2, z3, z4, z5⟩ := qz6 rb
 have RBX := Hd rb
 clear rb
 go_wp2_with fail
 obtain ⟨r0, r1, r2, r3, r4, r5⟩ := cz6 (six_set RBX.out (.int .i64 0) (.string ⟨#[]⟩) (.int .i64 0) (.slice none 0 0) (.slice none 0 0) (.slice none 0 0))
 clear q0 q1 q2 q3 q4 q5 z0 z1 z2 z3 z4 z5 RBX
 refine bodyPost_ret (v := .tuple #[.agg #[.int .i64 0, .string ⟨#[]⟩, .int .i64 0, .slice none 0 0, .slice none 0 0, .slice none 0 0], .int .i64 4]) (by simp [results, Tryz.results9, go_sem, r0, r1, r2, r3, r4, r5]) rfl ?_
 clear r0 r1 r2 r3 r4 r5
 exact ⟨rfl, set_six_below (HB1.out.trans (HB13.out.mono HB1.out.size)) (by have := HG.out; omega) _ _ _ _ _ _⟩
end Go.Proofs.YteakkjhcdpbidaaGreatDoor
