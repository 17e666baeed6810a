import Derived.Test.YteakkjhcdpbidaaGreatDoorMk33
import Derived.Test.YteakkjhcdpbidaaGreatDoorMk38
namespace Go.Proofs.YteakkjhcdpbidaaGreatDoor
set_option maxRecDepth 100000
set_option maxHeartbeats 64000000
open Go.RowKit
def AtP (t k : Ty) : Prop := ∀ (K : Nat → Prop) (w : World) (cs ds : List Value), RepT K w t cs → RepT K w k ds → (∀ b, K b → b < w.heap.size) → formT t = true → formT k = true → cntT t ≤ 5000 → cntT k ≤ 5000 →
 Calls Tryz.prog 20 #[.agg cs.toArray, .agg ds.toArray] w (TyPost K w (atT t k))
theorem flat_len (l : List Ty) : (flatU l).length ≤ cntL l := (flatU_cnt l).1
theorem cnt_num {a b c : Nat} (h : c ≤ 2 * a * b) (ha : a ≤ 5000) (hb : b ≤ 5000) : c ≤ 50000000 := by
 have h1 : 2 * a ≤ 10000 := by omega
 have h2 : 2 * a * b ≤ 10000 * 5000 := Nat.mul_le_mul h1 hb
 omega
theorem at_step (t k : Ty) (h1 : ∀ p ∈ k.ps, AtP t p) (h2 : ∀ p ∈ t.ps, AtP p k) : AtP t k := by
 intro K w cs ds hr hp hlo ht hk hct hck
 have hpsk := form_ps hk
 have hpst := form_ps ht
 have hcp := cnt_ps k
 have hct2 := cnt_ps t
 have hL1 : cntL (k.ps.map (atT t)) ≤ 50000000 := by
  have h := cntL_map_le (g := atT t) (c := 2 * cntT t) (l := k.ps) fun p _ => cnt_at t p
  exact cnt_num h hct (by omega)
 have hL2 : cntL (t.ps.map fun p => atT p k) ≤ 50000000 := by
  have h := cntL_map_le (g := fun p => atT p k) (c := 2 * cntT k) (l := t.ps) fun p _ => by
   have := cnt_at p k
   rw [Nat.mul_right_comm] at this; exact this
  exact cnt_num h hck (by omega)
 have hl1 := Nat.le_trans (flat_len (k.ps.map (atT t))) hL1
 have hl2 := Nat.le_trans (flat_len (t.ps.map fun p => atT p k)) hL2
 have hl3 := flat_len (tyK 4 :: t.ps)
 rw [cntL_cons, cnt_kind] at hl3
 have len : ∀ l : List Ty, l.length ≤ cntL l := fun l => by
  induction l with
  | nil => simp
  | cons a l ih => rw [cntL_cons, List.length_cons]; have := cntT_pos a; omega
 have hn1 := len k.ps
 have hn2 := len t.ps
 have hAt := atT_eq t k
 have KA1 : ∀ p ∈ k.ps, ∀ wx dx, Below w.heap.size w wx → RepT K wx p dx → Calls Tryz.prog 20 #[.agg cs.toArray, .agg dx.toArray] wx (TyPost K wx (atT t p)) := fun p hpm wx dx hx hd =>
  h1 p hpm K wx cs dx (hr.later hx) hd (fun b h => Nat.lt_of_lt_of_le (hlo b h) hx.size) ht (hpsk p hpm) hct (by have := cntL_mem hpm; omega)
 have KA2 : ∀ p ∈ t.ps, ∀ wx dx, Below w.heap.size w wx → RepT K wx p dx → Calls Tryz.prog 20 #[.agg dx.toArray, .agg ds.toArray] wx (TyPost K wx (atT p k)) := fun p hpm wx dx hx hd =>
  h2 p hpm K wx dx ds hd (hp.later hx) (fun b h => Nat.lt_of_lt_of_le (hlo b h) hx.size) (hpst p hpm) hk (by have := cntL_mem hpm; omega) hck
 obtain ⟨kt, s, n, ps, fs, vs⟩ := t
 obtain ⟨kk, s3, n3, ps3, fs3, vs3⟩ := k
 have e1 : Ty.ps (.mk kt s n ps fs vs) = ps := rfl
 have e2 : Ty.ps (.mk kk s3 n3 ps3 fs3 vs3) = ps3 := rfl
 have e3 : Ty.k (.mk kt s n ps fs vs) = kt := rfl
 have e4 : Ty.k (.mk kk s3 n3 ps3 fs3 vs3) = kk := rfl
 have e5 : Ty.fs (.mk kt s n ps fs vs) = fs := rfl
 have e6 : Ty.t (.mk kk s3 n3 ps3 fs3 vs3) = s3 := rfl
 have e7 : Ty.n (.mk kk s3 n3 ps3 fs3 vs3) = n3 := rfl
 rw [e1] at hl2 hl3 hn2 KA2 hct2
 rw [e2] at hl1 hn1 KA1 hcp
 rw [e1, e2, e3, e4, e5, e6] at hAt
 rw [hAt]
 by_cases c1 : kk = 1
 ·subst c1; rw [if_pos rfl]
  exact at_c1 union_p kt s n ps fs vs s3 n3 ps3 fs3 vs3 hr hp hlo
 rw [if_neg c1]
 by_cases c2 : kt = 3
 ·subst c2; rw [if_pos (.inl rfl)]
  exact at_c2 union_p s n ps fs vs kk s3 n3 ps3 fs3 vs3 hr hp hlo c1
 by_cases c3 : kt = 1
 ·subst c3; rw [if_pos (.inr rfl)]
  exact at_c3 union_p s n ps fs vs kk s3 n3 ps3 fs3 vs3 hr hp hlo c1
 rw [if_neg (by omega)]
 by_cases c4 : kk = 15
 ·subst c4; rw [if_pos rfl]
  exact at_c4 union_p kt s n ps fs vs s3 n3 ps3 fs3 vs3 hr hp hlo c2 c3 KA1 (by omega) (by omega)
 rw [if_neg c4]
 by_cases c5 : kt = 15
 ·subst c5; rw [if_pos rfl]
  exact at_c5 union_p s n ps fs vs kk s3 n3 ps3 fs3 vs3 hr hp hlo c1 c4 KA2 (by omega) (by omega)
 rw [if_neg c5]
 have hrow : ∀ u, rowT (.mk kt s n ps fs vs) (.mk kk s3 n3 ps3 fs3 vs3) = u → (¬ (kt = 14 ∧ kk = 10)) → (if kt = 14 ∧ kk = 10 then fieldT fs s3 else rowT (.mk kt s n ps fs vs) (.mk kk s3 n3 ps3 fs3 vs3)) = u := fun u h1 h2 => by rw [if_neg h2]; exact h1
 by_cases c6 : kt = 14
 ·subst c6
  by_cases c7 : kk = 10
  ·subst c7; rw [if_pos ⟨rfl, rfl⟩]
   exact at_c6 union_p s n ps fs vs s3 n3 ps3 fs3 vs3 hr hp hlo ht (by omega)
  ·rw [hrow (tyK 2) (by unfold rowT; rw [e3, e4, if_neg (by omega), if_neg (by omega), if_neg (by omega)]) (by omega)]
   exact at_u1 union_p s n ps fs vs kk s3 n3 ps3 fs3 vs3 hr hp hlo c1 c4 c7
 by_cases c8 : kt = 11
 ·subst c8
  by_cases c9 : kk = 7
  ·subst c9
   rw [hrow (unionT (tyK 4 :: ps)) (by unfold rowT; rw [e3, e4, e1, if_pos ⟨rfl, .inl rfl⟩]) (by omega)]
   exact at_n0 union_p s n ps fs vs s3 n3 ps3 fs3 vs3 hr hp hlo (by omega) (by omega)
  ·by_cases c10 : kk = 9
   ·subst c10
    rw [hrow (unionT (tyK 4 :: ps)) (by unfold rowT; rw [e3, e4, e1, if_pos ⟨rfl, .inr rfl⟩]) (by omega)]
    exact at_n1 union_p s n ps fs vs s3 n3 ps3 fs3 vs3 hr hp hlo (by omega) (by omega)
   ·rw [hrow (tyK 2) (by unfold rowT; rw [e3, e4, if_neg (by omega), if_neg (by omega), if_neg (by omega)]) (by omega)]
    exact at_u2 union_p s n ps fs vs kk s3 n3 ps3 fs3 vs3 hr hp hlo c1 c4 c9 c10
 by_cases c11 : kt = 12
 ·subst c11
  by_cases c9 : kk = 7
  ·subst c9
   rw [hrow (unionT (tyK 4 :: ps)) (by unfold rowT; rw [e3, e4, e1, if_neg (by omega), if_neg (by omega), if_pos ⟨rfl, rfl⟩]) (by omega)]
   exact at_n2 union_p s n ps fs vs s3 n3 ps3 fs3 vs3 hr hp hlo (by omega) (by omega)
  ·by_cases c10 : kk = 9
   ·subst c10
    have hn0 : 0 ≤ n3 := by
     have := form_self hk
     unfold selfB at this
     simpa using this
    obtain ⟨m, rfl⟩ := Int.eq_ofNat_of_zero_le hn0
    by_cases hm : m < ps.length
    ·rw [hrow ps[m] (by unfold rowT; rw [e3, e4, e1, e7, if_neg (by omega), if_pos ⟨rfl, rfl⟩, if_neg (by omega), Int.toNat_natCast, List.getElem?_eq_getElem hm]; rfl) (by omega)]
     exact at_i1 union_p s n ps fs vs s3 m ps3 fs3 vs3 hr hp hlo hm
    ·rw [hrow (tyK 4) (by unfold rowT; rw [e3, e4, e1, e7, if_neg (by omega), if_pos ⟨rfl, rfl⟩, if_neg (by omega), Int.toNat_natCast, List.getElem?_eq_none (by omega)]; rfl) (by omega)]
     exact at_i0 union_p s n ps fs vs s3 m ps3 fs3 vs3 hr hp hlo (by omega)
   ·rw [hrow (tyK 2) (by unfold rowT; rw [e3, e4, if_neg (by omega), if_neg (by omega), if_neg (by omega)]) (by omega)]
    exact at_u3 union_p s n ps fs vs kk s3 n3 ps3 fs3 vs3 hr hp hlo c1 c4 c9 c10
 ·rw [hrow (tyK 2) (by unfold rowT; rw [e3, e4, if_neg (by omega), if_neg (by omega), if_neg (by omega)]) (by omega)]
  exact at_u0 union_p kt s n ps fs vs kk s3 n3 ps3 fs3 vs3 hr hp hlo c1 c4 c2 c3 c5 c6 c8 c11
theorem at_any (t k : Ty) : AtP t k := two_ind (C := AtP) (fun t k h1 h2 => at_step t k h1 h2) t k
def OkPost (K : Nat → Prop) (w : World) (t : Ty) : Ending → World → Prop := fun e w' => ∃ rs, e = .returned (.tuple #[.agg rs.toArray, .int .i64 0]) ∧ RepT (fun b => K b ∨ w.heap.size ≤ b) w' t rs ∧ Below w.heap.size w w'
def BadPost (w : World) : Ending → World → Prop := fun e w' => e = .returned (.tuple #[.agg #[.int .i64 0, .string ⟨#[]⟩, .int .i64 0, .slice none 0 0, .slice none 0 0, .slice none 0 0], .int .i64 4]) ∧ Below w.heap.size w w'
theorem evalat_ok {K : Nat → Prop} {w : World} {t q : Ty} {cs ds : List Value} (hr : RepT K w t cs) (hp : RepT K w q ds) (hlo : ∀ b, K b → b < w.heap.size) (hft : formedT t = true) (hfq : formedT q = true) :
  Calls Tryz.prog 8 #[.agg cs.toArray, .agg ds.toArray] w (OkPost K w (atT t q)) := by
 have hfT : formT t = true ∧ cntT t ≤ 5000 := by
  unfold formedT at hft
  rw [Bool.and_eq_true, decide_eq_true_eq] at hft
  exact ⟨hft.2, by omega⟩
 have hfQ : formT q = true ∧ cntT q ≤ 5000 := by
  unfold formedT at hfq
  rw [Bool.and_eq_true, decide_eq_true_eq] at hfq
  exact ⟨hfq.2, by omega⟩
 generalize hu : atT t q = u
 have KA := Hd fun wx (hx : Below w.heap.size w wx) => at_any t q K wx cs ds (hr.later hx) (hp.later hx) (fun b h => Nat.lt_of_lt_of_le (hlo b h) hx.size) hfT.1 hfQ.1 hfT.2 hfQ.2
 rw [hu] at KA
 obtain ⟨k2, s2, n2, ps2, fs2, vs2⟩ := u
 unfold OkPost
 clear hfT hfQ hu
 have KF1 := Hd fun wx (hx : Below w.heap.size w wx) => Formed_any (hr.later hx)
 have KF2 := Hd fun wx (hx : Below w.heap.size w wx) => Formed_any (hp.later hx)
 rw [hft] at KF1
 rw [hfq] at KF2
 obtain ⟨k, s, n, ps, fs, vs⟩ := t
 obtain ⟨A, c, A', c', A'', c'', rfl, -⟩ := hr.inv
 obtain ⟨k3, s3, n3, ps3, fs3, vs3⟩ := q
 obtain ⟨A3, c3, B3, d3, C3, e3, rfl, -⟩ := hp.inv
 simp only [cells6T] at KF1 KF2 KA ⊢
 obtain ⟨w1, hw1⟩ : ∃ x, x = ((w.alloc (.cells #[.int .i64 k, .string s, .int .i64 n, .slice A ps.length c, .slice A' fs.length c', .slice A'' vs.length c''] 26)).alloc (.cells #[.int .i64 k3, .string s3, .int .i64 n3, .slice A3 ps3.length c3, .slice B3 fs3.length d3, .slice C3 vs3.length e3] 26)).alloc (.cells #[.int .i64 0, .string ⟨#[]⟩, .int .i64 0, .slice none 0 0, .slice none 0 0, .slice none 0 0] 26) := ⟨_, rfl⟩
 obtain ⟨g, hgg⟩ : ∃ g, g = w.heap.size + 2 := ⟨_, rfl⟩
 have hb1 : Below w.heap.size w w1 := by rw [hw1]; exact (((Below.refl _ _).alloc (Nat.le_refl _) _).alloc (by simp) _).alloc (by simp; omega) _
 have hs1 : w1.heap.size = w.heap.size + 3 := by rw [hw1]; simp
 have hx0 : w1.heap[w.heap.size]? = some (.cells #[.int .i64 k, .string s, .int .i64 n, .slice A ps.length c, .slice A' fs.length c', .slice A'' vs.length c''] 26 (0, 0)) := by rw [hw1, Below.heap_alloc _ _ _ (by simp; omega), Below.heap_alloc _ _ _ (by simp)]; exact heap_alloc_new w _
 have hy0 : w1.heap[w.heap.size + 1]? = some (.cells #[.int .i64 k3, .string s3, .int .i64 n3, .slice A3 ps3.length c3, .slice B3 fs3.length d3, .slice C3 vs3.length e3] 26 (0, 0)) := by
  rw [hw1, Below.heap_alloc _ _ _ (by simp)]
  have h := heap_alloc_new (w.alloc (.cells #[.int .i64 k, .string s, .int .i64 n, .slice A ps.length c, .slice A' fs.length c', .slice A'' vs.length c''] 26)) (.cells #[.int .i64 k3, .string s3, .int .i64 n3, .slice A3 ps3.length c3, .slice B3 fs3.length d3, .slice C3 vs3.length e3] 26)
  rw [World.size_alloc] at h
  exact h
 have hx1 : w1.heap[g]? = some (.cells #[.int .i64 0, .string ⟨#[]⟩, .int .i64 0, .slice none 0 0, .slice none 0 0, .slice none 0 0] 26 (0, 0)) := by
  rw [hw1, hgg]
  have h := heap_alloc_new ((w.alloc (.cells #[.int .i64 k, .string s, .int .i64 n, .slice A ps.length c, .slice A' fs.length c', .slice A'' vs.length c''] 26)).alloc (.cells #[.int .i64 k3, .string s3, .int .i64 n3, .slice A3 ps3.length c3, .slice B3 fs3.length d3, .slice C3 vs3.length e3] 26)) (.cells #[.int .i64 0, .string ⟨#[]⟩, .int .i64 0, .slice none 0 0, .slice none 0 0, .slice none 0 0] 26)
  rw [World.size_alloc, World.size_alloc] at h
  exact h
 have HB1 := Hd hb1
 have HS1 := Hd hs1
 have HX0 := Hd hx0
 have HY0 := Hd hy0
 have HX1 := Hd hx1
 have HW1 := Hd hw1
 have HG := Hd hgg
 have HLO := Hd hlo
 clear hr hp hlo hb1 hs1 hx0 hy0 hx1 hw1 hgg hft hfq
 go_enter Tryz.func8, Tryz.ntmps8
 go_upto_region 1 with fail
 rw [← HW1.out, ← HG.out]
 obtain ⟨x0, x1, x2, x3, x4, x5⟩ := cz6 HX0.out
 obtain ⟨y0, y1, y2, y3, y4, y5⟩ := cz6 HY0.out
 go_wp2_with fail
 refine (KF1.out _ HB1.out).mono ?_
 rintro e w2 ⟨rfl, hb⟩
 have HZ2 := Hd hb
 have HB2 := Hd (HB1.out.trans (hb.mono HB1.out.size))
 have h2 := box_up hb (by have := HS1.out; omega) HX0.out
 have h3 := box_up hb (by have := HS1.out; omega) HY0.out
 clear x0 x1 x2 x3 x4 x5 y0 y1 y2 y3 y4 y5 hb KF1
 obtain ⟨x0, x1, x2, x3, x4, x5⟩ := cz6 h2
 obtain ⟨y0, y1, y2, y3, y4, y5⟩ := cz6 h3
 clear h2 h3
 go_wp2_with fail
 refine (KF2.out _ HB2.out).mono ?_
 rintro e w3 ⟨rfl, hb⟩
 have HZ3 := Hd (HZ2.out.trans (hb.mono HZ2.out.size))
 have HB3 := Hd (HB1.out.trans (HZ3.out.mono HB1.out.size))
 have h2 := box_up HZ3.out (by have := HS1.out; omega) HX0.out
 have h3 := box_up HZ3.out (by have := HS1.out; omega) HY0.out
 clear x0 x1 x2 x3 x4 x5 y0 y1 y2 y3 y4 y5 hb KF2
 obtain ⟨x0, x1, x2, x3, x4, x5⟩ := cz6 h2
 obtain ⟨y0, y1, y2, y3, y4, y5⟩ := cz6 h3
 clear h2 h3
 go_wp2_with fail
 refine (KA.out _ HB3.out).mono ?_
 rintro e w4 ⟨rs, rfl, hr4, hb4⟩
 have HB4 := Hd (HB3.out.trans (hb4.mono HB3.out.size))
 have HZ4 := Hd (HZ3.out.trans (hb4.mono HZ3.out.size))
 have rb := box_up HZ4.out (by have := HG.out; have := HS1.out; omega) HX1.out
 have hr5 : RepT (fun b => K b ∨ g < b) w4 (.mk k2 s2 n2 ps2 fs2 vs2) rs := hr4.weak fun b h => h.imp id fun h => by have := HG.out; have := HS1.out; have := HZ3.out.size; omega
 obtain ⟨Aq, cq, Ag, cg, Ah, ch, rfl, -⟩ := hr5.inv
 have HR5 := Hd hr5
 simp only [cells6T] at HR5 ⊢
 clear hr4 hb4 hr5 KA x0 x1 x2 x3 x4 x5 y0 y1 y2 y3 y4 y5
 obtain ⟨q0, q1, q2, q3, q4, q5, z0, z1, z2, z3, z4, z5⟩ := qz6 rb
 have RBX := Hd rb
 clear rb
 go_wp2_with fail
 have rs := six_set RBX.out (.int .i64 k2) (.string s2) (.int .i64 n2) (.slice Aq ps2.length cq) (.slice Ag fs2.length cg) (.slice Ah vs2.length ch)
 obtain ⟨r0, r1, r2, r3, r4, r5⟩ := cz6 rs
 clear q0 q1 q2 q3 q4 q5 z0 z1 z2 z3 z4 z5 RBX rs
 refine bodyPost_ret (v := .tuple #[.agg #[.int .i64 k2, .string s2, .int .i64 n2, .slice Aq ps2.length cq, .slice Ag fs2.length cg, .slice Ah vs2.length ch], .int .i64 0]) (by simp [results, Tryz.results8, go_sem, r0, r1, r2, r3, r4, r5]) rfl ?_
 clear r0 r1 r2 r3 r4 r5
 exact ⟨[.int .i64 k2, .string s2, .int .i64 n2, .slice Aq ps2.length cq, .slice Ag fs2.length cg, .slice Ah vs2.length ch], rfl, ret_box HR5.out (fun b h => by have := HLO.out b h; have := HG.out; omega) (by have := HG.out; omega) _ _ _ _ _ _, set_six_below HB4.out (by have := HG.out; omega) _ _ _ _ _ _⟩
theorem evalat_bad1 {K : Nat → Prop} {w : World} {t q : Ty} {cs ds : List Value} (hr : RepT K w t cs) (hp : RepT K w q ds) (hlo : ∀ b, K b → b < w.heap.size) (hft : formedT t = false) :
  Calls Tryz.prog 8 #[.agg cs.toArray, .agg ds.toArray] w (BadPost w) := by
 unfold BadPost
 have KF1 := Hd fun wx (hx : Below w.heap.size w wx) => Formed_any (hr.later hx)
 have KF2 := Hd fun wx (hx : Below w.heap.size w wx) => Formed_any (hp.later hx)
 rw [hft] at KF1
 obtain ⟨k, s, n, ps, fs, vs⟩ := t
 obtain ⟨A, c, A', c', A'', c'', rfl, -⟩ := hr.inv
 obtain ⟨k3, s3, n3, ps3, fs3, vs3⟩ := q
 obtain ⟨A3, c3, B3, d3, C3, e3, rfl, -⟩ := hp.inv
 simp only [cells6T] at KF1 KF2 ⊢
 obtain ⟨w1, hw1⟩ : ∃ x, x = ((w.alloc (.cells #[.int .i64 k, .string s, .int .i64 n, .slice A ps.length c, .slice A' fs.length c', .slice A'' vs.length c''] 26)).alloc (.cells #[.int .i64 k3, .string s3, .int .i64 n3, .slice A3 ps3.length c3, .slice B3 fs3.length d3, .slice C3 vs3.length e3] 26)).alloc (.cells #[.int .i64 0, .string ⟨#[]⟩, .int .i64 0, .slice none 0 0, .slice none 0 0, .slice none 0 0] 26) := ⟨_, rfl⟩
 obtain ⟨g, hgg⟩ : ∃ g, g = w.heap.size + 2 := ⟨_, rfl⟩
 have hb1 : Below w.heap.size w w1 := by rw [hw1]; exact (((Below.refl _ _).alloc (Nat.le_refl _) _).alloc (by simp) _).alloc (by simp; omega) _
 have hs1 : w1.heap.size = w.heap.size + 3 := by rw [hw1]; simp
 have hx0 : w1.heap[w.heap.size]? = some (.cells #[.int .i64 k, .string s, .int .i64 n, .slice A ps.length c, .slice A' fs.length c', .slice A'' vs.length c''] 26 (0, 0)) := by rw [hw1, Below.heap_alloc _ _ _ (by simp; omega), Below.heap_alloc _ _ _ (by simp)]; exact heap_alloc_new w _
 have hy0 : w1.heap[w.heap.size + 1]? = some (.cells #[.int .i64 k3, .string s3, .int .i64 n3, .slice A3 ps3.length c3, .slice B3 fs3.length d3, .slice C3 vs3.length e3] 26 (0, 0)) := by
  rw [hw1, Below.heap_alloc _ _ _ (by simp)]
  have h := heap_alloc_new (w.alloc (.cells #[.int .i64 k, .string s, .int .i64 n, .slice A ps.length c, .slice A' fs.length c', .slice A'' vs.length c''] 26)) (.cells #[.int .i64 k3, .string s3, .int .i64 n3, .slice A3 ps3.length c3, .slice B3 fs3.length d3, .slice C3 vs3.length e3] 26)
  rw [World.size_alloc] at h
  exact h
 have hx1 : w1.heap[g]? = some (.cells #[.int .i64 0, .string ⟨#[]⟩, .int .i64 0, .slice none 0 0, .slice none 0 0, .slice none 0 0] 26 (0, 0)) := by
  rw [hw1, hgg]
  have h := heap_alloc_new ((w.alloc (.cells #[.int .i64 k, .string s, .int .i64 n, .slice A ps.length c, .slice A' fs.length c', .slice A'' vs.length c''] 26)).alloc (.cells #[.int .i64 k3, .string s3, .int .i64 n3, .slice A3 ps3.length c3, .slice B3 fs3.length d3, .slice C3 vs3.length e3] 26)) (.cells #[.int .i64 0, .string ⟨#[]⟩, .int .i64 0, .slice none 0 0, .slice none 0 0, .slice none 0 0] 26)
  rw [World.size_alloc, World.size_alloc] at h
  exact h
 have HB1 := Hd hb1
 have HS1 := Hd hs1
 have HX0 := Hd hx0
 have HY0 := Hd hy0
 have HX1 := Hd hx1
 have HW1 := Hd hw1
 have HG := Hd hgg
 have HLO := Hd hlo
 clear hr hp hlo hb1 hs1 hx0 hy0 hx1 hw1 hgg hft 
 go_enter Tryz.func8, Tryz.ntmps8
 go_upto_region 1 with fail
 rw [← HW1.out, ← HG.out]
 obtain ⟨x0, x1, x2, x3, x4, x5⟩ := cz6 HX0.out
 obtain ⟨y0, y1, y2, y3, y4, y5⟩ := cz6 HY0.out
 go_wp2_with fail
 refine (KF1.out _ HB1.out).mono ?_
 rintro e w2 ⟨rfl, hb⟩
 have HZ2 := Hd hb
 have HB2 := Hd (HB1.out.trans (hb.mono HB1.out.size))
 have h2 := box_up hb (by have := HS1.out; omega) HX0.out
 have h3 := box_up hb (by have := HS1.out; omega) HY0.out
 clear x0 x1 x2 x3 x4 x5 y0 y1 y2 y3 y4 y5 hb KF1
 obtain ⟨x0, x1, x2, x3, x4, x5⟩ := cz6 h2
 obtain ⟨y0, y1, y2, y3, y4, y5⟩ := cz6 h3
 clear h2 h3
 go_upto_region 2 with fail
 have rb := box_up HZ2.out (by have := HG.out; have := HS1.out; omega) HX1.out
 obtain ⟨q0, q1, q2, q3, q4, q5, z0, z1, z2, z3, z4, z5⟩ := qz6 rb
 have RBX := Hd rb
 clear rb
 go_wp2_with fail
 have rs := six_set RBX.out (.int .i64 0) (.string ⟨#[]⟩) (.int .i64 0) (.slice none 0 0) (.slice none 0 0) (.slice none 0 0)
 obtain ⟨r0, r1, r2, r3, r4, r5⟩ := cz6 rs
 clear q0 q1 q2 q3 q4 q5 z0 z1 z2 z3 z4 z5 RBX rs
 refine bodyPost_ret (v := .tuple #[.agg #[.int .i64 0, .string ⟨#[]⟩, .int .i64 0, .slice none 0 0, .slice none 0 0, .slice none 0 0], .int .i64 4]) (by simp [results, Tryz.results8, go_sem, r0, r1, r2, r3, r4, r5]) rfl ?_
 clear r0 r1 r2 r3 r4 r5
 exact ⟨rfl, set_six_below HB2.out (by have := HG.out; omega) _ _ _ _ _ _⟩
theorem evalat_bad2 {K : Nat → Prop} {w : World} {t q : Ty} {cs ds : List Value} (hr : RepT K w t cs) (hp : RepT K w q ds) (hlo : ∀ b, K b → b < w.heap.size) (hft : formedT t = true) (hfq : formedT q = false) :
  Calls Tryz.prog 8 #[.agg cs.toArray, .agg ds.toArray] w (BadPost w) := by
 unfold BadPost
 have KF1 := Hd fun wx (hx : Below w.heap.size w wx) => Formed_any (hr.later hx)
 have KF2 := Hd fun wx (hx : Below w.heap.size w wx) => Formed_any (hp.later hx)
 rw [hft] at KF1
 rw [hfq] at KF2
 obtain ⟨k, s, n, ps, fs, vs⟩ := t
 obtain ⟨A, c, A', c', A'', c'', rfl, -⟩ := hr.inv
 obtain ⟨k3, s3, n3, ps3, fs3, vs3⟩ := q
 obtain ⟨A3, c3, B3, d3, C3, e3, rfl, -⟩ := hp.inv
 simp only [cells6T] at KF1 KF2 ⊢
 obtain ⟨w1, hw1⟩ : ∃ x, x = ((w.alloc (.cells #[.int .i64 k, .string s, .int .i64 n, .slice A ps.length c, .slice A' fs.length c', .slice A'' vs.length c''] 26)).alloc (.cells #[.int .i64 k3, .string s3, .int .i64 n3, .slice A3 ps3.length c3, .slice B3 fs3.length d3, .slice C3 vs3.length e3] 26)).alloc (.cells #[.int .i64 0, .string ⟨#[]⟩, .int .i64 0, .slice none 0 0, .slice none 0 0, .slice none 0 0] 26) := ⟨_, rfl⟩
 obtain ⟨g, hgg⟩ : ∃ g, g = w.heap.size + 2 := ⟨_, rfl⟩
 have hb1 : Below w.heap.size w w1 := by rw [hw1]; exact (((Below.refl _ _).alloc (Nat.le_refl _) _).alloc (by simp) _).alloc (by simp; omega) _
 have hs1 : w1.heap.size = w.heap.size + 3 := by rw [hw1]; simp
 have hx0 : w1.heap[w.heap.size]? = some (.cells #[.int .i64 k, .string s, .int .i64 n, .slice A ps.length c, .slice A' fs.length c', .slice A'' vs.length c''] 26 (0, 0)) := by rw [hw1, Below.heap_alloc _ _ _ (by simp; omega), Below.heap_alloc _ _ _ (by simp)]; exact heap_alloc_new w _
 have hy0 : w1.heap[w.heap.size + 1]? = some (.cells #[.int .i64 k3, .string s3, .int .i64 n3, .slice A3 ps3.length c3, .slice B3 fs3.length d3, .slice C3 vs3.length e3] 26 (0, 0)) := by
  rw [hw1, Below.heap_alloc _ _ _ (by simp)]
  have h := heap_alloc_new (w.alloc (.cells #[.int .i64 k, .string s, .int .i64 n, .slice A ps.length c, .slice A' fs.length c', .slice A'' vs.length c''] 26)) (.cells #[.int .i64 k3, .string s3, .int .i64 n3, .slice A3 ps3.length c3, .slice B3 fs3.length d3, .slice C3 vs3.length e3] 26)
  rw [World.size_alloc] at h
  exact h
 have hx1 : w1.heap[g]? = some (.cells #[.int .i64 0, .string ⟨#[]⟩, .int .i64 0, .slice none 0 0, .slice none 0 0, .slice none 0 0] 26 (0, 0)) := by
  rw [hw1, hgg]
  have h := heap_alloc_new ((w.alloc (.cells #[.int .i64 k, .string s, .int .i64 n, .slice A ps.length c, .slice A' fs.length c', .slice A'' vs.length c''] 26)).alloc (.cells #[.int .i64 k3, .string s3, .int .i64 n3, .slice A3 ps3.length c3, .slice B3 fs3.length d3, .slice C3 vs3.length e3] 26)) (.cells #[.int .i64 0, .string ⟨#[]⟩, .int .i64 0, .slice none 0 0, .slice none 0 0, .slice none 0 0] 26)
  rw [World.size_alloc, World.size_alloc] at h
  exact h
 have HB1 := Hd hb1
 have HS1 := Hd hs1
 have HX0 := Hd hx0
 have HY0 := Hd hy0
 have HX1 := Hd hx1
 have HW1 := Hd hw1
 have HG := Hd hgg
 have HLO := Hd hlo
 clear hr hp hlo hb1 hs1 hx0 hy0 hx1 hw1 hgg hft hfq
 go_enter Tryz.func8, Tryz.ntmps8
 go_upto_region 1 with fail
 rw [← HW1.out, ← HG.out]
 obtain ⟨x0, x1, x2, x3, x4, x5⟩ := cz6 HX0.out
 obtain ⟨y0, y1, y2, y3, y4, y5⟩ := cz6 HY0.out
 go_wp2_with fail
 refine (KF1.out _ HB1.out).mono ?_
 rintro e w2 ⟨rfl, hb⟩
 have HZ2 := Hd hb
 have HB2 := Hd (HB1.out.trans (hb.mono HB1.out.size))
 have h2 := box_up hb (by have := HS1.out; omega) HX0.out
 have h3 := box_up hb (by have := HS1.out; omega) HY0.out
 clear x0 x1 x2 x3 x4 x5 y0 y1 y2 y3 y4 y5 hb KF1
 obtain ⟨x0, x1, x2, x3, x4, x5⟩ := cz6 h2
 obtain ⟨y0, y1, y2, y3, y4, y5⟩ := cz6 h3
 clear h2 h3
 go_wp2_with fail
 refine (KF2.out _ HB2.out).mono ?_
 rintro e w3 ⟨rfl, hb⟩
 have HZ3 := Hd (HZ2.out.trans (hb.mono HZ2.out.size))
 have HB3 := Hd (HB1.out.trans (HZ3.out.mono HB1.out.size))
 have h2 := box_up HZ3.out (by have := HS1.out; omega) HX0.out
 have h3 := box_up HZ3.out (by have := HS1.out; omega) HY0.out
 clear x0 x1 x2 x3 x4 x5 y0 y1 y2 y3 y4 y5 hb KF2
 obtain ⟨x0, x1, x2, x3, x4, x5⟩ := cz6 h2
 obtain ⟨y0, y1, y2, y3, y4, y5⟩ := cz6 h3
 clear h2 h3
 go_upto_region 2 with fail
 have rb := box_up HZ3.out (by have := HG.out; have := HS1.out; omega) HX1.out
 obtain ⟨q0, q1, q2, q3, q4, q5, z0, z1, z2, z3, z4, z5⟩ := qz6 rb
 have RBX := Hd rb
 clear rb
 go_wp2_with fail
 have rs := six_set RBX.out (.int .i64 0) (.string ⟨#[]⟩) (.int .i64 0) (.slice none 0 0) (.slice none 0 0) (.slice none 0 0)
 obtain ⟨r0, r1, r2, r3, r4, r5⟩ := cz6 rs
 clear q0 q1 q2 q3 q4 q5 z0 z1 z2 z3 z4 z5 RBX rs
 refine bodyPost_ret (v := .tuple #[.agg #[.int .i64 0, .string ⟨#[]⟩, .int .i64 0, .slice none 0 0, .slice none 0 0, .slice none 0 0], .int .i64 4]) (by simp [results, Tryz.results8, go_sem, r0, r1, r2, r3, r4, r5]) rfl ?_
 clear r0 r1 r2 r3 r4 r5
 exact ⟨rfl, set_six_below HB3.out (by have := HG.out; omega) _ _ _ _ _ _⟩
def ListPost (K : Nat → Prop) (w : World) (l : List Ty) : Ending → World → Prop := fun e w' => ∃ A c, e = .returned (.slice A l.length c) ∧ ListT (fun b => K b ∨ w.heap.size ≤ b) w' l A c ∧ Below w.heap.size w w'
theorem parts_15 {K : Nat → Prop} {w : World} (s : ByteArray) (n : Int) (ps : List Ty) (fs : FsT) (vs : VsT) {cs : List Value} (hr : RepT K w (.mk 15 s n ps fs vs) cs) (hlo : ∀ b, K b → b < w.heap.size) (hn : ps.length ≤ 1099511627776) :
  Calls Tryz.prog 22 #[.agg cs.toArray] w (ListPost K w (ps)) := by
 obtain ⟨A, c, A', c', A'', c'', rfl, -, hL, -, -⟩ := hr.inv
 simp only [cells6T] at hr ⊢
 obtain ⟨w1, hw1⟩ : ∃ x, x = w.alloc (.cells #[.int .i64 15, .string s, .int .i64 n, .slice A ps.length c, .slice A' fs.length c', .slice A'' vs.length c''] 26) := ⟨_, rfl⟩
 have hb1 : Below w.heap.size w w1 := by rw [hw1]; exact (Below.refl _ _).alloc (Nat.le_refl _) _
 have hs1 : w1.heap.size = w.heap.size + 1 := by rw [hw1]; simp
 have hx0 : w1.heap[w.heap.size]? = some (.cells #[.int .i64 15, .string s, .int .i64 n, .slice A ps.length c, .slice A' fs.length c', .slice A'' vs.length c''] 26 (0, 0)) := by rw [hw1]; exact heap_alloc_new w _
 have HB1 := Hd hb1
 have HS1 := Hd hs1
 have HX0 := Hd hx0
 have HW1 := Hd hw1
 have HLO := Hd hlo
 have HL := Hd (hL.later hb1)
 have HR := Hd (hr.later hb1)
 have HN := Hd hn
 clear hn
 unfold ListPost
 clear hr hlo hL hb1 hs1 hx0 hw1
 go_enter Tryz.func22, Tryz.ntmps22
 go_upto_region 1 with fail
 rw [← HW1.out]
 obtain ⟨x0, x1, x2, x3, x4, x5⟩ := cz6 HX0.out
 go_wp2_with (at_builtin; refine wpList_plain rfl fun Kx hK => ?_; go_loud (refine wp_append_many (w0 := w1) (ts := []) (l := ps) _ _ rfl (by rfl) (by rfl) ⟨⟨[], World.ownsRow_nil _ _ _ _, fun i h => absurd h (by simp)⟩⟩ HL.out (Below.refl _ _) (by simpa using HN.out) ?_))
 intro v3 w3 ho3 hb3 _
 refine hK _ _ ?_
 clear hK Kx
 obtain ⟨A4, c4, rfl, hl4⟩ := ho3.list (fun b h => by have := HLO.out b h; have := HS1.out; omega) hb3 (by have := HN.out; omega)
 have HL4 := Hd (And.intro hl4 (HB1.out.trans (hb3.mono HB1.out.size)))
 clear ho3 hl4 hb3 x0 x1 x2 x3 x4 x5
 go_wp2_with fail
 go_ret
 exact ⟨A4, c4, rfl, HL4.out.1.weak fun b h => h.imp id fun h => by have := HS1.out; omega, HL4.out.2⟩
theorem parts_1 {K : Nat → Prop} {w : World} (s : ByteArray) (n : Int) (ps : List Ty) (fs : FsT) (vs : VsT) {cs : List Value} (hr : RepT K w (.mk 1 s n ps fs vs) cs) (hlo : ∀ b, K b → b < w.heap.size)  :
  Calls Tryz.prog 22 #[.agg cs.toArray] w (ListPost K w ([])) := by
 obtain ⟨A, c, A', c', A'', c'', rfl, -, hL, -, -⟩ := hr.inv
 simp only [cells6T] at hr ⊢
 obtain ⟨w1, hw1⟩ : ∃ x, x = w.alloc (.cells #[.int .i64 1, .string s, .int .i64 n, .slice A ps.length c, .slice A' fs.length c', .slice A'' vs.length c''] 26) := ⟨_, rfl⟩
 have hb1 : Below w.heap.size w w1 := by rw [hw1]; exact (Below.refl _ _).alloc (Nat.le_refl _) _
 have hs1 : w1.heap.size = w.heap.size + 1 := by rw [hw1]; simp
 have hx0 : w1.heap[w.heap.size]? = some (.cells #[.int .i64 1, .string s, .int .i64 n, .slice A ps.length c, .slice A' fs.length c', .slice A'' vs.length c''] 26 (0, 0)) := by rw [hw1]; exact heap_alloc_new w _
 have HB1 := Hd hb1
 have HS1 := Hd hs1
 have HX0 := Hd hx0
 have HW1 := Hd hw1
 have HLO := Hd hlo
 have HL := Hd (hL.later hb1)
 have HR := Hd (hr.later hb1)
 unfold ListPost
 clear hr hlo hL hb1 hs1 hx0 hw1
 go_enter Tryz.func22, Tryz.ntmps22
 go_upto_region 1 with fail
 rw [← HW1.out]
 obtain ⟨x0, x1, x2, x3, x4, x5⟩ := cz6 HX0.out
 go_wp2_with fail
 go_ret
 exact ⟨none, 0, rfl, ⟨0, 0, ⟨by simp, by simp, fun _ => rfl, fun h => absurd h (by simp)⟩, fun i h => absurd h (by simp)⟩, HB1.out⟩
theorem parts_no {K : Nat → Prop} {w : World} (k : Int) (s : ByteArray) (n : Int) (ps : List Ty) (fs : FsT) (vs : VsT) {cs : List Value} (hr : RepT K w (.mk k s n ps fs vs) cs) (hlo : ∀ b, K b → b < w.heap.size) (h15 : k ≠ 15) (h1 : k ≠ 1) :
  Calls Tryz.prog 22 #[.agg cs.toArray] w (ListPost K w ([.mk k s n ps fs vs])) := by
 obtain ⟨A, c, A', c', A'', c'', rfl, -, hL, -, -⟩ := hr.inv
 simp only [cells6T] at hr ⊢
 obtain ⟨w1, hw1⟩ : ∃ x, x = w.alloc (.cells #[.int .i64 k, .string s, .int .i64 n, .slice A ps.length c, .slice A' fs.length c', .slice A'' vs.length c''] 26) := ⟨_, rfl⟩
 have hb1 : Below w.heap.size w w1 := by rw [hw1]; exact (Below.refl _ _).alloc (Nat.le_refl _) _
 have hs1 : w1.heap.size = w.heap.size + 1 := by rw [hw1]; simp
 have hx0 : w1.heap[w.heap.size]? = some (.cells #[.int .i64 k, .string s, .int .i64 n, .slice A ps.length c, .slice A' fs.length c', .slice A'' vs.length c''] 26 (0, 0)) := by rw [hw1]; exact heap_alloc_new w _
 have HB1 := Hd hb1
 have HS1 := Hd hs1
 have HX0 := Hd hx0
 have HW1 := Hd hw1
 have HLO := Hd hlo
 have HL := Hd (hL.later hb1)
 have HR := Hd (hr.later hb1)
 have f1 : (k == 15) = false := beq_eq_false_iff_ne.2 h15
 have f2 : (k == 1) = false := beq_eq_false_iff_ne.2 h1
 clear h15 h1
 unfold ListPost
 clear hr hlo hL hb1 hs1 hx0 hw1
 go_enter Tryz.func22, Tryz.ntmps22
 go_upto_region 1 with fail
 rw [← HW1.out]
 obtain ⟨x0, x1, x2, x3, x4, x5⟩ := cz6 HX0.out
 go_wp2_with fail
 go_ret
 have hbb : Below w.heap.size w (w1.alloc (.cells #[.int .i64 k, .string s, .int .i64 n, .slice A ps.length c, .slice A' fs.length c', .slice A'' vs.length c''] 26)) := HB1.out.alloc HB1.out.size _
 refine ⟨some ⟨w1.heap.size, 0, none⟩, 1, rfl, ?_, hbb⟩
 have h := list_lit (g := w1.heap.size) HR.out ((Below.refl _ _).alloc (Nat.le_refl _) _) (fun b h => by have := HLO.out b h; have := HS1.out; omega) (heap_alloc_new w1 _)
 exact h.weak fun b h => h.imp id fun h => by have := HS1.out; omega
theorem formed_ref {K : Nat → Prop} {w : World} {t : Ty} {cs : List Value} (hr : RepT K w t cs) :
  Calls Tryz.prog 18 #[.agg cs.toArray] w fun e w' => e = .returned (.bool (formedT t)) ∧ Below w.heap.size w w' := by
 have hN := nod_any t
 have hFo := form_ref t
 have hsp : formedT t = (decide (cntT t ≤ 4096) && formT t) := rfl
 generalize hft : formT t = r at hsp
 obtain ⟨k, s, n, ps, fs, vs⟩ := t
 have KN := Hd fun wx (hx : Below w.heap.size w wx) => hN K wx cs (hr.later hx)
 have KF := Hd fun wx (hx : Below w.heap.size w wx) h => hFo K wx cs (hr.later hx) h
 obtain ⟨A, c, A', c', A'', c'', rfl, -⟩ := hr.inv
 simp only [cells6T] at KN KF ⊢
 rw [hft] at KF
 obtain ⟨w1, hw1⟩ : ∃ x, x = w.alloc (.cells #[.int .i64 k, .string s, .int .i64 n, .slice A ps.length c, .slice A' fs.length c', .slice A'' vs.length c''] 26) := ⟨_, rfl⟩
 have hb1 : Below w.heap.size w w1 := by rw [hw1]; exact (Below.refl _ _).alloc (Nat.le_refl _) _
 have hs1 : w1.heap.size = w.heap.size + 1 := by rw [hw1]; simp
 have hx0 : w1.heap[w.heap.size]? = some (.cells #[.int .i64 k, .string s, .int .i64 n, .slice A ps.length c, .slice A' fs.length c', .slice A'' vs.length c''] 26 (0, 0)) := by rw [hw1]; exact heap_alloc_new w _
 have HB1 := Hd hb1
 have HS1 := Hd hs1
 have HX0 := Hd hx0
 have HW1 := Hd hw1
 have HSP := Hd hsp
 generalize cntT (.mk k s n ps fs vs) = q at KN KF HSP
 clear hr hN hFo hb1 hs1 hx0 hw1 hsp hft
 go_enter Tryz.func18, Tryz.ntmps18
 go_upto_region 1 with fail
 rw [← HW1.out]
 obtain ⟨x0, x1, x2, x3, x4, x5⟩ := cz6 HX0.out
 go_wp2_with fail
 refine (KN.out _ HB1.out).mono ?_
 rintro e w2 ⟨rfl, hg⟩
 have HB2 := Hd (HB1.out.trans (hg.below.mono HB1.out.size))
 have h2 := box_up hg.below (by have := HS1.out; omega) HX0.out
 clear x0 x1 x2 x3 x4 x5 hg KN
 obtain ⟨x0, x1, x2, x3, x4, x5⟩ := cz6 h2
 clear h2
 by_cases hq : q ≤ 4096
 ·have t1 : decide ((capN q : Int) ≤ 4096) = true := decide_eq_true (by unfold capN; omega)
  have t2 : decide (capN q ≤ 4096) = true := decide_eq_true (by unfold capN; omega)
  have KF2 := Hd (KF.out _ HB2.out (by omega))
  have HV : Hid (formedT (.mk k s n ps fs vs) = r) := Hd (by rw [HSP.out, decide_eq_true hq]; rfl)
  clear hq KF
  go_wp2_with fail
  refine KF2.out.mono ?_
  rintro e w3 ⟨rfl, hb3⟩
  have HB3 := Hd (HB2.out.trans (hb3.mono HB2.out.size))
  clear hb3 KF2
  go_wp2_with fail
  go_ret
  exact ⟨by rw [HV.out]; rfl, HB3.out⟩
 ·have t1 : decide ((capN q : Int) ≤ 4096) = false := decide_eq_false (by unfold capN; omega)
  have t2 : decide (capN q ≤ 4096) = false := decide_eq_false (by unfold capN; omega)
  have HV : Hid (formedT (.mk k s n ps fs vs) = false) := Hd (by rw [HSP.out, decide_eq_false hq]; rfl)
  clear hq KF
  go_wp2_with fail
  go_ret
  exact ⟨by rw [HV.out]; rfl, HB2.out⟩
end Go.Proofs.YteakkjhcdpbidaaGreatDoor
