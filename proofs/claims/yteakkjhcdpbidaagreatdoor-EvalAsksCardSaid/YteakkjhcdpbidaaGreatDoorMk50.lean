import Derived.Test.YteakkjhcdpbidaaGreatDoorMk44
import Derived.Test.YteakkjhcdpbidaaGreatDoorMk48
import Derived.Test.YteakkjhcdpbidaaGreatDoorMk49
namespace Go.Proofs.YteakkjhcdpbidaaGreatDoor
set_option maxRecDepth 100000
set_option maxHeartbeats 64000000
open Go.RowKit
def ResP (w : World) (u : Ty) (z : Int) : Ending → World → Prop := fun e w' => ∃ rs, e = .returned (.tuple #[.agg rs.toArray, .int .i64 z]) ∧ RepT (fun b => b < w'.heap.size) w' u rs ∧ Below w.heap.size w w'
theorem OkPost.res {K : Nat → Prop} {w w' : World} {u : Ty} {e : Ending} (h : OkPost K w u e w') : ResP w u 0 e w' := by
 obtain ⟨rs, rfl, hr, hb⟩ := h
 exact ⟨rs, rfl, RepT.low _ _ hr, hb⟩
theorem BadPost.res {w w' : World} {e : Ending} (h : BadPost w e w') : ResP w (tyK 0) 4 e w' := by
 obtain ⟨rfl, hb⟩ := h
 exact ⟨[.int .i64 0, .string ⟨#[]⟩, .int .i64 0, .slice none 0 0, .slice none 0 0, .slice none 0 0], rfl, rep_k _ _ 0, hb⟩
theorem keys_both {K : Nat → Prop} {w : World} {t : Ty} {cs : List Value} (hr : RepT K w t cs) (hlo : ∀ b, K b → b < w.heap.size) : ∃ u z, (∀ wx, Below w.heap.size w wx → Calls Tryz.prog 6 #[.agg cs.toArray] wx (ResP wx u z)) ∧ ∀ wx, Below w.heap.size w wx → Calls Tryz.prog 7 #[.agg cs.toArray] wx (ResP wx u z) := by
 have up := fun wx (hx : Below w.heap.size w wx) b h => Nat.lt_of_lt_of_le (hlo b h) hx.size
 cases hf : formedT t with
 | true =>
  have hf2 := hf
  unfold formedT at hf2
  simp only [Bool.and_eq_true, decide_eq_true_eq] at hf2
  refine ⟨keysT t, 0, fun wx hx => ?_, fun wx hx => ?_⟩
  ·exact (ekeys_ok (hr.later hx) (up wx hx) hf fun wy hy => lkeys_any union_p ((hr.later hx).later hy) (fun b h => Nat.lt_of_lt_of_le (up wx hx b h) hy.size) (by have := hf2.1; omega)).mono fun e w' h => h.res
  ·exact (rk_ok (hr.later hx) (up wx hx) hf).mono fun e w' h => h.res
 | false =>
  refine ⟨tyK 0, 4, fun wx hx => ?_, fun wx hx => ?_⟩
  ·exact (ekeys_bad (hr.later hx) (up wx hx) hf).mono fun e w' h => h.res
  ·exact (rk_bad (hr.later hx) (up wx hx) hf).mono fun e w' h => h.res
theorem at_both {K : Nat → Prop} {w : World} {t q : Ty} {cs ds : List Value} (hr : RepT K w t cs) (hp : RepT K w q ds) (hlo : ∀ b, K b → b < w.heap.size) : ∃ u z, (∀ wx, Below w.heap.size w wx → Calls Tryz.prog 8 #[.agg cs.toArray, .agg ds.toArray] wx (ResP wx u z)) ∧ ∀ wx, Below w.heap.size w wx → Calls Tryz.prog 9 #[.agg cs.toArray, .agg ds.toArray] wx (ResP wx u z) := by
 have up := fun wx (hx : Below w.heap.size w wx) b h => Nat.lt_of_lt_of_le (hlo b h) hx.size
 cases hf : formedT t with
 | true =>
  cases hq : formedT q with
  | true =>
   refine ⟨atT t q, 0, fun wx hx => ?_, fun wx hx => ?_⟩
   ·exact (evalat_ok (hr.later hx) (hp.later hx) (up wx hx) hf hq).mono fun e w' h => h.res
   ·exact (ra_ok (hr.later hx) (hp.later hx) (up wx hx) hf hq).mono fun e w' h => h.res
  | false =>
   refine ⟨tyK 0, 4, fun wx hx => ?_, fun wx hx => ?_⟩
   ·exact (evalat_bad2 (hr.later hx) (hp.later hx) (up wx hx) hf hq).mono fun e w' h => h.res
   ·exact (ra_bad2 (hr.later hx) (hp.later hx) (up wx hx) hf hq).mono fun e w' h => h.res
 | false =>
  refine ⟨tyK 0, 4, fun wx hx => ?_, fun wx hx => ?_⟩
  ·exact (evalat_bad1 (hr.later hx) (hp.later hx) (up wx hx) hf).mono fun e w' h => h.res
  ·exact (ra_bad1 (hr.later hx) (hp.later hx) (up wx hx) hf).mono fun e w' h => h.res
theorem asks_s {K K2 : Nat → Prop} {w : World} (k : Int) (s : ByteArray) (n : Int) (ps : List Ty) (fs : FsT) (vs : VsT) (k3 : Int) (s3 : ByteArray) (n3 : Int) (ps3 : List Ty) (fs3 : FsT) (vs3 : VsT) {cs ds : List Value} (hr : RepT K w (.mk k s n ps fs vs) cs) (hp : RepT K2 w (.mk k3 s3 n3 ps3 fs3 vs3) ds) (hs : ¬ cntT (.mk k s n ps fs vs) ≤ 4096) :
  Calls Tryz.prog 3 #[.agg cs.toArray, .agg ds.toArray] w (fun e w' => e = .returned (.bool true) ∧ Below w.heap.size w w') := by
 refine two_pre hr hp fun A c B d C e A3 c3 B3 d3 C3 e3 w1 h hcs hds => ?_
 subst hcs
 subst hds
 obtain ⟨HBX, HB1, HW1, HR, HP⟩ := h
 have KS1 := Hd fun wx (hx : Below w1.heap.size w1 wx) => small13 (HR.out.later (HB1.out.trans (hx.mono HB1.out.size)))
 have KS2 := Hd fun wx (hx : Below w1.heap.size w1 wx) => small13 (HP.out.later (HB1.out.trans (hx.mono HB1.out.size)))
 rw [decide_eq_false hs] at KS1
 clear hr hp hs KS2
 go_enter Tryz.func3, Tryz.ntmps3
 go_upto_region 1 with fail
 rw [← HW1.out]
 go_wp2_with fail
 refine (awake13 _).mono ?_
 rintro e w2 ⟨rfl, hb2⟩
 have HB2 := Hd hb2
 clear hb2
 obtain ⟨⟨x0, x1, x2, x3, x4, x5⟩, ⟨y0, y1, y2, y3, y4, y5⟩⟩ := HBX.out _ HB2.out
 go_wp2_with fail
 refine (KS1.out w2 HB2.out).mono ?_
 rintro e w3 ⟨rfl, hb3⟩
 have HB3 := Hd (HB2.out.trans (hb3.mono HB2.out.size))
 clear hb3 x0 x1 x2 x3 x4 x5 y0 y1 y2 y3 y4 y5 KS1
 go_wp2_with fail
 refine (awake13 _).mono ?_
 rintro e w4 ⟨rfl, hb4⟩
 have HB4 := Hd (HB1.out.trans ((HB3.out.trans (hb4.mono HB3.out.size)).mono HB1.out.size))
 clear hb4
 go_wp2_with fail
 go_ret
 exact ⟨rfl, HB4.out⟩
theorem asks_k {K K2 : Nat → Prop} {w : World} (k : Int) (s : ByteArray) (n : Int) (ps : List Ty) (fs : FsT) (vs : VsT) (k3 : Int) (s3 : ByteArray) (n3 : Int) (ps3 : List Ty) (fs3 : FsT) (vs3 : VsT) {cs ds : List Value} (hr : RepT K w (.mk k s n ps fs vs) cs) (hp : RepT K2 w (.mk k3 s3 n3 ps3 fs3 vs3) ds) (hs : cntT (.mk k s n ps fs vs) ≤ 4096) (hs2 : ¬ cntT (.mk k3 s3 n3 ps3 fs3 vs3) ≤ 4096) :
  Calls Tryz.prog 3 #[.agg cs.toArray, .agg ds.toArray] w (fun e w' => e = .returned (.bool true) ∧ Below w.heap.size w w') := by
 refine two_pre hr hp fun A c B d C e A3 c3 B3 d3 C3 e3 w1 h hcs hds => ?_
 subst hcs
 subst hds
 obtain ⟨HBX, HB1, HW1, HR, HP⟩ := h
 have KS1 := Hd fun wx (hx : Below w1.heap.size w1 wx) => small13 (HR.out.later (HB1.out.trans (hx.mono HB1.out.size)))
 have KS2 := Hd fun wx (hx : Below w1.heap.size w1 wx) => small13 (HP.out.later (HB1.out.trans (hx.mono HB1.out.size)))
 rw [decide_eq_true hs] at KS1
 rw [decide_eq_false hs2] at KS2
 clear hr hp hs hs2
 go_enter Tryz.func3, Tryz.ntmps3
 go_upto_region 1 with fail
 rw [← HW1.out]
 go_wp2_with fail
 refine (awake13 _).mono ?_
 rintro e w2 ⟨rfl, hb2⟩
 have HB2 := Hd hb2
 clear hb2
 obtain ⟨⟨x0, x1, x2, x3, x4, x5⟩, ⟨y0, y1, y2, y3, y4, y5⟩⟩ := HBX.out _ HB2.out
 go_wp2_with fail
 refine (KS1.out w2 HB2.out).mono ?_
 rintro e w3 ⟨rfl, hb3⟩
 have HB3 := Hd (HB2.out.trans (hb3.mono HB2.out.size))
 clear hb3 x0 x1 x2 x3 x4 x5 y0 y1 y2 y3 y4 y5 KS1
 obtain ⟨⟨x0, x1, x2, x3, x4, x5⟩, ⟨y0, y1, y2, y3, y4, y5⟩⟩ := HBX.out _ HB3.out
 go_wp2_with fail
 refine (KS2.out w3 HB3.out).mono ?_
 rintro e w4 ⟨rfl, hb4⟩
 have HB4 := Hd (HB3.out.trans (hb4.mono HB3.out.size))
 clear hb4 x0 x1 x2 x3 x4 x5 y0 y1 y2 y3 y4 y5 KS2
 go_wp2_with fail
 refine (awake13 _).mono ?_
 rintro e w5 ⟨rfl, hb5⟩
 have HB5 := Hd (HB1.out.trans ((HB4.out.trans (hb5.mono HB4.out.size)).mono HB1.out.size))
 clear hb5
 go_wp2_with fail
 go_ret
 exact ⟨rfl, HB5.out⟩
theorem asks_m {K K2 : Nat → Prop} {w : World} (k : Int) (s : ByteArray) (n : Int) (ps : List Ty) (fs : FsT) (vs : VsT) (k3 : Int) (s3 : ByteArray) (n3 : Int) (ps3 : List Ty) (fs3 : FsT) (vs3 : VsT) {cs ds : List Value} (hr : RepT K w (.mk k s n ps fs vs) cs) (hp : RepT K2 w (.mk k3 s3 n3 ps3 fs3 vs3) ds) (hs : cntT (.mk k s n ps fs vs) ≤ 4096) (hs2 : cntT (.mk k3 s3 n3 ps3 fs3 vs3) ≤ 4096) :
  Calls Tryz.prog 3 #[.agg cs.toArray, .agg ds.toArray] w (fun e w' => e = .returned (.bool true) ∧ Below w.heap.size w w') := by
 refine two_pre hr hp fun A c B d C e A3 c3 B3 d3 C3 e3 w1 h hcs hds => ?_
 subst hcs
 subst hds
 obtain ⟨HBX, HB1, HW1, HR, HP⟩ := h
 have KS1 := Hd fun wx (hx : Below w1.heap.size w1 wx) => small13 (HR.out.later (HB1.out.trans (hx.mono HB1.out.size)))
 have KS2 := Hd fun wx (hx : Below w1.heap.size w1 wx) => small13 (HP.out.later (HB1.out.trans (hx.mono HB1.out.size)))
 rw [decide_eq_true hs] at KS1
 rw [decide_eq_true hs2] at KS2
 obtain ⟨u1, e1, hk1, hk2⟩ := keys_both HR.out (fun b h => h)
 obtain ⟨u2, e2, ha1, ha2⟩ := at_both HR.out HP.out (fun b h => h)
 obtain ⟨ku1, su1, nu1, pu1, fu1, vu1⟩ := u1
 obtain ⟨ku2, su2, nu2, pu2, fu2, vu2⟩ := u2
 have K1 := Hd hk1
 have K2' := Hd hk2
 have K3 := Hd ha1
 have K4 := Hd ha2
 have hpl : ps.length ≤ 1000000 := by
  have h1 := cntL_len ps
  rw [cntT_mk] at hs
  omega
 have K5 := Hd fun wx (hx : Below w.heap.size w wx) => eparts_any (HR.out.later hx) (fun b h => Nat.lt_of_lt_of_le h hx.size) (show (Ty.ps (.mk k s n ps fs vs)).length ≤ _ from by show ps.length ≤ _; omega)
 have K6 := Hd fun wx (hx : Below w.heap.size w wx) => prts_ref (HR.out.later hx) (fun b h => Nat.lt_of_lt_of_le h hx.size)
 generalize prtsT (.mk k s n ps fs vs) = L at K5 K6
 clear hr hp hs hs2 hk1 hk2 ha1 ha2 hpl
 go_enter Tryz.func3, Tryz.ntmps3
 go_upto_region 1 with fail
 rw [← HW1.out]
 go_wp2_with fail
 refine (awake13 _).mono ?_
 rintro e w2 ⟨rfl, hb2⟩
 have HB2 := Hd hb2
 clear hb2
 obtain ⟨⟨x0, x1, x2, x3, x4, x5⟩, ⟨y0, y1, y2, y3, y4, y5⟩⟩ := HBX.out _ HB2.out
 go_wp2_with fail
 refine (KS1.out w2 HB2.out).mono ?_
 rintro e w3 ⟨rfl, hb3⟩
 have HB3 := Hd (HB2.out.trans (hb3.mono HB2.out.size))
 clear hb3 x0 x1 x2 x3 x4 x5 y0 y1 y2 y3 y4 y5 KS1
 obtain ⟨⟨x0, x1, x2, x3, x4, x5⟩, ⟨y0, y1, y2, y3, y4, y5⟩⟩ := HBX.out _ HB3.out
 go_wp2_with fail
 refine (KS2.out w3 HB3.out).mono ?_
 rintro e w4 ⟨rfl, hb4⟩
 have HB4 := Hd (HB3.out.trans (hb4.mono HB3.out.size))
 clear hb4 x0 x1 x2 x3 x4 x5 y0 y1 y2 y3 y4 y5 KS2 HB2 HB3
 obtain ⟨⟨x0, x1, x2, x3, x4, x5⟩, ⟨y0, y1, y2, y3, y4, y5⟩⟩ := HBX.out _ HB4.out
 go_wp2_with fail
 refine (K1.out w4 (HB1.out.trans (HB4.out.mono HB1.out.size))).mono ?_
 rintro e w5 ⟨rs, rfl, hra, hbj⟩
 obtain ⟨Aaa, caa, Baa, daa, Caa, eaa, rfl, -⟩ := hra.inv
 simp only [cells6T] at hra ⊢
 obtain ⟨v5, hvj⟩ : ∃ x, x = w5.alloc (.cells #[.int .i64 ku1, .string su1, .int .i64 nu1, .slice Aaa pu1.length caa, .slice Baa fu1.length daa, .slice Caa vu1.length eaa] 26) := ⟨_, rfl⟩
 obtain ⟨ga, hg⟩ : ∃ x, x = w5.heap.size := ⟨_, rfl⟩
 have hbv : Below w5.heap.size w5 v5 := by rw [hvj]; exact (Below.refl _ _).alloc (Nat.le_refl _) _
 have hxv : v5.heap[ga]? = some (.cells #[.int .i64 ku1, .string su1, .int .i64 nu1, .slice Aaa pu1.length caa, .slice Baa fu1.length daa, .slice Caa vu1.length eaa] 26 (0, 0)) := by rw [hvj, hg]; exact heap_alloc_new w5 _
 have HBv5 := Hd (HB4.out.trans ((hbj.trans (hbv.mono hbj.size)).mono HB4.out.size))
 have HXa := Hd hxv
 have HRa := Hd (hra.later hbv)
 have HVa := Hd hvj
 have HGa := Hd hg
 clear hra hbj hbv hxv hvj hg K1 x0 x1 x2 x3 x4 x5 y0 y1 y2 y3 y4 y5
 go_upto_region 4 with fail
 rw [← HVa.out, ← HGa.out]
 obtain ⟨⟨x0, x1, x2, x3, x4, x5⟩, ⟨y0, y1, y2, y3, y4, y5⟩⟩ := HBX.out _ HBv5.out
 go_wp2_with fail
 refine (K2'.out v5 (HB1.out.trans (HBv5.out.mono HB1.out.size))).mono ?_
 rintro e w6 ⟨rs, rfl, hra, hbj⟩
 obtain ⟨Aab, cab, Bab, dab, Cab, eab, rfl, -⟩ := hra.inv
 simp only [cells6T] at hra ⊢
 obtain ⟨v6, hvj⟩ : ∃ x, x = w6.alloc (.cells #[.int .i64 ku1, .string su1, .int .i64 nu1, .slice Aab pu1.length cab, .slice Bab fu1.length dab, .slice Cab vu1.length eab] 26) := ⟨_, rfl⟩
 obtain ⟨gb, hg⟩ : ∃ x, x = w6.heap.size := ⟨_, rfl⟩
 have hbv : Below w6.heap.size w6 v6 := by rw [hvj]; exact (Below.refl _ _).alloc (Nat.le_refl _) _
 have hxv : v6.heap[gb]? = some (.cells #[.int .i64 ku1, .string su1, .int .i64 nu1, .slice Aab pu1.length cab, .slice Bab fu1.length dab, .slice Cab vu1.length eab] 26 (0, 0)) := by rw [hvj, hg]; exact heap_alloc_new w6 _
 have HBv6 := Hd (HBv5.out.trans ((hbj.trans (hbv.mono hbj.size)).mono HBv5.out.size))
 have HXb := Hd hxv
 have HS56 := Hd (hbj.trans (hbv.mono hbj.size))
 have HRb := Hd (hra.later hbv)
 have HVb := Hd hvj
 have HGb := Hd hg
 clear hra hbj hbv hxv hvj hg K2' x0 x1 x2 x3 x4 x5 y0 y1 y2 y3 y4 y5
 go_upto_region 5 with fail
 rw [← HVb.out, ← HGb.out]
 obtain ⟨⟨x0, x1, x2, x3, x4, x5⟩, ⟨y0, y1, y2, y3, y4, y5⟩⟩ := HBX.out _ HBv6.out
 go_wp2_with fail
 refine (K3.out v6 (HB1.out.trans (HBv6.out.mono HB1.out.size))).mono ?_
 rintro e w7 ⟨rs, rfl, hra, hbj⟩
 obtain ⟨Aap, cap, Bap, dap, Cap, eap, rfl, -⟩ := hra.inv
 simp only [cells6T] at hra ⊢
 obtain ⟨v7, hvj⟩ : ∃ x, x = w7.alloc (.cells #[.int .i64 ku2, .string su2, .int .i64 nu2, .slice Aap pu2.length cap, .slice Bap fu2.length dap, .slice Cap vu2.length eap] 26) := ⟨_, rfl⟩
 obtain ⟨gp, hg⟩ : ∃ x, x = w7.heap.size := ⟨_, rfl⟩
 have hbv : Below w7.heap.size w7 v7 := by rw [hvj]; exact (Below.refl _ _).alloc (Nat.le_refl _) _
 have hxv : v7.heap[gp]? = some (.cells #[.int .i64 ku2, .string su2, .int .i64 nu2, .slice Aap pu2.length cap, .slice Bap fu2.length dap, .slice Cap vu2.length eap] 26 (0, 0)) := by rw [hvj, hg]; exact heap_alloc_new w7 _
 have HBv7 := Hd (HBv6.out.trans ((hbj.trans (hbv.mono hbj.size)).mono HBv6.out.size))
 have HXp := Hd hxv
 have HS67 := Hd (hbj.trans (hbv.mono hbj.size))
 have HRp := Hd (hra.later hbv)
 have HVp := Hd hvj
 have HGp := Hd hg
 clear hra hbj hbv hxv hvj hg K3 x0 x1 x2 x3 x4 x5 y0 y1 y2 y3 y4 y5
 go_upto_region 6 with fail
 rw [← HVp.out, ← HGp.out]
 obtain ⟨⟨x0, x1, x2, x3, x4, x5⟩, ⟨y0, y1, y2, y3, y4, y5⟩⟩ := HBX.out _ HBv7.out
 go_wp2_with fail
 refine (K4.out v7 (HB1.out.trans (HBv7.out.mono HB1.out.size))).mono ?_
 rintro e w8 ⟨rs, rfl, hra, hbj⟩
 obtain ⟨Aaq, caq, Baq, daq, Caq, eaq, rfl, -⟩ := hra.inv
 simp only [cells6T] at hra ⊢
 obtain ⟨v8, hvj⟩ : ∃ x, x = w8.alloc (.cells #[.int .i64 ku2, .string su2, .int .i64 nu2, .slice Aaq pu2.length caq, .slice Baq fu2.length daq, .slice Caq vu2.length eaq] 26) := ⟨_, rfl⟩
 obtain ⟨gq, hg⟩ : ∃ x, x = w8.heap.size := ⟨_, rfl⟩
 have hbv : Below w8.heap.size w8 v8 := by rw [hvj]; exact (Below.refl _ _).alloc (Nat.le_refl _) _
 have hxv : v8.heap[gq]? = some (.cells #[.int .i64 ku2, .string su2, .int .i64 nu2, .slice Aaq pu2.length caq, .slice Baq fu2.length daq, .slice Caq vu2.length eaq] 26 (0, 0)) := by rw [hvj, hg]; exact heap_alloc_new w8 _
 have HBv8 := Hd (HBv7.out.trans ((hbj.trans (hbv.mono hbj.size)).mono HBv7.out.size))
 have HXq := Hd hxv
 have HS78 := Hd (hbj.trans (hbv.mono hbj.size))
 have HRq := Hd (hra.later hbv)
 have HVq := Hd hvj
 have HGq := Hd hg
 clear hra hbj hbv hxv hvj hg K4 x0 x1 x2 x3 x4 x5 y0 y1 y2 y3 y4 y5
 go_upto_region 7 with fail
 rw [← HVq.out, ← HGq.out]
 obtain ⟨⟨x0, x1, x2, x3, x4, x5⟩, ⟨y0, y1, y2, y3, y4, y5⟩⟩ := HBX.out _ HBv8.out
 go_wp2_with fail
 refine (K5.out v8 (HB1.out.trans (HBv8.out.mono HB1.out.size))).mono ?_
 rintro e w9 ⟨A9, c9, rfl, hl9, hb9⟩
 have HL9 := Hd hl9
 have HB9 := Hd (HBv8.out.trans (hb9.mono HBv8.out.size))
 clear hl9 x0 x1 x2 x3 x4 x5 y0 y1 y2 y3 y4 y5 K5
 have HB89 := Hd hb9
 clear hb9
 obtain ⟨⟨x0, x1, x2, x3, x4, x5⟩, ⟨y0, y1, y2, y3, y4, y5⟩⟩ := HBX.out _ HB9.out
 go_wp2_with fail
 refine (K6.out w9 (HB1.out.trans (HB9.out.mono HB1.out.size))).mono ?_
 rintro e wt ⟨At, ct, rfl, hlt, hbt⟩
 have HLT := Hd hlt
 have HLQ := Hd (HL9.out.later hbt)
 have HBT := Hd (HB9.out.trans (hbt.mono HB9.out.size))
 have HB8T := Hd (HB89.out.trans (hbt.mono HB89.out.size))
 clear hlt hbt x0 x1 x2 x3 x4 x5 y0 y1 y2 y3 y4 y5 K6 HL9
 have hg8 : ga < v8.heap.size ∧ gb < v8.heap.size ∧ gp < v8.heap.size ∧ gq < v8.heap.size := by
  have h5 := HBv5.out.size
  have h1 := (Array.getElem?_eq_some_iff.1 HXa.out).1
  have h2 := (Array.getElem?_eq_some_iff.1 HXb.out).1
  have h3 := (Array.getElem?_eq_some_iff.1 HXp.out).1
  have h4 := (Array.getElem?_eq_some_iff.1 HXq.out).1
  have hV6 : v5.heap.size ≤ v6.heap.size := HS56.out.size
  have hV7 : v6.heap.size ≤ v7.heap.size := HS67.out.size
  have hV8 : v7.heap.size ≤ v8.heap.size := HS78.out.size
  omega
 have HA := Hd (box_up (HS56.out.trans ((HS67.out.trans ((HS78.out.trans (HB8T.out.mono HS78.out.size)).mono HS67.out.size)).mono HS56.out.size)) (Array.getElem?_eq_some_iff.1 HXa.out).1 HXa.out)
 have HBb := Hd (box_up (HS67.out.trans ((HS78.out.trans (HB8T.out.mono HS78.out.size)).mono HS67.out.size)) (Array.getElem?_eq_some_iff.1 HXb.out).1 HXb.out)
 have HPp := Hd (box_up (HS78.out.trans (HB8T.out.mono HS78.out.size)) (Array.getElem?_eq_some_iff.1 HXp.out).1 HXp.out)
 have HQq := Hd (box_up HB8T.out (Array.getElem?_eq_some_iff.1 HXq.out).1 HXq.out)
 have HRA2 := Hd (HRa.out.later (HS56.out.trans ((HS67.out.trans ((HS78.out.trans (HB8T.out.mono HS78.out.size)).mono HS67.out.size)).mono HS56.out.size)))
 have HRB2 := Hd (HRb.out.later (HS67.out.trans ((HS78.out.trans (HB8T.out.mono HS78.out.size)).mono HS67.out.size)))
 have HRP2 := Hd (HRp.out.later (HS78.out.trans (HB8T.out.mono HS78.out.size)))
 have HRQ2 := Hd (HRq.out.later HB8T.out)
 clear hg8 HXa HXb HXp HXq HRa HRb HRp HRq
 obtain ⟨a0', a1', a2', a3', a4', a5'⟩ := cz6 HA.out
 obtain ⟨b0', b1', b2', b3', b4', b5'⟩ := cz6 HBb.out
 go_wp2_with fail
 refine (same13 HRA2.out HRB2.out).mono ?_
 rintro e wu ⟨rfl, hbu⟩
 have HBU := Hd hbu
 rw [show (ordT (.mk ku1 su1 nu1 pu1 fu1 vu1) (.mk ku1 su1 nu1 pu1 fu1 vu1) == 0) = true from by rw [beq_iff_eq]; exact ordT_zero.2 rfl]
 obtain ⟨p0', p1', p2', p3', p4', p5'⟩ := cz6 (box_up hbu (Array.getElem?_eq_some_iff.1 HPp.out).1 HPp.out)
 obtain ⟨q0', q1', q2', q3', q4', q5'⟩ := cz6 (box_up hbu (Array.getElem?_eq_some_iff.1 HQq.out).1 HQq.out)
 clear hbu a0' a1' a2' a3' a4' a5' b0' b1' b2' b3' b4' b5'
 go_wp2_with fail
 refine (same13 (HRP2.out.later HBU.out) (HRQ2.out.later HBU.out)).mono ?_
 rintro e wz ⟨rfl, hbz⟩
 have HTZ := Hd (HBU.out.trans (hbz.mono HBU.out.size))
 rw [show (ordT (.mk ku2 su2 nu2 pu2 fu2 vu2) (.mk ku2 su2 nu2 pu2 fu2 vu2) == 0) = true from by rw [beq_iff_eq]; exact ordT_zero.2 rfl]
 clear hbz p0' p1' p2' p3' p4' p5' q0' q1' q2' q3' q4' q5' HA HBb HPp HQq HRA2 HRB2 HRP2 HRQ2
 have HLN := Hd HLT.out.short
 go_wp2_with fail
 go_loopw [15] (fun v wr => ∃ i : Nat, i ≤ L.length ∧ v = .int .i64 i ∧ Below wt.heap.size wt wr) (fun v _ => L.length - (intOf v).toNat)
 case atStart => exact ⟨0, by omega, rfl, HTZ.out⟩
 case round =>
  obtain ⟨i, hi, rfl, hb⟩ := hrel
  have HBR := Hd hb
  have hll := HLN.out
  by_cases hin : i < L.length
  ·have t1 : decide ((i : Int) < (L.length : Int)) = true := by simp; omega
   have wr2 : wrap64 ((i : Int) + 1) = ((i + 1 : Nat) : Int) := wrap_one (by omega)
   have HM := Hd (measI hin)
   obtain ⟨tb, tq, hA, -, hat⟩ := HLQ.out.at (by omega)
   subst hA
   obtain ⟨es, hes, hrq⟩ := hat i hin
   obtain ⟨pb, po, hA, -, hat2⟩ := HLT.out.at (by omega)
   subst hA
   obtain ⟨ds2, hds, hrs⟩ := hat2 i hin
   have HIn : Hid (i + 1 ≤ L.length) := Hd hin
   generalize L[i]'hin = u at hrq hrs
   have KQ : Hid (∀ wx, Below wt.heap.size wt wx → Calls Tryz.prog 12 #[.agg es.toArray, .agg ds2.toArray] wx fun e w' => e = .returned (.bool true) ∧ Below wx.heap.size wx w') := Hd fun wx hx => by
    have h := same13 (hrq.later hx) (hrs.later hx)
    rw [show (ordT u u == 0) = true from by rw [beq_iff_eq]; exact ordT_zero.2 rfl] at h
    exact h
   obtain ⟨k4, s4, n4, ps4, fs4, vs4⟩ := u
   obtain ⟨A4, c4, B4, d4, C4, e4, rfl, -⟩ := hrq.inv
   obtain ⟨A5, c5, B5, d5, C5, e5, rfl, -⟩ := hrs.inv
   simp only [cells6T] at hes hds KQ
   have HC : Hid (∀ wx, Below wt.heap.size wt wx → (wx.cell? ⟨tb, tq + i * 6, none⟩ = some (.int .i64 k4) ∧ wx.cell? ⟨tb, tq + i * 6 + 1, none⟩ = some (.string s4) ∧ wx.cell? ⟨tb, tq + i * 6 + 2, none⟩ = some (.int .i64 n4) ∧ wx.cell? ⟨tb, tq + i * 6 + 3, none⟩ = some (.slice A4 ps4.length c4) ∧ wx.cell? ⟨tb, tq + i * 6 + 4, none⟩ = some (.slice B4 fs4.length d4) ∧ wx.cell? ⟨tb, tq + i * 6 + 5, none⟩ = some (.slice C4 vs4.length e4)) ∧ (wx.cell? ⟨pb, po + i * 6, none⟩ = some (.int .i64 k4) ∧ wx.cell? ⟨pb, po + i * 6 + 1, none⟩ = some (.string s4) ∧ wx.cell? ⟨pb, po + i * 6 + 2, none⟩ = some (.int .i64 n4) ∧ wx.cell? ⟨pb, po + i * 6 + 3, none⟩ = some (.slice A5 ps4.length c5) ∧ wx.cell? ⟨pb, po + i * 6 + 4, none⟩ = some (.slice B5 fs4.length d5) ∧ wx.cell? ⟨pb, po + i * 6 + 5, none⟩ = some (.slice C5 vs4.length e5))) := Hd fun wx hx => ⟨⟨cell_stays hx (hes 0 _ rfl), cell_stays hx (hes 1 _ rfl), cell_stays hx (hes 2 _ rfl), cell_stays hx (hes 3 _ rfl), cell_stays hx (hes 4 _ rfl), cell_stays hx (hes 5 _ rfl)⟩, cell_stays hx (hds 0 _ rfl), cell_stays hx (hds 1 _ rfl), cell_stays hx (hds 2 _ rfl), cell_stays hx (hds 3 _ rfl), cell_stays hx (hds 4 _ rfl), cell_stays hx (hds 5 _ rfl)⟩
   have i1 : (0 : Int) ≤ (i : Int) := by omega
   have i2 : (i : Int) < (L.length : Int) := by omega
   clear hi hat hat2 hes hds hrq hrs hll hb
   go_upto_region 14 with fail
   refine wp_region_held_drew (S := (fun w' => (w'.cell? ⟨tb, tq + i * 6, none⟩ = some (.int .i64 k4) ∧ w'.cell? ⟨tb, tq + i * 6 + 1, none⟩ = some (.string s4) ∧ w'.cell? ⟨tb, tq + i * 6 + 2, none⟩ = some (.int .i64 n4) ∧ w'.cell? ⟨tb, tq + i * 6 + 3, none⟩ = some (.slice A4 ps4.length c4) ∧ w'.cell? ⟨tb, tq + i * 6 + 4, none⟩ = some (.slice B4 fs4.length d4) ∧ w'.cell? ⟨tb, tq + i * 6 + 5, none⟩ = some (.slice C4 vs4.length e4)) ∧ (w'.cell? ⟨pb, po + i * 6, none⟩ = some (.int .i64 k4) ∧ w'.cell? ⟨pb, po + i * 6 + 1, none⟩ = some (.string s4) ∧ w'.cell? ⟨pb, po + i * 6 + 2, none⟩ = some (.int .i64 n4) ∧ w'.cell? ⟨pb, po + i * 6 + 3, none⟩ = some (.slice A5 ps4.length c5) ∧ w'.cell? ⟨pb, po + i * 6 + 4, none⟩ = some (.slice B5 fs4.length d5) ∧ w'.cell? ⟨pb, po + i * 6 + 5, none⟩ = some (.slice C5 vs4.length e5)))) (by kernel_rfl) (HC.out _ HBR.out.drew) (fun hHeld => ?_)
   refine Plan.start [0, 1, 2, 3, 4, 5, 6, 7] ?_
   iterate 8 (refine Plan.tk (so rfl) hHeld ?_; try simp only [Act.put, pz1, pz2, pz3])
   refine Plan.done ?_
   refine wpAnyH_ready (rs := [8]) (by kernel_rfl) (by simp) ?_
   refine AllReadyH.cons (sd (some 96) rfl) (fun Kx hK => ?_) AllReadyH.nil
   go_simp
   refine (KQ.out _ HBR.out.drew).mono ?_
   rintro e wy ⟨rfl, hby⟩
   have HBY := Hd (HBR.out.drew.trans (hby.mono HBR.out.drew.size))
   clear hby KQ
   go_wp2_with fail
   refine hK.out _ _ (HC.out _ HBY.out) (fun hHeld => ?_)
   clear hK Kx
   try simp only [Act.put, pz1, pz2, pz3]
   refine Plan.start [9] ?_
   refine Plan.tk (so rfl) hHeld ?_
   try simp only [Act.put, pz1, pz2, pz3]
   refine Plan.done ?_
   refine wpAnyH_done (by kernel_rfl) ?_ _
   clear hHeld
   try clear hHeld
   go_wp2_with fail
   refine ⟨⟨i + 1, HIn.out, by first | rfl | rw [wr2], HBY.out⟩, ?_⟩
   first | exact HM.out | (rw [wr2]; exact HM.out)
  ·have t1 : decide ((i : Int) < (L.length : Int)) = false := by simp; omega
   go_wp2_with fail
   go_ret
   exact ⟨rfl, HB1.out.trans ((HBT.out.trans (HBR.out.mono HBT.out.size)).mono HB1.out.size)⟩
theorem asks_walk {K K2 : Nat → Prop} {w : World} {t q : Ty} {cs ds : List Value} (hr : RepT K w t cs) (hp : RepT K2 w q ds) :
  Calls Tryz.prog 3 #[.agg cs.toArray, .agg ds.toArray] w (fun e w' => e = .returned (.bool true) ∧ Below w.heap.size w w') := by
 obtain ⟨k, s, n, ps, fs, vs⟩ := t
 obtain ⟨k3, s3, n3, ps3, fs3, vs3⟩ := q
 by_cases h1 : cntT (.mk k s n ps fs vs) ≤ 4096
 ·by_cases h2 : cntT (.mk k3 s3 n3 ps3 fs3 vs3) ≤ 4096
  ·exact asks_m _ _ _ _ _ _ _ _ _ _ _ _ hr hp h1 h2
  ·exact asks_k _ _ _ _ _ _ _ _ _ _ _ _ hr hp h1 h2
 ·exact asks_s _ _ _ _ _ _ _ _ _ _ _ _ hr hp h1
end Go.Proofs.YteakkjhcdpbidaaGreatDoor
