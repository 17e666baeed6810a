import Derived.Test.YtjbccjmpebgdjaaGreatDoorMg47
namespace Go.Proofs.YtjbccjmpebgdjaaGreatDoor
open Go.RowKit
set_option maxRecDepth 100000
set_option maxHeartbeats 64000000
theorem rise_one (x : ByteArray) : riseS [x] = [x] := asc_eq (asc_riseS _) (List.pairwise_singleton _ _) fun y => by rw [mem_riseS]
theorem awake14g (w : World) : Calls Tryz.prog 5 #[] w fun e w' => e = .returned (.bool true) ∧ Below w.heap.size w w' := by
 go_enter Tryz.func5, Tryz.ntmps5
 go_wp2_with fail
 refine (of14 7 _).mono ?_
 rintro e w1 ⟨rfl, hb1⟩
 have HB1 := Hd hb1
 clear hb1
 go_wp2_with fail
 refine (infer14 _ _).mono ?_
 rintro e w3 ⟨rfl, hb3⟩
 have hx : w3.heap[w1.heap.size]? = some (.cells #[.int .i64 7, .string ⟨#[]⟩, .int .i64 0, .slice none 0 0, .slice none 0 0, .slice none 0 0] 26 (0, 0)) := box_up hb3 (by simp) (heap_alloc_new w1 _)
 have HX := Hd hx
 have HB3 := Hd (HB1.out.trans ((((Below.refl w1.heap.size w1).alloc (Nat.le_refl _) _).trans (hb3.mono (by simp))).mono HB1.out.size))
 clear hx hb3
 go_wp2_with fail
 obtain ⟨w4, hw4⟩ : ∃ x, x = w3.alloc (.cells #[.int .i64 22, .string ⟨#[86]⟩, .int .i64 0, .slice none 0 0, .slice none 0 0, .slice none 0 0] 26) := ⟨_, rfl⟩
 have hb4 : Below w3.heap.size w3 w4 := by rw [hw4]; exact (Below.refl _ _).alloc (Nat.le_refl _) _
 have hr := rep_arr (rep_k (fun _ => False) w4 7) (fun _ h => h.elim) (box_up hb4 (Array.getElem?_eq_some_iff.1 HX.out).1 HX.out)
 have hp := rep_arr (rep_inf (fun _ => False) w4 vB (by decide)) (fun _ h => h.elim) (g := w3.heap.size) (by rw [hw4]; exact heap_alloc_new w3 _)
 have HB4 := Hd (HB3.out.trans (hb4.mono HB3.out.size))
 have kg := cgat_ok hr hp (fun _ h => h) (fun _ h => h) (formed_of (form_arrT (form_tyK (by decide) (by decide))) (by rw [cnt_arrT, cnt_kind]; decide)) (formed_of (form_arrT (form_infV name_v)) (by rw [cnt_arrT, cnt_infV]; decide)) (by rw [cnt_arrT, cnt_arrT, cnt_infV, cnt_kind]; decide) (by rw [names_arrT, names_infV]; intro x hx; rw [List.mem_singleton] at hx; rw [hx]; decide)
 rw [names_arrT, names_infV, gath_arr, rise_one, List.map_cons, List.map_nil, show stdF [(vB, tyK 7)] vB = (vB, tyK 7) from by unfold stdF; rw [gatN_one, if_pos rfl, std_one (form_tyK (by decide) (by decide))]] at kg
 have KG := Hd kg
 rw [← hw4]
 clear hr hp hb4 hw4 kg
 refine KG.out.mono ?_
 rintro e w5 ⟨v, rfl, ho, hb5⟩
 obtain ⟨A, c, g, o, rfl, hA, hat⟩ := ho.spread
 have hA1 := (hA (by simp)).1
 subst hA1
 obtain ⟨cs, ⟨rs, rfl, hrr⟩, -, hc⟩ := hat 0 (by simp)
 simp only [List.getElem_cons_zero, Nat.zero_mul, Nat.add_zero] at hrr hc
 obtain ⟨A7, c7, B7, d7, C7, e7, rfl, -⟩ := RepT.inv (k := 7) (t := emptyB) (n := 0) (ps := []) (fs := []) (vs := []) hrr
 have z0 : w5.cell? ⟨g, o, none⟩ = some (.string ⟨#[86]⟩) := hc 0 _ rfl
 have z1 : w5.cell? ⟨g, o + 1, none⟩ = some (.int .i64 7) := hc 1 _ rfl
 have HB5 := Hd (HB4.out.trans (hb5.mono HB4.out.size))
 simp only [List.length_cons, List.length_nil, Nat.zero_add]
 clear hb5 hc hrr ho hat hA KG HX
 go_wp2_with fail
 go_ret
 exact ⟨rfl, HB5.out⟩
theorem names_size (t : Ty) : ∀ (K : Nat → Prop) (w : World) (cs : List Value), RepT K w t cs → ∀ x ∈ namesI t, x.size ≤ 1000000000000000 := by
 refine Ty.ind (C := fun t => ∀ (K : Nat → Prop) (w : World) (cs : List Value), RepT K w t cs → ∀ x ∈ namesI t, x.size ≤ 1000000000000000) (fun k t n ps fs vs hp hf _ => ?_) t
 intro K w cs hr x hx
 obtain ⟨A, c, A', c', A'', c'', rfl, ht, hL, hF, -⟩ := hr.inv
 rw [namesI_mk] at hx
 by_cases h22 : k = 22
 ·rw [if_pos h22, List.mem_singleton] at hx
  subst hx
  exact ht
 ·rw [if_neg h22] at hx
  rcases List.mem_append.1 hx with hx | hx
  ·have key : ∀ (l : List Ty) (i : Nat), x ∈ namesP k i l → ∃ p ∈ l, x ∈ namesI p := fun l => by
    induction l with
    | nil => intro i h; simp [namesP] at h
    | cons a l ih =>
     intro i h
     rw [namesP, List.mem_append] at h
     rcases h with h | h
     ·split at h
      ·cases h
      ·exact ⟨a, List.mem_cons_self, h⟩
     ·obtain ⟨p, h1, h2⟩ := ih _ h
      exact ⟨p, List.mem_cons_of_mem _ h1, h2⟩
   obtain ⟨p, hpm, hx⟩ := key ps 0 hx
   obtain ⟨i, hi, rfl⟩ := List.getElem_of_mem hpm
   obtain ⟨b, o, _, _, hat⟩ := hL.at (by omega)
   obtain ⟨ds, _, hrp⟩ := hat i hi
   exact hp _ hpm K w ds hrp x hx
  ·unfold namesF at hx
   obtain ⟨y, hy, hx⟩ := List.mem_flatten.1 hx
   obtain ⟨f, hfm, rfl⟩ := List.mem_map.1 hy
   obtain ⟨i, hi, rfl⟩ := List.getElem_of_mem hfm
   obtain ⟨b, o, _, _, hat⟩ := hF.at (by omega)
   obtain ⟨ds, _, hrp⟩ := (hat i hi).2.2.2
   exact hf _ hfm K w ds hrp x hx
theorem gathers_s {K K2 : Nat → Prop} {w : World} {t p : Ty} {cs ds : List Value} (hr : RepT K w t cs) (hp : RepT K2 w p ds) (hct : ¬ cntT t + cntT p ≤ 1000) : Calls Tryz.prog 3 #[.agg cs.toArray, .agg ds.toArray] w (fun e w' => e = .returned (.bool true) ∧ Below w.heap.size w w') := by
 have KAw := Hd fun wx => awake14g wx
 have ksm := fun (wx : World) (hx : Below w.heap.size w wx) => small14 (hr.later hx) (hp.later hx)
 rw [decide_eq_false hct] at ksm
 obtain ⟨k, s, n, ps, fs, vs⟩ := t
 obtain ⟨k2, s2, n2, ps2, fs2, vs2⟩ := p
 refine two_pre hr hp fun A c B d C e A2 c2 B2 d2 C2 e2 w1 h hcs hds => ?_
 subst hcs
 subst hds
 obtain ⟨HBX, HB1, HW1, -, -⟩ := h
 have hb1 := HB1.out
 have KSm := Hd (fun wx (hx : Below w1.heap.size w1 wx) => ksm wx (hb1.trans (hx.mono hb1.size)))
 clear ksm hr hp hb1 hct
 go_enter Tryz.func3, Tryz.ntmps3
 go_upto_region 1 with fail
 rw [← HW1.out]
 obtain ⟨⟨x0, x1, x2, x3, x4, x5⟩, ⟨y0, y1, y2, y3, y4, y5⟩⟩ := HBX.out _ (Below.refl _ _)
 go_wp2_with fail
 refine (KAw.out _).mono ?_
 rintro e w2 ⟨rfl, hb⟩
 have HB2 := Hd ((Below.refl w1.heap.size w1).trans (hb.mono (Below.refl w1.heap.size w1).size))
 clear hb x0 x1 x2 x3 x4 x5 y0 y1 y2 y3 y4 y5
 obtain ⟨⟨x0, x1, x2, x3, x4, x5⟩, ⟨y0, y1, y2, y3, y4, y5⟩⟩ := HBX.out _ HB2.out
 go_wp2_with fail
 refine (KSm.out _ HB2.out).mono ?_
 rintro e w3 ⟨rfl, hb⟩
 have HB3 := Hd (HB2.out.trans (hb.mono HB2.out.size))
 clear hb x0 x1 x2 x3 x4 x5 y0 y1 y2 y3 y4 y5
 obtain ⟨⟨x0, x1, x2, x3, x4, x5⟩, ⟨y0, y1, y2, y3, y4, y5⟩⟩ := HBX.out _ HB3.out
 go_wp2_with fail
 refine (KAw.out _).mono ?_
 rintro e w9 ⟨rfl, hb⟩
 have HB9 := Hd (HB3.out.trans (hb.mono HB3.out.size))
 clear hb x0 x1 x2 x3 x4 x5 y0 y1 y2 y3 y4 y5
 go_wp2_with fail
 go_ret
 exact ⟨rfl, HB1.out.trans (HB9.out.mono HB1.out.size)⟩
theorem gathers_t {K K2 : Nat → Prop} {w : World} {t p : Ty} {cs ds : List Value} (hr : RepT K w t cs) (hp : RepT K2 w p ds) (hct : cntT t + cntT p ≤ 1000) (hft : formedT t = false) : Calls Tryz.prog 3 #[.agg cs.toArray, .agg ds.toArray] w (fun e w' => e = .returned (.bool true) ∧ Below w.heap.size w w') := by
 have KAw := Hd fun wx => awake14g wx
 have ksm := fun (wx : World) (hx : Below w.heap.size w wx) => small14 (hr.later hx) (hp.later hx)
 rw [decide_eq_true hct] at ksm
 have kc := fun (wx : World) (hx : Below w.heap.size w wx) => cgat_t (hr.later hx) (hp.later hx) hft
 have kr := fun (wx : World) (hx : Below w.heap.size w wx) => rgat_t (hr.later hx) (hp.later hx) hft
 obtain ⟨k, s, n, ps, fs, vs⟩ := t
 obtain ⟨k2, s2, n2, ps2, fs2, vs2⟩ := p
 refine two_pre hr hp fun A c B d C e A2 c2 B2 d2 C2 e2 w1 h hcs hds => ?_
 subst hcs
 subst hds
 obtain ⟨HBX, HB1, HW1, -, -⟩ := h
 have hb1 := HB1.out
 have KSm := Hd (fun wx (hx : Below w1.heap.size w1 wx) => ksm wx (hb1.trans (hx.mono hb1.size)))
 have KC := Hd (fun wx (hx : Below w1.heap.size w1 wx) => kc wx (hb1.trans (hx.mono hb1.size)))
 have KR := Hd (fun wx (hx : Below w1.heap.size w1 wx) => kr wx (hb1.trans (hx.mono hb1.size)))
 clear ksm kc kr hr hp hb1 hct
 go_enter Tryz.func3, Tryz.ntmps3
 go_upto_region 1 with fail
 rw [← HW1.out]
 obtain ⟨⟨x0, x1, x2, x3, x4, x5⟩, ⟨y0, y1, y2, y3, y4, y5⟩⟩ := HBX.out _ (Below.refl _ _)
 go_wp2_with fail
 refine (KAw.out _).mono ?_
 rintro e w2 ⟨rfl, hb⟩
 have HB2 := Hd ((Below.refl w1.heap.size w1).trans (hb.mono (Below.refl w1.heap.size w1).size))
 clear hb x0 x1 x2 x3 x4 x5 y0 y1 y2 y3 y4 y5
 obtain ⟨⟨x0, x1, x2, x3, x4, x5⟩, ⟨y0, y1, y2, y3, y4, y5⟩⟩ := HBX.out _ HB2.out
 go_wp2_with fail
 refine (KSm.out _ HB2.out).mono ?_
 rintro e w3 ⟨rfl, hb⟩
 have HB3 := Hd (HB2.out.trans (hb.mono HB2.out.size))
 clear hb x0 x1 x2 x3 x4 x5 y0 y1 y2 y3 y4 y5
 obtain ⟨⟨x0, x1, x2, x3, x4, x5⟩, ⟨y0, y1, y2, y3, y4, y5⟩⟩ := HBX.out _ HB3.out
 go_wp2_with fail
 refine (KC.out _ HB3.out).mono ?_
 rintro e w4 ⟨rfl, hb⟩
 have HB4 := Hd (HB3.out.trans (hb.mono HB3.out.size))
 clear hb x0 x1 x2 x3 x4 x5 y0 y1 y2 y3 y4 y5
 obtain ⟨⟨x0, x1, x2, x3, x4, x5⟩, ⟨y0, y1, y2, y3, y4, y5⟩⟩ := HBX.out _ HB4.out
 go_wp2_with fail
 refine (KR.out _ HB4.out).mono ?_
 rintro e w5 ⟨rfl, hb⟩
 have HB5 := Hd (HB4.out.trans (hb.mono HB4.out.size))
 clear hb x0 x1 x2 x3 x4 x5 y0 y1 y2 y3 y4 y5
 go_wp2_with fail
 go_loopw [9] (fun v wr => v = .int .i64 0 ∧ wr = w5) (fun _ _ => 0)
 case atStart => exact ⟨rfl, rfl⟩
 case round =>
  obtain ⟨rfl, rfl⟩ := hrel
  go_wp2_with fail
  go_ret
  exact ⟨rfl, HB1.out.trans (HB5.out.mono HB1.out.size)⟩
theorem gathers_p {K K2 : Nat → Prop} {w : World} {t p : Ty} {cs ds : List Value} (hr : RepT K w t cs) (hp : RepT K2 w p ds) (hct : cntT t + cntT p ≤ 1000) (hft : formedT t = true) (hfp : formedT p = false) : Calls Tryz.prog 3 #[.agg cs.toArray, .agg ds.toArray] w (fun e w' => e = .returned (.bool true) ∧ Below w.heap.size w w') := by
 have KAw := Hd fun wx => awake14g wx
 have ksm := fun (wx : World) (hx : Below w.heap.size w wx) => small14 (hr.later hx) (hp.later hx)
 rw [decide_eq_true hct] at ksm
 have kc := fun (wx : World) (hx : Below w.heap.size w wx) => cgat_p (hr.later hx) (hp.later hx) hft hfp
 have kr := fun (wx : World) (hx : Below w.heap.size w wx) => rgat_p (hr.later hx) (hp.later hx) hft hfp
 obtain ⟨k, s, n, ps, fs, vs⟩ := t
 obtain ⟨k2, s2, n2, ps2, fs2, vs2⟩ := p
 refine two_pre hr hp fun A c B d C e A2 c2 B2 d2 C2 e2 w1 h hcs hds => ?_
 subst hcs
 subst hds
 obtain ⟨HBX, HB1, HW1, -, -⟩ := h
 have hb1 := HB1.out
 have KSm := Hd (fun wx (hx : Below w1.heap.size w1 wx) => ksm wx (hb1.trans (hx.mono hb1.size)))
 have KC := Hd (fun wx (hx : Below w1.heap.size w1 wx) => kc wx (hb1.trans (hx.mono hb1.size)))
 have KR := Hd (fun wx (hx : Below w1.heap.size w1 wx) => kr wx (hb1.trans (hx.mono hb1.size)))
 clear ksm kc kr hr hp hb1 hct
 go_enter Tryz.func3, Tryz.ntmps3
 go_upto_region 1 with fail
 rw [← HW1.out]
 obtain ⟨⟨x0, x1, x2, x3, x4, x5⟩, ⟨y0, y1, y2, y3, y4, y5⟩⟩ := HBX.out _ (Below.refl _ _)
 go_wp2_with fail
 refine (KAw.out _).mono ?_
 rintro e w2 ⟨rfl, hb⟩
 have HB2 := Hd ((Below.refl w1.heap.size w1).trans (hb.mono (Below.refl w1.heap.size w1).size))
 clear hb x0 x1 x2 x3 x4 x5 y0 y1 y2 y3 y4 y5
 obtain ⟨⟨x0, x1, x2, x3, x4, x5⟩, ⟨y0, y1, y2, y3, y4, y5⟩⟩ := HBX.out _ HB2.out
 go_wp2_with fail
 refine (KSm.out _ HB2.out).mono ?_
 rintro e w3 ⟨rfl, hb⟩
 have HB3 := Hd (HB2.out.trans (hb.mono HB2.out.size))
 clear hb x0 x1 x2 x3 x4 x5 y0 y1 y2 y3 y4 y5
 obtain ⟨⟨x0, x1, x2, x3, x4, x5⟩, ⟨y0, y1, y2, y3, y4, y5⟩⟩ := HBX.out _ HB3.out
 go_wp2_with fail
 refine (KC.out _ HB3.out).mono ?_
 rintro e w4 ⟨rfl, hb⟩
 have HB4 := Hd (HB3.out.trans (hb.mono HB3.out.size))
 clear hb x0 x1 x2 x3 x4 x5 y0 y1 y2 y3 y4 y5
 obtain ⟨⟨x0, x1, x2, x3, x4, x5⟩, ⟨y0, y1, y2, y3, y4, y5⟩⟩ := HBX.out _ HB4.out
 go_wp2_with fail
 refine (KR.out _ HB4.out).mono ?_
 rintro e w5 ⟨rfl, hb⟩
 have HB5 := Hd (HB4.out.trans (hb.mono HB4.out.size))
 clear hb x0 x1 x2 x3 x4 x5 y0 y1 y2 y3 y4 y5
 go_wp2_with fail
 go_loopw [9] (fun v wr => v = .int .i64 0 ∧ wr = w5) (fun _ _ => 0)
 case atStart => exact ⟨rfl, rfl⟩
 case round =>
  obtain ⟨rfl, rfl⟩ := hrel
  go_wp2_with fail
  go_ret
  exact ⟨rfl, HB1.out.trans (HB5.out.mono HB1.out.size)⟩
theorem gathers_m {K K2 : Nat → Prop} {w : World} {t p : Ty} {cs ds : List Value} (hr : RepT K w t cs) (hp : RepT K2 w p ds) (hct : cntT t + cntT p ≤ 1000) (hft : formedT t = true) (hfp : formedT p = true) : Calls Tryz.prog 3 #[.agg cs.toArray, .agg ds.toArray] w (fun e w' => e = .returned (.bool true) ∧ Below w.heap.size w w') := by
 have hlr := RepT.low _ _ hr
 have hlp := RepT.low _ _ hp
 have KAw := Hd fun wx => awake14g wx
 have ksm := fun (wx : World) (hx : Below w.heap.size w wx) => small14 (hr.later hx) (hp.later hx)
 rw [decide_eq_true hct] at ksm
 have hct' : cntT p + cntT t ≤ 1000 := by omega
 have hnm := names_size p _ _ _ hp
 have kc := fun (wx : World) (hx : Below w.heap.size w wx) => cgat_ok (hlr.later hx) (hlp.later hx) (fun b h => Nat.lt_of_lt_of_le h hx.size) (fun b h => Nat.lt_of_lt_of_le h hx.size) hft hfp hct' fun x hx => by have := hnm x hx; unfold maxLen; omega
 have kr := fun (wx : World) (hx : Below w.heap.size w wx) => rgat_ok (hr.later hx) (hp.later hx) hft hfp hct'
 have hnn : (riseS (namesI p)).length ≤ 1000000 := by have h1 := riseS_len (namesI p); have h2 := names_cnt p; omega
 obtain ⟨k, s, n, ps, fs, vs⟩ := t
 obtain ⟨k2, s2, n2, ps2, fs2, vs2⟩ := p
 refine two_pre hr hp fun A c B d C e A2 c2 B2 d2 C2 e2 w1 h hcs hds => ?_
 subst hcs
 subst hds
 obtain ⟨HBX, HB1, HW1, -, -⟩ := h
 have hb1 := HB1.out
 have KSm := Hd (fun wx (hx : Below w1.heap.size w1 wx) => ksm wx (hb1.trans (hx.mono hb1.size)))
 have KC := Hd (fun wx (hx : Below w1.heap.size w1 wx) => kc wx (hb1.trans (hx.mono hb1.size)))
 have KR := Hd (fun wx (hx : Below w1.heap.size w1 wx) => kr wx (hb1.trans (hx.mono hb1.size)))
 have HNN := Hd hnn
 clear ksm kc kr hr hp hlr hlp hb1 hct hct' hft hfp hnm hnn
 generalize riseS (namesI (.mk k2 s2 n2 ps2 fs2 vs2)) = L at KC KR HNN
 generalize gathT (.mk k2 s2 n2 ps2 fs2 vs2) (.mk k s n ps fs vs) = G at KC KR
 go_enter Tryz.func3, Tryz.ntmps3
 go_upto_region 1 with fail
 rw [← HW1.out]
 obtain ⟨⟨x0, x1, x2, x3, x4, x5⟩, ⟨y0, y1, y2, y3, y4, y5⟩⟩ := HBX.out _ (Below.refl _ _)
 go_wp2_with fail
 refine (KAw.out _).mono ?_
 rintro e w2 ⟨rfl, hb⟩
 have HB2 := Hd ((Below.refl w1.heap.size w1).trans (hb.mono (Below.refl w1.heap.size w1).size))
 clear hb x0 x1 x2 x3 x4 x5 y0 y1 y2 y3 y4 y5
 obtain ⟨⟨x0, x1, x2, x3, x4, x5⟩, ⟨y0, y1, y2, y3, y4, y5⟩⟩ := HBX.out _ HB2.out
 go_wp2_with fail
 refine (KSm.out _ HB2.out).mono ?_
 rintro e w3 ⟨rfl, hb⟩
 have HB3 := Hd (HB2.out.trans (hb.mono HB2.out.size))
 clear hb x0 x1 x2 x3 x4 x5 y0 y1 y2 y3 y4 y5
 obtain ⟨⟨x0, x1, x2, x3, x4, x5⟩, ⟨y0, y1, y2, y3, y4, y5⟩⟩ := HBX.out _ HB3.out
 go_wp2_with fail
 refine (KC.out _ HB3.out).mono ?_
 rintro e w4 ⟨v4, rfl, ho4, hb⟩
 have HB4 := Hd (HB3.out.trans (hb.mono HB3.out.size))
 have HO4 := Hd ho4
 clear ho4
 clear hb x0 x1 x2 x3 x4 x5 y0 y1 y2 y3 y4 y5
 obtain ⟨⟨x0, x1, x2, x3, x4, x5⟩, ⟨y0, y1, y2, y3, y4, y5⟩⟩ := HBX.out _ HB4.out
 go_wp2_with fail
 refine (KR.out _ HB4.out).mono ?_
 rintro e w5 ⟨v5, rfl, ho5, hb⟩
 have HB5 := Hd (HB4.out.trans (hb.mono HB4.out.size))
 have ho4 := HO4.out.later keepFd hb
 obtain ⟨A1, c1, ab, ao, hv4, hA1, hat1⟩ := ho4.spread
 obtain ⟨A2, c2x, bb, bo, hv5, hA2, hat2⟩ := ho5.spread
 have hml : (L.map (stdF G)).length = L.length := List.length_map _
 rw [hml] at hv4 hv5 hA1 hA2
 subst hv4 hv5
 have HA1 := Hd hA1
 have HA2 := Hd hA2
 have HAT1 := Hd hat1
 have HAT2 := Hd hat2
 have HML := Hd hml
 clear hb ho4 ho5 hA1 hA2 hat1 hat2 hml HO4 x0 x1 x2 x3 x4 x5 y0 y1 y2 y3 y4 y5
 go_wp2_with fail
 go_loopw [9] (fun v wr => ∃ (i : Nat), i ≤ L.length ∧ v = .int .i64 i ∧ Below w5.heap.size w5 wr) (fun v _ => L.length - (intOf v).toNat)
 case atStart => exact ⟨0, by omega, rfl, Below.refl _ _⟩
 case round =>
  obtain ⟨i, hi, rfl, hb⟩ := hrel
  have HBR := Hd hb
  clear hb
  by_cases hin : i < L.length
  ·have t1 : decide ((i : Int) < (L.length : Int)) = true := by simp; omega
   have wr2 : wrap64 ((i : Int) + 1) = ((i + 1 : Nat) : Int) := wrap_one (by have := HNN.out; omega)
   have HM := Hd (measI hin)
   have HIn : Hid (i + 1 ≤ L.length) := Hd hin
   have i1 : (0 : Int) ≤ (i : Int) := by omega
   have i2 : (i : Int) < (L.length : Int) := by omega
   have hA1 := (HA1.out (by omega)).1
   have hA2 := (HA2.out (by omega)).1
   subst hA1 hA2
   obtain ⟨cs1, ⟨r1, rfl, hr1⟩, -, hc1⟩ := HAT1.out i (by rw [HML.out]; exact hin)
   obtain ⟨cs2, ⟨r2, rfl, hr2⟩, -, hc2⟩ := HAT2.out i (by rw [HML.out]; exact hin)
   rw [List.getElem_map] at hr1 hr2 hc1 hc2
   have e0 : stdF G (L[i]'hin) = (L[i]'hin, stdT (gatN (L[i]'hin) G)) := rfl
   rw [e0] at hr1 hr2 hc1 hc2
   simp only at hr1 hr2 hc1 hc2
   have KS := Hd fun wx (hx : Below wr.heap.size wr wx) => same14 (hr1.later (HBR.out.trans (hx.mono HBR.out.size))) (hr2.later (HBR.out.trans (hx.mono HBR.out.size)))
   generalize stdT (gatN (L[i]'hin) G) = u at hr1 hr2 KS
   generalize L[i]'hin = nm at hc1 hc2
   obtain ⟨k3, s3, n3, ps3, fs3, vs3⟩ := u
   obtain ⟨A3, c3, B3, d3, C3, e3, rfl, -⟩ := hr1.inv
   obtain ⟨A4, c4, B4, d4, C4, e4, rfl, -⟩ := hr2.inv
   rw [show (ordT (.mk k3 s3 n3 ps3 fs3 vs3) (.mk k3 s3 n3 ps3 fs3 vs3) == 0) = true from by rw [ordT_zero.2 rfl]; rfl] at KS
   simp only [cells6T] at hc1 hc2 KS
   have HSW : Hid (∀ wx, Below wr.heap.size wr wx → (wx.cell? ⟨ab, ao + i * 7, none⟩ = some (.string nm) ∧ wx.cell? ⟨ab, ao + i * 7 + 1, none⟩ = some (.int .i64 k3) ∧ wx.cell? ⟨ab, ao + i * 7 + 2, none⟩ = some (.string s3) ∧ wx.cell? ⟨ab, ao + i * 7 + 3, none⟩ = some (.int .i64 n3) ∧ wx.cell? ⟨ab, ao + i * 7 + 4, none⟩ = some (.slice A3 ps3.length c3) ∧ wx.cell? ⟨ab, ao + i * 7 + 5, none⟩ = some (.slice B3 fs3.length d3) ∧ wx.cell? ⟨ab, ao + i * 7 + 6, none⟩ = some (.slice C3 vs3.length e3)) ∧ (wx.cell? ⟨bb, bo + i * 7, none⟩ = some (.string nm) ∧ wx.cell? ⟨bb, bo + i * 7 + 1, none⟩ = some (.int .i64 k3) ∧ wx.cell? ⟨bb, bo + i * 7 + 2, none⟩ = some (.string s3) ∧ wx.cell? ⟨bb, bo + i * 7 + 3, none⟩ = some (.int .i64 n3) ∧ wx.cell? ⟨bb, bo + i * 7 + 4, none⟩ = some (.slice A4 ps3.length c4) ∧ wx.cell? ⟨bb, bo + i * 7 + 5, none⟩ = some (.slice B4 fs3.length d4) ∧ wx.cell? ⟨bb, bo + i * 7 + 6, none⟩ = some (.slice C4 vs3.length e4))) := Hd fun wx hx => by
    have hb := HBR.out.trans (hx.mono HBR.out.size)
    exact ⟨⟨cell_stays hb (hc1 0 _ rfl), cell_stays hb (hc1 1 _ rfl), cell_stays hb (hc1 2 _ rfl), cell_stays hb (hc1 3 _ rfl), cell_stays hb (hc1 4 _ rfl), cell_stays hb (hc1 5 _ rfl), cell_stays hb (hc1 6 _ rfl)⟩, cell_stays hb (hc2 0 _ rfl), cell_stays hb (hc2 1 _ rfl), cell_stays hb (hc2 2 _ rfl), cell_stays hb (hc2 3 _ rfl), cell_stays hb (hc2 4 _ rfl), cell_stays hb (hc2 5 _ rfl), cell_stays hb (hc2 6 _ rfl)⟩
   clear hi hr1 hr2 hc1 hc2 e0
   go_upto_region 10 with fail
   refine wp_region_held_drew (S := (fun w' => (w'.cell? ⟨ab, ao + i * 7, none⟩ = some (.string nm) ∧ w'.cell? ⟨ab, ao + i * 7 + 1, none⟩ = some (.int .i64 k3) ∧ w'.cell? ⟨ab, ao + i * 7 + 2, none⟩ = some (.string s3) ∧ w'.cell? ⟨ab, ao + i * 7 + 3, none⟩ = some (.int .i64 n3) ∧ w'.cell? ⟨ab, ao + i * 7 + 4, none⟩ = some (.slice A3 ps3.length c3) ∧ w'.cell? ⟨ab, ao + i * 7 + 5, none⟩ = some (.slice B3 fs3.length d3) ∧ w'.cell? ⟨ab, ao + i * 7 + 6, none⟩ = some (.slice C3 vs3.length e3)) ∧ (w'.cell? ⟨bb, bo + i * 7, none⟩ = some (.string nm) ∧ w'.cell? ⟨bb, bo + i * 7 + 1, none⟩ = some (.int .i64 k3) ∧ w'.cell? ⟨bb, bo + i * 7 + 2, none⟩ = some (.string s3) ∧ w'.cell? ⟨bb, bo + i * 7 + 3, none⟩ = some (.int .i64 n3) ∧ w'.cell? ⟨bb, bo + i * 7 + 4, none⟩ = some (.slice A4 ps3.length c4) ∧ w'.cell? ⟨bb, bo + i * 7 + 5, none⟩ = some (.slice B4 fs3.length d4) ∧ w'.cell? ⟨bb, bo + i * 7 + 6, none⟩ = some (.slice C4 vs3.length e4)))) (by kernel_rfl) (HSW.out _ (Below.refl _ _).drew) (fun hHeld => ?_)
   refine Plan.start [0, 1, 2, 3, 4, 5, 6, 7, 8, 9, 10, 11, 12, 13, 14, 15, 16, 17, 18, 19, 20, 21] ?_
   iterate 22 (refine Plan.tk (so rfl) hHeld ?_; try simp only [Act.put, pz1, pz2, pz3])
   refine Plan.done ?_
   refine wpAnyH_ready (rs := [22]) (by kernel_rfl) (by simp) ?_
   refine AllReadyH.cons (sd (some 69) rfl) (fun Kx hK => ?_) AllReadyH.nil
   go_simp
   refine (KS.out _ (Below.refl _ _).drew).mono ?_
   rintro e w8 ⟨rfl, hb⟩
   have HB8 := Hd (show Below wr.heap.size wr w8 from (Below.refl _ _).drew.trans hb)
   clear hb
   go_wp2_with fail
   refine hK.out _ _ (HSW.out _ HB8.out) (fun hHeld => ?_)
   clear hK Kx
   try simp only [Act.put, pz1, pz2, pz3]
   refine Plan.start [23, 24] ?_
   iterate 2 (refine Plan.tk (so rfl) hHeld ?_; try simp only [Act.put, pz1, pz2, pz3])
   refine Plan.done ?_
   refine wpAnyH_done (by kernel_rfl) ?_ _
   clear hHeld
   go_wp2_with fail
   refine ⟨⟨i + 1, HIn.out, by first | rfl | rw [wr2], HBR.out.trans (HB8.out.mono HBR.out.size)⟩, ?_⟩
   first | exact HM.out | (rw [wr2]; exact HM.out)
  ·have t1 : decide ((i : Int) < (L.length : Int)) = false := by simp; omega
   clear hi
   go_wp2_with fail
   go_ret
   exact ⟨rfl, HB1.out.trans ((HB5.out.trans (HBR.out.mono HB5.out.size)).mono HB1.out.size)⟩
theorem gathers_walk {K K2 : Nat → Prop} {w : World} {t p : Ty} {cs ds : List Value} (hr : RepT K w t cs) (hp : RepT K2 w p ds) : Calls Tryz.prog 3 #[.agg cs.toArray, .agg ds.toArray] w (fun e w' => e = .returned (.bool true) ∧ Below w.heap.size w w') := by
 by_cases hct : cntT t + cntT p ≤ 1000
 case neg => exact gathers_s hr hp hct
 cases hft : formedT t with
 | false => exact gathers_t hr hp hct hft
 | true =>
  cases hfp : formedT p with
  | false => exact gathers_p hr hp hct hft hfp
  | true => exact gathers_m hr hp hct hft hfp
end Go.Proofs.YtjbccjmpebgdjaaGreatDoor
