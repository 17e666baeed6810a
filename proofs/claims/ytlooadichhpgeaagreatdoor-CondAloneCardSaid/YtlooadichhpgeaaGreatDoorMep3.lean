import Derived.Test.YtlooadichhpgeaaGreatDoorMes
import Derived.Test.YtlooadichhpgeaaGreatDoorMep2
namespace Go.Proofs.YtlooadichhpgeaaGreatDoor
open Go.RowKit
set_option maxRecDepth 100000 in
set_option maxHeartbeats 64000000 in
theorem small14_y {K K2 : Nat → Prop} {w : World} (k : Int) (s : ByteArray) (n : Int) (ps : List Ty) (fs : List (ByteArray × Int × Ty)) (vs : List (ByteArray × List Ty)) (k3 : Int) (s3 : ByteArray) (n3 : Int) (ps3 : List Ty) (fs3 : List (ByteArray × Int × Ty)) (vs3 : List (ByteArray × List Ty)) {cs ds : List Value} (hr : RepT K w (.mk k s n ps fs vs) cs) (hp : RepT K2 w (.mk k3 s3 n3 ps3 fs3 vs3) ds) (hsm : cntT (.mk k s n ps fs vs) + cntT (.mk k3 s3 n3 ps3 fs3 vs3) ≤ 1000) : Calls Tryz.prog 7 #[.agg cs.toArray, .agg ds.toArray] w fun e w' => e = .returned (.bool true) ∧ Below w.heap.size w w' := by
 refine two_pre hr hp fun A c A' c' A'' c'' A3 c3 B3 d3 C3 e3 w1 h hcs hds => ?_
 subst hcs
 subst hds
 clear hr hp
 obtain ⟨HBX, HB1, HW1, HR, HP⟩ := h
 obtain ⟨X, hX, kx⟩ := nod14 HR.out HB1.out
 obtain ⟨Y, hY, ky⟩ := nod14 HP.out HB1.out
 have KX := Lib.hid kx
 have KY := Lib.hid ky
 have w12 : wrap64 (X + Y) = X + Y := wrap_in (by omega) (by omega)
 have v12 : IntKind.i64.wrap (X + Y) = X + Y := (wrap14 _).trans w12
 have g1 : decide (X + Y ≤ (1000 : Int)) = true := decide_eq_true (by omega)
 have g2 : X + Y ≤ (1000 : Int) := by omega
 clear kx ky hX hY hsm
 go_enter Tryz.func7, Tryz.ntmps7
 go_upto_region 1 with fail
 rw [← HW1.out]
 refine wp_region_held_drew (S := (fun w' => (w'.cell? ⟨w.heap.size, 0, none⟩ = some (.int .i64 k) ∧ w'.cell? ⟨w.heap.size, 1, none⟩ = some (.string s) ∧ w'.cell? ⟨w.heap.size, 2, none⟩ = some (.int .i64 n) ∧ w'.cell? ⟨w.heap.size, 3, none⟩ = some (.slice A ps.length c) ∧ w'.cell? ⟨w.heap.size, 4, none⟩ = some (.slice A' fs.length c') ∧ w'.cell? ⟨w.heap.size, 5, none⟩ = some (.slice A'' vs.length c'')) ∧ (w'.cell? ⟨w.heap.size + 1, 0, none⟩ = some (.int .i64 k3) ∧ w'.cell? ⟨w.heap.size + 1, 1, none⟩ = some (.string s3) ∧ w'.cell? ⟨w.heap.size + 1, 2, none⟩ = some (.int .i64 n3) ∧ w'.cell? ⟨w.heap.size + 1, 3, none⟩ = some (.slice A3 ps3.length c3) ∧ w'.cell? ⟨w.heap.size + 1, 4, none⟩ = some (.slice B3 fs3.length d3) ∧ w'.cell? ⟨w.heap.size + 1, 5, none⟩ = some (.slice C3 vs3.length e3)))) (by kernel_rfl) (HBX.out _ (Below.refl _ _).drew) (fun hHeld => ?_)
 refine Plan.start [0, 2] ?_
 iterate 2 ((refine Plan.take (v := ?_) (so rfl) (by kernel_rfl) (by kernel_rfl) (by kernel_rfl) (fun _ _ _ h => h) (Or.inl ⟨by rfl, ?_⟩) hHeld ?_; rotate_left; focus (intro w' hSw; (try dsimp only at hSw); go_simp; try with_reducible rfl)); try simp only [Act.put, List.setIfInBounds_toArray, List.set_cons_zero, List.set_cons_succ])
 refine Plan.done ?_
 refine wpAnyH_ready (rs := [1]) (by kernel_rfl) (by simp) ?_
 refine AllReadyH.cons (sd (some 6) rfl) (fun Kx hK => ?_) AllReadyH.nil
 go_simp
 refine (KX.out _ (Below.refl w1.heap.size w1).drew).mono ?_
 rintro e w2 ⟨rfl, hb⟩
 have HB2 := Lib.hid (((Below.refl w1.heap.size w1).drew).trans (hb.mono ((Below.refl w1.heap.size w1).drew).size))
 clear hb
 go_wp2_with fail
 refine hK.out _ _ (HBX.out _ HB2.out) (fun hHeld => ?_)
 clear hK Kx
 try simp only [Act.put, List.setIfInBounds_toArray, List.set_cons_zero, List.set_cons_succ]
 refine wpAnyH_ready (rs := [3]) (by kernel_rfl) (by simp) ?_
 refine AllReadyH.cons (sd (some 8) rfl) (fun Kx hK => ?_) AllReadyH.nil
 go_simp
 refine (KY.out _ HB2.out).mono ?_
 rintro e w3 ⟨rfl, hb⟩
 have HB3 := Lib.hid ((HB2.out).trans (hb.mono (HB2.out).size))
 clear hb
 go_wp2_with fail
 refine hK.out _ _ (HBX.out _ HB3.out) (fun hHeld => ?_)
 clear hK Kx
 try simp only [Act.put, List.setIfInBounds_toArray, List.set_cons_zero, List.set_cons_succ]
 refine Plan.start [4, 5, 6] ?_
 iterate 3 ((refine Plan.take (v := ?_) (so rfl) (by kernel_rfl) (by kernel_rfl) (by kernel_rfl) (fun _ _ _ h => h) (Or.inl ⟨by rfl, ?_⟩) hHeld ?_; rotate_left; focus (intro w' hSw; (try dsimp only at hSw); go_simp; try with_reducible rfl)); try simp only [Act.put, List.setIfInBounds_toArray, List.set_cons_zero, List.set_cons_succ])
 refine Plan.done ?_
 refine wpAnyH_done (by kernel_rfl) ?_ _
 clear hHeld
 go_wp2_with fail
 go_ret
 exact ⟨rfl, HB1.out.trans (HB3.out.mono HB1.out.size)⟩
set_option maxRecDepth 100000 in
set_option maxHeartbeats 64000000 in
theorem small14_n {K K2 : Nat → Prop} {w : World} (k : Int) (s : ByteArray) (n : Int) (ps : List Ty) (fs : List (ByteArray × Int × Ty)) (vs : List (ByteArray × List Ty)) (k3 : Int) (s3 : ByteArray) (n3 : Int) (ps3 : List Ty) (fs3 : List (ByteArray × Int × Ty)) (vs3 : List (ByteArray × List Ty)) {cs ds : List Value} (hr : RepT K w (.mk k s n ps fs vs) cs) (hp : RepT K2 w (.mk k3 s3 n3 ps3 fs3 vs3) ds) (hsm : ¬ cntT (.mk k s n ps fs vs) + cntT (.mk k3 s3 n3 ps3 fs3 vs3) ≤ 1000) : Calls Tryz.prog 7 #[.agg cs.toArray, .agg ds.toArray] w fun e w' => e = .returned (.bool false) ∧ Below w.heap.size w w' := by
 refine two_pre hr hp fun A c A' c' A'' c'' A3 c3 B3 d3 C3 e3 w1 h hcs hds => ?_
 subst hcs
 subst hds
 clear hr hp
 obtain ⟨HBX, HB1, HW1, HR, HP⟩ := h
 obtain ⟨X, hX, kx⟩ := nod14 HR.out HB1.out
 obtain ⟨Y, hY, ky⟩ := nod14 HP.out HB1.out
 have KX := Lib.hid kx
 have KY := Lib.hid ky
 have w12 : wrap64 (X + Y) = X + Y := wrap_in (by omega) (by omega)
 have v12 : IntKind.i64.wrap (X + Y) = X + Y := (wrap14 _).trans w12
 have g1 : decide (X + Y ≤ (1000 : Int)) = false := decide_eq_false (by omega)
 have g2 : ¬ X + Y ≤ (1000 : Int) := by omega
 clear kx ky hX hY hsm
 go_enter Tryz.func7, Tryz.ntmps7
 go_upto_region 1 with fail
 rw [← HW1.out]
 refine wp_region_held_drew (S := (fun w' => (w'.cell? ⟨w.heap.size, 0, none⟩ = some (.int .i64 k) ∧ w'.cell? ⟨w.heap.size, 1, none⟩ = some (.string s) ∧ w'.cell? ⟨w.heap.size, 2, none⟩ = some (.int .i64 n) ∧ w'.cell? ⟨w.heap.size, 3, none⟩ = some (.slice A ps.length c) ∧ w'.cell? ⟨w.heap.size, 4, none⟩ = some (.slice A' fs.length c') ∧ w'.cell? ⟨w.heap.size, 5, none⟩ = some (.slice A'' vs.length c'')) ∧ (w'.cell? ⟨w.heap.size + 1, 0, none⟩ = some (.int .i64 k3) ∧ w'.cell? ⟨w.heap.size + 1, 1, none⟩ = some (.string s3) ∧ w'.cell? ⟨w.heap.size + 1, 2, none⟩ = some (.int .i64 n3) ∧ w'.cell? ⟨w.heap.size + 1, 3, none⟩ = some (.slice A3 ps3.length c3) ∧ w'.cell? ⟨w.heap.size + 1, 4, none⟩ = some (.slice B3 fs3.length d3) ∧ w'.cell? ⟨w.heap.size + 1, 5, none⟩ = some (.slice C3 vs3.length e3)))) (by kernel_rfl) (HBX.out _ (Below.refl _ _).drew) (fun hHeld => ?_)
 refine Plan.start [0, 2] ?_
 iterate 2 ((refine Plan.take (v := ?_) (so rfl) (by kernel_rfl) (by kernel_rfl) (by kernel_rfl) (fun _ _ _ h => h) (Or.inl ⟨by rfl, ?_⟩) hHeld ?_; rotate_left; focus (intro w' hSw; (try dsimp only at hSw); go_simp; try with_reducible rfl)); try simp only [Act.put, List.setIfInBounds_toArray, List.set_cons_zero, List.set_cons_succ])
 refine Plan.done ?_
 refine wpAnyH_ready (rs := [1]) (by kernel_rfl) (by simp) ?_
 refine AllReadyH.cons (sd (some 6) rfl) (fun Kx hK => ?_) AllReadyH.nil
 go_simp
 refine (KX.out _ (Below.refl w1.heap.size w1).drew).mono ?_
 rintro e w2 ⟨rfl, hb⟩
 have HB2 := Lib.hid (((Below.refl w1.heap.size w1).drew).trans (hb.mono ((Below.refl w1.heap.size w1).drew).size))
 clear hb
 go_wp2_with fail
 refine hK.out _ _ (HBX.out _ HB2.out) (fun hHeld => ?_)
 clear hK Kx
 try simp only [Act.put, List.setIfInBounds_toArray, List.set_cons_zero, List.set_cons_succ]
 refine wpAnyH_ready (rs := [3]) (by kernel_rfl) (by simp) ?_
 refine AllReadyH.cons (sd (some 8) rfl) (fun Kx hK => ?_) AllReadyH.nil
 go_simp
 refine (KY.out _ HB2.out).mono ?_
 rintro e w3 ⟨rfl, hb⟩
 have HB3 := Lib.hid ((HB2.out).trans (hb.mono (HB2.out).size))
 clear hb
 go_wp2_with fail
 refine hK.out _ _ (HBX.out _ HB3.out) (fun hHeld => ?_)
 clear hK Kx
 try simp only [Act.put, List.setIfInBounds_toArray, List.set_cons_zero, List.set_cons_succ]
 refine Plan.start [4, 5, 6] ?_
 iterate 3 ((refine Plan.take (v := ?_) (so rfl) (by kernel_rfl) (by kernel_rfl) (by kernel_rfl) (fun _ _ _ h => h) (Or.inl ⟨by rfl, ?_⟩) hHeld ?_; rotate_left; focus (intro w' hSw; (try dsimp only at hSw); go_simp; try with_reducible rfl)); try simp only [Act.put, List.setIfInBounds_toArray, List.set_cons_zero, List.set_cons_succ])
 refine Plan.done ?_
 refine wpAnyH_done (by kernel_rfl) ?_ _
 clear hHeld
 go_wp2_with fail
 go_ret
 exact ⟨rfl, HB1.out.trans (HB3.out.mono HB1.out.size)⟩
theorem small14 {K K2 : Nat → Prop} {w : World} {t p : Ty} {cs ds : List Value} (hr : RepT K w t cs) (hp : RepT K2 w p ds) : Calls Tryz.prog 7 #[.agg cs.toArray, .agg ds.toArray] w fun e w' => e = .returned (.bool (decide (cntT t + cntT p ≤ 1000))) ∧ Below w.heap.size w w' := by
 obtain ⟨k, s, n, ps, fs, vs⟩ := t
 obtain ⟨k3, s3, n3, ps3, fs3, vs3⟩ := p
 by_cases h : cntT (.mk k s n ps fs vs) + cntT (.mk k3 s3 n3 ps3 fs3 vs3) ≤ 1000
 ·rw [decide_eq_true h]; exact small14_y k s n ps fs vs k3 s3 n3 ps3 fs3 vs3 hr hp h
 ·rw [decide_eq_false h]; exact small14_n k s n ps fs vs k3 s3 n3 ps3 fs3 vs3 hr hp h
theorem cg_inf {K K' : Nat → Prop} {w : World} {t : Ty} {s : ByteArray} {cs ds : List Value} (hr : RepT K w t cs) (hp : RepT K' w (infV s) ds) (hlo : ∀ b, K b → b < w.heap.size) (hlo' : ∀ b, K' b → b < w.heap.size) (ht : formedT t = true) (hs : nameT s = true) (hc : cntT t ≤ 4000) (hm : s.size ≤ maxLen) :
  Calls Tryz.prog 10 #[.agg cs.toArray, .agg ds.toArray] w (CgP w [s] [(s, t)]) := by
 have h := cgather_few hr hp hlo hlo' ht (formed_of (form_infV hs) (by rw [cnt_infV]; omega)) (hold_infV s t) (by rw [cnt_infV]; omega) (by rw [gath_infV]; simp) (by rw [names_infV]; simp) (by rw [names_infV]; intro x hx; rw [List.mem_singleton.1 hx]; exact hm) (fun x => flat_gat x _ (n := 4000) (by rw [gath_infV, List.map_cons, List.map_nil, cntL_cons, cntL_nil]; show cntT t + 0 ≤ 4000; omega) (by decide))
 rw [names_infV, gath_infV] at h
 exact h
theorem cg_no {K K' : Nat → Prop} {w : World} {t p : Ty} {cs ds : List Value} (hr : RepT K w t cs) (hp : RepT K' w p ds) (hlo : ∀ b, K b → b < w.heap.size) (hlo' : ∀ b, K' b → b < w.heap.size) (ht : formedT t = true) (hf : formedT p = true) (hno : infT p = false) (hc : cntT p + cntT t ≤ 1000000) :
  Calls Tryz.prog 10 #[.agg cs.toArray, .agg ds.toArray] w fun e w' => e = .returned (.tuple #[.slice none 0 0, .int .i64 0]) ∧ Below w.heap.size w w' := by
 have hn : namesI p = [] := Classical.byContradiction fun h => by have := (infT_names p).2 h; rw [hno] at this; cases this
 refine (cgather_few hr hp hlo hlo' ht hf (hold_no hno) hc (by rw [gathT_no hno]; simp) (by rw [hn]; simp) (by rw [hn]; intro x hx; cases hx) (fun x => flat_gat x _ (n := 0) (by rw [gathT_no hno]; simp [cntL_nil]) (by decide))).mono ?_
 rintro e w' ⟨hb, ⟨_, he⟩ | ⟨x, g, c, rs, h, _⟩⟩
 ·exact ⟨he, hb⟩
 ·rw [hn] at h; cases h
set_option maxRecDepth 100000 in
set_option maxHeartbeats 64000000 in
theorem alone_m {K K2 : Nat → Prop} {w : World} (k : Int) (s : ByteArray) (n : Int) (ps : List Ty) (fs : List (ByteArray × Int × Ty)) (vs : List (ByteArray × List Ty)) (k3 : Int) (s3 : ByteArray) (n3 : Int) (ps3 : List Ty) (fs3 : List (ByteArray × Int × Ty)) (vs3 : List (ByteArray × List Ty)) {cs ds : List Value} (hr : RepT K w (.mk k s n ps fs vs) cs) (hp : RepT K2 w (.mk k3 s3 n3 ps3 fs3 vs3) ds) {nm : ByteArray} (hnm : nm.size ≤ 1000000000000000) : Calls Tryz.prog 3 #[.agg cs.toArray, .agg ds.toArray, .string nm] w (fun e w' => e = .returned (.bool true) ∧ Below w.heap.size w w') := by
 have hnm' : nm.size ≤ 1000000000000000 := hnm
 refine two_pre hr hp fun A c A' c' A'' c'' A3 c3 B3 d3 C3 e3 w1 h hcs hds => ?_
 subst hcs
 subst hds
 clear hr hp
 obtain ⟨HBX, HB1, HW1, HR, HP⟩ := h
 have KAw := Lib.hid fun wx => awake14 wx
 have KSm := Lib.hid fun (wx : World) (hx : Below w1.heap.size w1 wx) => small14 (HR.out.later (HB1.out.trans (hx.mono HB1.out.size))) (HP.out.later (HB1.out.trans (hx.mono HB1.out.size)))
 have KFa := Lib.hid fun (wx : World) (hx : Below w1.heap.size w1 wx) => formed_ref (HR.out.later (HB1.out.trans (hx.mono HB1.out.size)))
 have KFb := Lib.hid fun (wx : World) (hx : Below w1.heap.size w1 wx) => formed_ref (HP.out.later (HB1.out.trans (hx.mono HB1.out.size)))
 have KNm := Lib.hid fun (wx : World) => name_ref nm wx hnm'
 have HNM := Lib.hid hnm'
 have HSM := Lib.hid (decide_eq_true_iff (p := cntT (.mk k s n ps fs vs) + cntT (.mk k3 s3 n3 ps3 fs3 vs3) ≤ 1000))
 generalize hsm : decide (cntT (.mk k s n ps fs vs) + cntT (.mk k3 s3 n3 ps3 fs3 vs3) ≤ 1000) = bsm at KSm HSM
 generalize hfa : formedT (.mk k s n ps fs vs) = bfa at KFa
 generalize hfb : formedT (.mk k3 s3 n3 ps3 fs3 vs3) = bfb at KFb
 generalize hnn : nameT nm = bnn at KNm
 have HFA := Lib.hid hfa
 have HFB := Lib.hid hfb
 have HNN := Lib.hid hnn
 clear hsm hfa hfb hnn hnm hnm'
 go_enter Tryz.func3, Tryz.ntmps3
 go_upto_region 1 with fail
 rw [← HW1.out]
 obtain ⟨⟨x0, x1, x2, x3, x4, x5⟩, ⟨y0, y1, y2, y3, y4, y5⟩⟩ := HBX.out _ (Below.refl _ _)
 go_wp2_with fail
 refine (KAw.out _).mono ?_
 rintro e w2 ⟨rfl, hb⟩
 have HB2 := Lib.hid hb
 clear hb
 clear x0 x1 x2 x3 x4 x5 y0 y1 y2 y3 y4 y5
 obtain ⟨⟨x0, x1, x2, x3, x4, x5⟩, ⟨y0, y1, y2, y3, y4, y5⟩⟩ := HBX.out _ HB2.out
 go_wp2_with fail
 refine (KSm.out _ HB2.out).mono ?_
 rintro e w3 ⟨rfl, hb⟩
 have HB3 := Lib.hid (HB2.out.trans (hb.mono HB2.out.size))
 clear hb
 clear x0 x1 x2 x3 x4 x5 y0 y1 y2 y3 y4 y5
 obtain ⟨⟨x0, x1, x2, x3, x4, x5⟩, ⟨y0, y1, y2, y3, y4, y5⟩⟩ := HBX.out _ HB3.out
 cases bsm with
 | false =>
  clear x0 x1 x2 x3 x4 x5 y0 y1 y2 y3 y4 y5
  go_wp2_with fail
  refine (KAw.out _).mono ?_
  rintro e w20 ⟨rfl, hb⟩
  have HB20 := Lib.hid (HB3.out.trans (hb.mono HB3.out.size))
  clear hb
  go_wp2_with fail
  go_ret
  exact ⟨rfl, HB1.out.trans (HB20.out.mono HB1.out.size)⟩
 | true =>
  go_wp2_with fail
  refine (KFa.out _ HB3.out).mono ?_
  rintro e w4 ⟨rfl, hb⟩
  have HB4 := Lib.hid (HB3.out.trans (hb.mono HB3.out.size))
  clear hb
  clear x0 x1 x2 x3 x4 x5 y0 y1 y2 y3 y4 y5
  obtain ⟨⟨x0, x1, x2, x3, x4, x5⟩, ⟨y0, y1, y2, y3, y4, y5⟩⟩ := HBX.out _ HB4.out
  cases bfa with
  | false =>
   clear x0 x1 x2 x3 x4 x5 y0 y1 y2 y3 y4 y5
   go_wp2_with fail
   refine (KAw.out _).mono ?_
   rintro e w20 ⟨rfl, hb⟩
   have HB20 := Lib.hid (HB4.out.trans (hb.mono HB4.out.size))
   clear hb
   go_wp2_with fail
   go_ret
   exact ⟨rfl, HB1.out.trans (HB20.out.mono HB1.out.size)⟩
  | true =>
   go_wp2_with fail
   refine (KFb.out _ HB4.out).mono ?_
   rintro e w5 ⟨rfl, hb⟩
   have HB5 := Lib.hid (HB4.out.trans (hb.mono HB4.out.size))
   clear hb
   clear x0 x1 x2 x3 x4 x5 y0 y1 y2 y3 y4 y5
   obtain ⟨⟨x0, x1, x2, x3, x4, x5⟩, ⟨y0, y1, y2, y3, y4, y5⟩⟩ := HBX.out _ HB5.out
   cases bfb with
   | false =>
    clear x0 x1 x2 x3 x4 x5 y0 y1 y2 y3 y4 y5
    go_wp2_with fail
    refine (KAw.out _).mono ?_
    rintro e w20 ⟨rfl, hb⟩
    have HB20 := Lib.hid (HB5.out.trans (hb.mono HB5.out.size))
    clear hb
    go_wp2_with fail
    go_ret
    exact ⟨rfl, HB1.out.trans (HB20.out.mono HB1.out.size)⟩
   | true =>
    go_wp2_with fail
    refine (KNm.out _).mono ?_
    rintro e w6 ⟨rfl, hb⟩
    have HB6 := Lib.hid (HB5.out.trans (hb.mono HB5.out.size))
    clear hb
    clear x0 x1 x2 x3 x4 x5 y0 y1 y2 y3 y4 y5
    obtain ⟨⟨x0, x1, x2, x3, x4, x5⟩, ⟨y0, y1, y2, y3, y4, y5⟩⟩ := HBX.out _ HB6.out
    cases bnn with
    | false =>
     clear x0 x1 x2 x3 x4 x5 y0 y1 y2 y3 y4 y5
     go_wp2_with fail
     refine (KAw.out _).mono ?_
     rintro e w20 ⟨rfl, hb⟩
     have HB20 := Lib.hid (HB6.out.trans (hb.mono HB6.out.size))
     clear hb
     go_wp2_with fail
     go_ret
     exact ⟨rfl, HB1.out.trans (HB20.out.mono HB1.out.size)⟩
    | true =>
     clear x0 x1 x2 x3 x4 x5 y0 y1 y2 y3 y4 y5
     have hsm := HSM.out.1 (by trivial)
     have HCA : Hid (cntT (.mk k s n ps fs vs) ≤ 4000) := Lib.hid (by omega)
     have HCB : Hid (cntT (.mk k3 s3 n3 ps3 fs3 vs3) ≤ 4000) := Lib.hid (by omega)
     have HFT := Lib.hid (formed_form HFA.out)
     have HNX : Hid (nm.size ≤ maxLen) := Lib.hid (by have := HNM.out; unfold maxLen; omega)
     clear hsm HSM
     go_upto_region 3 with fail
     refine wp_region_held_drew (S := (fun w' => w'.cell? ⟨w.heap.size, 0, none⟩ = some (.int .i64 k) ∧ w'.cell? ⟨w.heap.size, 1, none⟩ = some (.string s) ∧ w'.cell? ⟨w.heap.size, 2, none⟩ = some (.int .i64 n) ∧ w'.cell? ⟨w.heap.size, 3, none⟩ = some (.slice A ps.length c) ∧ w'.cell? ⟨w.heap.size, 4, none⟩ = some (.slice A' fs.length c') ∧ w'.cell? ⟨w.heap.size, 5, none⟩ = some (.slice A'' vs.length c''))) (by kernel_rfl) ((HBX.out _ HB6.out.drew).1) (fun hHeld => ?_)
     refine Plan.start [0, 1] ?_
     iterate 2 ((refine Plan.take (v := ?_) (so rfl) (by kernel_rfl) (by kernel_rfl) (by kernel_rfl) (fun _ _ _ h => h) (Or.inl ⟨by rfl, ?_⟩) hHeld ?_; rotate_left; focus (intro w' hSw; (try dsimp only at hSw); go_simp; try with_reducible rfl)); try simp only [Act.put, List.setIfInBounds_toArray, List.set_cons_zero, List.set_cons_succ])
     refine Plan.done ?_
     refine wpAnyH_ready (rs := [2]) (by kernel_rfl) (by simp) ?_
     refine AllReadyH.cons (sd (some 40) rfl) (fun Kx hK => ?_) AllReadyH.nil
     go_simp
     refine (infer14 nm _).mono ?_
     rintro e w7 ⟨rfl, hb⟩
     have HB7 := Lib.hid (HB6.out.drew.trans (hb.mono HB6.out.drew.size))
     clear hb
     go_wp2_with fail
     refine hK.out _ _ ((HBX.out _ HB7.out).1) (fun hHeld => ?_)
     clear hK Kx
     try simp only [Act.put, List.setIfInBounds_toArray, List.set_cons_zero, List.set_cons_succ]
     refine wpAnyH_ready (rs := [3]) (by kernel_rfl) (by simp) ?_
     refine AllReadyH.cons (sd (some 41) rfl) (fun Kx hK => ?_) AllReadyH.nil
     go_simp
     refine (cg_inf (RepT.low _ _ (HR.out.later (HB1.out.trans (HB7.out.mono HB1.out.size)))) (rep_inf (fun b => b < w7.heap.size) w7 nm HNM.out) (fun _ h => h) (fun _ h => h) HFA.out HNN.out HCA.out HNX.out).mono ?_
     rintro e w8 he
     obtain ⟨g, cg, rs, rfl, hb, hc, hr1⟩ := cg_out he
     rw [gatN_one, if_pos rfl, std_one HFT.out] at hr1
     obtain ⟨A1, c1, B1, d1, C1, e1, rfl, -⟩ := hr1.inv
     simp only [cells6T] at hc hr1
     have HB8 := Lib.hid (HB7.out.trans (hb.mono HB7.out.size))
     have HC1 := Lib.hid hc
     have HR1 := Lib.hid hr1
     clear he hb hc hr1
     go_wp2_with fail
     refine hK.out _ _ ((HBX.out _ HB8.out).1) (fun hHeld => ?_)
     clear hK Kx
     try simp only [Act.put, List.setIfInBounds_toArray, List.set_cons_zero, List.set_cons_succ]
     refine Plan.start [4, 5, 6, 7, 8] ?_
     iterate 5 ((refine Plan.take (v := ?_) (so rfl) (by kernel_rfl) (by kernel_rfl) (by kernel_rfl) (fun _ _ _ h => h) (Or.inl ⟨by rfl, ?_⟩) hHeld ?_; rotate_left; focus (intro w' hSw; (try dsimp only at hSw); go_simp; try with_reducible rfl)); try simp only [Act.put, List.setIfInBounds_toArray, List.set_cons_zero, List.set_cons_succ])
     refine Plan.done ?_
     refine wpAnyH_done (by kernel_rfl) ?_ _
     clear hHeld
     have HB80 := Lib.hid (Below.refl w8.heap.size w8).drew
     have HS4 : Hid (∀ wx, Below w8.heap.size w8 wx → (wx.cell? ⟨g, 0, none⟩ = some (.string nm) ∧ wx.cell? ⟨g, 1, none⟩ = some (.int .i64 k) ∧ wx.cell? ⟨g, 2, none⟩ = some (.string s) ∧ wx.cell? ⟨g, 3, none⟩ = some (.int .i64 n) ∧ wx.cell? ⟨g, 4, none⟩ = some (.slice A1 ps.length c1) ∧ wx.cell? ⟨g, 5, none⟩ = some (.slice B1 fs.length d1) ∧ wx.cell? ⟨g, 6, none⟩ = some (.slice C1 vs.length e1)) ∧ (wx.cell? ⟨w.heap.size, 0, none⟩ = some (.int .i64 k) ∧ wx.cell? ⟨w.heap.size, 1, none⟩ = some (.string s) ∧ wx.cell? ⟨w.heap.size, 2, none⟩ = some (.int .i64 n) ∧ wx.cell? ⟨w.heap.size, 3, none⟩ = some (.slice A ps.length c) ∧ wx.cell? ⟨w.heap.size, 4, none⟩ = some (.slice A' fs.length c') ∧ wx.cell? ⟨w.heap.size, 5, none⟩ = some (.slice A'' vs.length c''))) := Lib.hid fun wx hx => ⟨⟨cell_stays hx (HC1.out 0 _ rfl), cell_stays hx (HC1.out 1 _ rfl), cell_stays hx (HC1.out 2 _ rfl), cell_stays hx (HC1.out 3 _ rfl), cell_stays hx (HC1.out 4 _ rfl), cell_stays hx (HC1.out 5 _ rfl), cell_stays hx (HC1.out 6 _ rfl)⟩, (HBX.out wx (HB8.out.trans (hx.mono HB8.out.size))).1⟩
     go_upto_region 4 with fail
     refine wp_region_held_drew (S := (fun w' => (w'.cell? ⟨g, 0, none⟩ = some (.string nm) ∧ w'.cell? ⟨g, 1, none⟩ = some (.int .i64 k) ∧ w'.cell? ⟨g, 2, none⟩ = some (.string s) ∧ w'.cell? ⟨g, 3, none⟩ = some (.int .i64 n) ∧ w'.cell? ⟨g, 4, none⟩ = some (.slice A1 ps.length c1) ∧ w'.cell? ⟨g, 5, none⟩ = some (.slice B1 fs.length d1) ∧ w'.cell? ⟨g, 6, none⟩ = some (.slice C1 vs.length e1)) ∧ (w'.cell? ⟨w.heap.size, 0, none⟩ = some (.int .i64 k) ∧ w'.cell? ⟨w.heap.size, 1, none⟩ = some (.string s) ∧ w'.cell? ⟨w.heap.size, 2, none⟩ = some (.int .i64 n) ∧ w'.cell? ⟨w.heap.size, 3, none⟩ = some (.slice A ps.length c) ∧ w'.cell? ⟨w.heap.size, 4, none⟩ = some (.slice A' fs.length c') ∧ w'.cell? ⟨w.heap.size, 5, none⟩ = some (.slice A'' vs.length c'')))) (by kernel_rfl) (HS4.out _ HB80.out) (fun hHeld => ?_)
     refine Plan.start [0, 1, 2, 3, 4, 5, 6, 7, 8, 9, 10, 11, 12, 13, 14, 15, 16, 17, 18, 19, 20] ?_
     iterate 21 ((refine Plan.take (v := ?_) (so rfl) (by kernel_rfl) (by kernel_rfl) (by kernel_rfl) (fun _ _ _ h => h) (Or.inl ⟨by rfl, ?_⟩) hHeld ?_; rotate_left; focus (intro w' hSw; (try dsimp only at hSw); go_simp; try with_reducible rfl)); try simp only [Act.put, List.setIfInBounds_toArray, List.set_cons_zero, List.set_cons_succ])
     refine Plan.done ?_
     refine wpAnyH_ready (rs := [21]) (by kernel_rfl) (by simp) ?_
     refine AllReadyH.cons (sd (some 65) rfl) (fun Kx hK => ?_) AllReadyH.nil
     go_simp
     generalize hW : (w8.alloc (.cells #[.int .i64 k, .string s, .int .i64 n, .slice A ps.length c, .slice A' fs.length c', .slice A'' vs.length c''] 26)).drew = w9
     have hb : Below w8.heap.size w8 w9 := by rw [← hW]; exact ((Below.refl _ _).alloc (Nat.le_refl _) _).drew
     have rs : w9.heap[w8.heap.size]? = some (.cells #[.int .i64 k, .string s, .int .i64 n, .slice A ps.length c, .slice A' fs.length c', .slice A'' vs.length c''] 26 (0, 0)) := by rw [← hW]; exact heap_alloc_new w8 _
     have HB89 := Lib.hid hb
     have HB9 := Lib.hid (HB8.out.trans (hb.mono HB8.out.size))
     have HX9 := Lib.hid rs
     clear hW hb rs
     refine hK.out _ _ (HS4.out _ HB89.out) (fun hHeld => ?_)
     clear hK Kx
     try simp only [Act.put, List.setIfInBounds_toArray, List.set_cons_zero, List.set_cons_succ]
     refine wpAnyH_ready (rs := [22]) (by kernel_rfl) (by simp) ?_
     refine AllReadyH.cons (sd (some 66) rfl) (fun Kx hK => ?_) AllReadyH.nil
     go_simp
     refine (uni1_ref (RepT.low _ _ (HR.out.later (HB1.out.trans (HB9.out.mono HB1.out.size)))) (fun _ h => h) HX9.out HFT.out (by have := HCA.out; omega)).mono ?_
     rintro e w10 ⟨rs, rfl, hru, hb⟩
     rw [union_self HFT.out] at hru
     have HB810 := Lib.hid (HB89.out.trans (hb.mono HB89.out.size))
     have HB10 := Lib.hid (HB9.out.trans (hb.mono HB9.out.size))
     have HRU := Lib.hid hru
     clear hru hb
     go_wp2_with fail
     refine hK.out _ _ (HS4.out _ HB810.out) (fun hHeld => ?_)
     clear hK Kx
     try simp only [Act.put, List.setIfInBounds_toArray, List.set_cons_zero, List.set_cons_succ]
     refine wpAnyH_ready (rs := [23]) (by kernel_rfl) (by simp) ?_
     refine AllReadyH.cons (sd (some 67) rfl) (fun Kx hK => ?_) AllReadyH.nil
     go_simp
     refine (same14 (HR1.out.later HB810.out) HRU.out).mono ?_
     rintro e w11 ⟨he, hb⟩
     rw [ordT_zero.2 rfl] at he
     subst he
     have HB811 := Lib.hid (HB810.out.trans (hb.mono HB810.out.size))
     have HB11 := Lib.hid (HB10.out.trans (hb.mono HB10.out.size))
     clear hb
     go_wp2_with fail
     refine hK.out _ _ (HS4.out _ HB811.out) (fun hHeld => ?_)
     clear hK Kx
     try simp only [Act.put, List.setIfInBounds_toArray, List.set_cons_zero, List.set_cons_succ]
     refine Plan.start [24, 25] ?_
     iterate 2 ((refine Plan.take (v := ?_) (so rfl) (by kernel_rfl) (by kernel_rfl) (by kernel_rfl) (fun _ _ _ h => h) (Or.inl ⟨by rfl, ?_⟩) hHeld ?_; rotate_left; focus (intro w' hSw; (try dsimp only at hSw); go_simp; try with_reducible rfl)); try simp only [Act.put, List.setIfInBounds_toArray, List.set_cons_zero, List.set_cons_succ])
     refine Plan.done ?_
     refine wpAnyH_done (by kernel_rfl) ?_ _
     clear hHeld
     obtain ⟨⟨x0, x1, x2, x3, x4, x5⟩, ⟨y0, y1, y2, y3, y4, y5⟩⟩ := HBX.out _ HB11.out
     have hrp := RepT.low _ _ (HP.out.later (HB1.out.trans (HB11.out.mono HB1.out.size)))
     have KI := Lib.hid (infers_ref (.mk k3 s3 n3 ps3 fs3 vs3) _ w11 w11 _ (.slice none 0 0) [] hrp (Below.refl _ _) ⟨rfl, .inl ⟨rfl, rfl⟩⟩ List.Pairwise.nil (by have h1 := names_cnt (.mk k3 s3 n3 ps3 fs3 vs3); have h2 := HCB.out; simp only [List.length_nil]; omega))
     clear hrp
     go_upto_region 6 with fail
     go_wp2_with fail
     refine KI.out.mono ?_
     rintro e w12 ⟨v2, l2, rfl, hst⟩
     have hlen := hst.len
     have hmem := hst.mem
     have hnc := names_cnt (.mk k3 s3 n3 ps3 fs3 vs3)
     have hcb := HCB.out
     simp only [List.length_nil] at hlen
     obtain ⟨A2, c2, rfl, -⟩ := hst.own.list (by omega)
     have HB12 := Lib.hid (HB11.out.trans (hst.low.mono HB11.out.size))
     have hno : (infT (.mk k3 s3 n3 ps3 fs3 vs3) = true ∧ 0 < l2.length) ∨ (infT (.mk k3 s3 n3 ps3 fs3 vs3) = false ∧ l2.length = 0) := by
      cases hi : infT (.mk k3 s3 n3 ps3 fs3 vs3) with
      | true =>
       refine .inl ⟨rfl, ?_⟩
       have h := (infT_names (.mk k3 s3 n3 ps3 fs3 vs3)).1 hi
       obtain ⟨x, hx⟩ := List.exists_mem_of_ne_nil _ h
       exact List.length_pos_of_mem ((hmem x).2 (.inr hx))
      | false =>
       refine .inr ⟨rfl, ?_⟩
       have hn : namesI (.mk k3 s3 n3 ps3 fs3 vs3) = [] := Classical.byContradiction fun h => by have := (infT_names (.mk k3 s3 n3 ps3 fs3 vs3)).2 h; rw [hi] at this; cases this
       have hl : l2 = [] := List.eq_nil_iff_forall_not_mem.2 fun x hx => by rcases (hmem x).1 hx with h | h; (cases h); (rw [hn] at h; cases h)
       rw [hl]; rfl
     generalize l2.length = m2 at hno
     clear hst hlen hmem hnc hcb KI x0 x1 x2 x3 x4 x5 y0 y1 y2 y3 y4 y5
     rcases hno with ⟨hi, hpos⟩ | ⟨hi, rfl⟩
     ·have t1 : decide ((0 : Int) < (m2 : Int)) = true := decide_eq_true (by omega)
      have t2 : (0 : Int) < (m2 : Int) := by omega
      clear hi
      go_wp2_with fail
      go_ret
      exact ⟨rfl, HB1.out.trans (HB12.out.mono HB1.out.size)⟩
     ·have HNO := Lib.hid hi
      clear hi
      obtain ⟨⟨x0, x1, x2, x3, x4, x5⟩, ⟨y0, y1, y2, y3, y4, y5⟩⟩ := HBX.out _ HB12.out
      go_wp2_with fail
      refine (cg_no (RepT.low _ _ (HR.out.later (HB1.out.trans (HB12.out.mono HB1.out.size)))) (RepT.low _ _ (HP.out.later (HB1.out.trans (HB12.out.mono HB1.out.size)))) (fun _ h => h) (fun _ h => h) HFA.out HFB.out HNO.out (by have h1 := HCA.out; have h2 := HCB.out; omega)).mono ?_
      rintro e w13 ⟨rfl, hb⟩
      have HB13 := Lib.hid (HB12.out.trans (hb.mono HB12.out.size))
      clear hb x0 x1 x2 x3 x4 x5 y0 y1 y2 y3 y4 y5
      obtain ⟨⟨x0, x1, x2, x3, x4, x5⟩, ⟨y0, y1, y2, y3, y4, y5⟩⟩ := HBX.out _ HB13.out
      obtain ⟨w14, hw14⟩ : ∃ x, x = w13.alloc (.cells #[.string nm, .int .i64 k, .string s, .int .i64 n, .slice A ps.length c, .slice A' fs.length c', .slice A'' vs.length c''] 37) := ⟨_, rfl⟩
      have hb14 : Below w13.heap.size w13 w14 := by rw [hw14]; exact (Below.refl _ _).alloc (Nat.le_refl _) _
      have hx14 : w14.heap[w13.heap.size]? = some (.cells #[.string nm, .int .i64 k, .string s, .int .i64 n, .slice A ps.length c, .slice A' fs.length c', .slice A'' vs.length c''] 37 (0, 0)) := by rw [hw14]; exact heap_alloc_new w13 _
      have HB14 := Lib.hid (HB13.out.trans (hb14.mono HB13.out.size))
      have KF := Lib.hid (cfill_one (c0 := 1) (HP.out.later (HB1.out.trans (HB14.out.mono HB1.out.size))) (HR.out.later (HB1.out.trans (HB14.out.mono HB1.out.size))) (fun j u hj => row_cell hx14 hj) HFB.out HFA.out HNO.out (by have := HCB.out; omega) HNX.out)
      have HW14 := Lib.hid hw14
      clear hw14 hb14 hx14
      go_wp2_with fail
      rw [← HW14.out]
      clear HW14
      refine KF.out.mono ?_
      rintro e w15 ⟨rfl, hb⟩
      have HB15 := Lib.hid (HB14.out.trans (hb.mono HB14.out.size))
      clear hb x0 x1 x2 x3 x4 x5 y0 y1 y2 y3 y4 y5
      obtain ⟨w16, hw16⟩ : ∃ x, x = w15.alloc (.cells #[.int .i64 k3, .string s3, .int .i64 n3, .slice A3 ps3.length c3, .slice B3 fs3.length d3, .slice C3 vs3.length e3] 26) := ⟨_, rfl⟩
      have hb16 : Below w15.heap.size w15 w16 := by rw [hw16]; exact (Below.refl _ _).alloc (Nat.le_refl _) _
      have hx16 : w16.heap[w15.heap.size]? = some (.cells #[.int .i64 k3, .string s3, .int .i64 n3, .slice A3 ps3.length c3, .slice B3 fs3.length d3, .slice C3 vs3.length e3] 26 (0, 0)) := by rw [hw16]; exact heap_alloc_new w15 _
      have HB16 := Lib.hid (HB15.out.trans (hb16.mono HB15.out.size))
      have HW16 := Lib.hid hw16
      obtain ⟨⟨x0, x1, x2, x3, x4, x5⟩, ⟨y0, y1, y2, y3, y4, y5⟩⟩ := HBX.out _ HB16.out
      obtain ⟨z0, z1, z2, z3, z4, z5⟩ : w16.cell? ⟨w15.heap.size, 0, none⟩ = some (.int .i64 k3) ∧ w16.cell? ⟨w15.heap.size, 1, none⟩ = some (.string s3) ∧ w16.cell? ⟨w15.heap.size, 2, none⟩ = some (.int .i64 n3) ∧ w16.cell? ⟨w15.heap.size, 3, none⟩ = some (.slice A3 ps3.length c3) ∧ w16.cell? ⟨w15.heap.size, 4, none⟩ = some (.slice B3 fs3.length d3) ∧ w16.cell? ⟨w15.heap.size, 5, none⟩ = some (.slice C3 vs3.length e3) := ⟨Lib.cell_of_heap hx16 0, Lib.cell_of_heap hx16 1, Lib.cell_of_heap hx16 2, Lib.cell_of_heap hx16 3, Lib.cell_of_heap hx16 4, Lib.cell_of_heap hx16 5⟩
      clear hw16 hb16 hx16
      go_upto_region 10 with fail
      rw [← HW16.out]
      clear HW16
      go_wp2_with fail
      refine (same14 (HP.out.later (HB1.out.trans (HB16.out.mono HB1.out.size))) (HP.out.later (HB1.out.trans (HB16.out.mono HB1.out.size)))).mono ?_
      rintro e w17 ⟨he, hb⟩
      rw [ordT_zero.2 rfl] at he
      subst he
      have HB17 := Lib.hid (HB16.out.trans (hb.mono HB16.out.size))
      clear hb x0 x1 x2 x3 x4 x5 y0 y1 y2 y3 y4 y5 z0 z1 z2 z3 z4 z5
      go_wp2_with fail
      go_ret
      exact ⟨rfl, HB1.out.trans (HB17.out.mono HB1.out.size)⟩
theorem alone_walk {K K2 : Nat → Prop} {w : World} {t u : Ty} {cs ds : List Value} {nm : ByteArray} (hr : RepT K w t cs) (hp : RepT K2 w u ds) (hnm : nm.size ≤ 1000000000000000) : Calls Tryz.prog 3 #[.agg cs.toArray, .agg ds.toArray, .string nm] w (fun e w' => e = .returned (.bool true) ∧ Below w.heap.size w w') := by
 obtain ⟨k, s, n, ps, fs, vs⟩ := t
 obtain ⟨k3, s3, n3, ps3, fs3, vs3⟩ := u
 exact alone_m k s n ps fs vs k3 s3 n3 ps3 fs3 vs3 hr hp hnm
end Go.Proofs.YtlooadichhpgeaaGreatDoor
