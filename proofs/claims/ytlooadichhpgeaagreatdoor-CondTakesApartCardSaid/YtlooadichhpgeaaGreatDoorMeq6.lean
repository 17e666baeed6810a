import Derived.Test.YtlooadichhpgeaaGreatDoorMes
import Derived.Test.YtlooadichhpgeaaGreatDoorMeq7
namespace Go.Proofs.YtlooadichhpgeaaGreatDoor
open Go.RowKit
set_option maxRecDepth 100000 in
set_option maxHeartbeats 64000000 in
theorem takes_s {K K2 : Nat → Prop} {w : World} (k : Int) (s : ByteArray) (n : Int) (ps : List Ty) (fs : List (ByteArray × Int × Ty)) (vs : List (ByteArray × List Ty)) (k3 : Int) (s3 : ByteArray) (n3 : Int) (ps3 : List Ty) (fs3 : List (ByteArray × Int × Ty)) (vs3 : List (ByteArray × List Ty)) {cs ds : List Value} (hr : RepT K w (.mk k s n ps fs vs) cs) (hp : RepT K2 w (.mk k3 s3 n3 ps3 fs3 vs3) ds) (hsm : ¬ cntT (.mk k s n ps fs vs) + cntT (.mk k3 s3 n3 ps3 fs3 vs3) ≤ 100) : Calls Tryz.prog 4 #[.agg cs.toArray, .agg ds.toArray] w (fun e w' => e = .returned (.bool true) ∧ Below w.heap.size w w') := by
 refine two_pre hr hp fun A c A' c' A'' c'' A3 c3 B3 d3 C3 e3 w1 h hcs hds => ?_
 subst hcs
 subst hds
 clear hr hp
 obtain ⟨HBX, HB1, HW1, HR, HP⟩ := h
 have KAw := Lib.hid fun wx => awake14 wx
 obtain ⟨X, hX, kx⟩ := nod14 HR.out HB1.out
 obtain ⟨Y, hY, ky⟩ := nod14 HP.out HB1.out
 have KX := Lib.hid kx
 have KY := Lib.hid ky
 have w12 : wrap64 (X + Y) = X + Y := wrap_in (by omega) (by omega)
 have v12 : IntKind.i64.wrap (X + Y) = X + Y := (wrap14 _).trans w12
 have g1 : decide ((100 : Int) < X + Y) = true := decide_eq_true (by omega)
 have g2 : (100 : Int) < X + Y := by omega
 clear kx ky hX hY hsm
 go_enter Tryz.func4, Tryz.ntmps4
 go_upto_region 1 with fail
 rw [← HW1.out]
 refine wp_region_held_drew (S := (fun w' => (w'.cell? ⟨w.heap.size, 0, none⟩ = some (.int .i64 k) ∧ w'.cell? ⟨w.heap.size, 1, none⟩ = some (.string s) ∧ w'.cell? ⟨w.heap.size, 2, none⟩ = some (.int .i64 n) ∧ w'.cell? ⟨w.heap.size, 3, none⟩ = some (.slice A ps.length c) ∧ w'.cell? ⟨w.heap.size, 4, none⟩ = some (.slice A' fs.length c') ∧ w'.cell? ⟨w.heap.size, 5, none⟩ = some (.slice A'' vs.length c'')) ∧ (w'.cell? ⟨w.heap.size + 1, 0, none⟩ = some (.int .i64 k3) ∧ w'.cell? ⟨w.heap.size + 1, 1, none⟩ = some (.string s3) ∧ w'.cell? ⟨w.heap.size + 1, 2, none⟩ = some (.int .i64 n3) ∧ w'.cell? ⟨w.heap.size + 1, 3, none⟩ = some (.slice A3 ps3.length c3) ∧ w'.cell? ⟨w.heap.size + 1, 4, none⟩ = some (.slice B3 fs3.length d3) ∧ w'.cell? ⟨w.heap.size + 1, 5, none⟩ = some (.slice C3 vs3.length e3)))) (by kernel_rfl) (HBX.out _ (Below.refl _ _).drew) (fun hHeld => ?_)
 refine wpAnyH_ready (rs := [0]) (by kernel_rfl) (by simp) ?_
 refine AllReadyH.cons (sd (some 10) rfl) (fun Kx hK => ?_) AllReadyH.nil
 go_simp
 refine (KAw.out _).mono ?_
 rintro e w2 ⟨rfl, hb⟩
 have HB2 := Lib.hid (((Below.refl w1.heap.size w1).drew).trans (hb.mono ((Below.refl w1.heap.size w1).drew).size))
 clear hb
 go_wp2_with fail
 refine hK.out _ _ (HBX.out _ HB2.out) (fun hHeld => ?_)
 clear hK Kx
 try simp only [Act.put, List.setIfInBounds_toArray, List.set_cons_zero, List.set_cons_succ]
 refine Plan.start [1, 2, 3, 5] ?_
 iterate 4 ((refine Plan.take (v := ?_) (so rfl) (by kernel_rfl) (by kernel_rfl) (by kernel_rfl) (fun _ _ _ h => h) (Or.inl ⟨by rfl, ?_⟩) hHeld ?_; rotate_left; focus (intro w' hSw; (try dsimp only at hSw); go_simp; try with_reducible rfl)); try simp only [Act.put, List.setIfInBounds_toArray, List.set_cons_zero, List.set_cons_succ])
 refine Plan.done ?_
 refine wpAnyH_ready (rs := [4]) (by kernel_rfl) (by simp) ?_
 refine AllReadyH.cons (sd (some 14) rfl) (fun Kx hK => ?_) AllReadyH.nil
 go_simp
 refine (KX.out _ HB2.out).mono ?_
 rintro e w3 ⟨rfl, hb⟩
 have HB3 := Lib.hid ((HB2.out).trans (hb.mono (HB2.out).size))
 clear hb
 go_wp2_with fail
 refine hK.out _ _ (HBX.out _ HB3.out) (fun hHeld => ?_)
 clear hK Kx
 try simp only [Act.put, List.setIfInBounds_toArray, List.set_cons_zero, List.set_cons_succ]
 refine wpAnyH_ready (rs := [6]) (by kernel_rfl) (by simp) ?_
 refine AllReadyH.cons (sd (some 16) rfl) (fun Kx hK => ?_) AllReadyH.nil
 go_simp
 refine (KY.out _ HB3.out).mono ?_
 rintro e w4 ⟨rfl, hb⟩
 have HB4 := Lib.hid ((HB3.out).trans (hb.mono (HB3.out).size))
 clear hb
 go_wp2_with fail
 refine hK.out _ _ (HBX.out _ HB4.out) (fun hHeld => ?_)
 clear hK Kx
 try simp only [Act.put, List.setIfInBounds_toArray, List.set_cons_zero, List.set_cons_succ]
 refine Plan.start [7, 8, 9, 10] ?_
 iterate 4 ((refine Plan.take (v := ?_) (so rfl) (by kernel_rfl) (by kernel_rfl) (by kernel_rfl) (fun _ _ _ h => h) (Or.inl ⟨by rfl, ?_⟩) hHeld ?_; rotate_left; focus (intro w' hSw; (try dsimp only at hSw); go_simp; try with_reducible rfl)); try simp only [Act.put, List.setIfInBounds_toArray, List.set_cons_zero, List.set_cons_succ])
 refine Plan.done ?_
 refine Plan.start [11, 12, 13] ?_
 iterate 3 (refine Plan.take (v := undef) (so rfl) (by kernel_rfl) (by kernel_rfl) (by kernel_rfl) (fun _ _ _ h => h) (Or.inr ⟨by rfl, rfl⟩) hHeld ?_; try simp only [Act.put, List.setIfInBounds_toArray, List.set_cons_zero, List.set_cons_succ])
 refine Plan.done ?_
 refine Plan.start [14, 15] ?_
 iterate 2 ((refine Plan.take (v := ?_) (so rfl) (by kernel_rfl) (by kernel_rfl) (by kernel_rfl) (fun _ _ _ h => h) (Or.inl ⟨by rfl, ?_⟩) hHeld ?_; rotate_left; focus (intro w' hSw; (try dsimp only at hSw); go_simp; try with_reducible rfl)); try simp only [Act.put, List.setIfInBounds_toArray, List.set_cons_zero, List.set_cons_succ])
 refine Plan.done ?_
 refine Plan.start [16, 17, 18] ?_
 iterate 3 (refine Plan.take (v := undef) (so rfl) (by kernel_rfl) (by kernel_rfl) (by kernel_rfl) (fun _ _ _ h => h) (Or.inr ⟨by rfl, rfl⟩) hHeld ?_; try simp only [Act.put, List.setIfInBounds_toArray, List.set_cons_zero, List.set_cons_succ])
 refine Plan.done ?_
 refine wpAnyH_take (i := 19) (v := ?_) (sd (some 29) rfl) (by kernel_rfl) (by kernel_rfl) (by kernel_rfl) (fun _ _ _ h => h) (Or.inl ⟨by rfl, ?_⟩) hHeld ?_
 rotate_left
 ·intro w' hSw
  (try dsimp only at hSw)
  go_simp
  try with_reducible rfl
 try simp only [Act.put, List.setIfInBounds_toArray, List.set_cons_zero, List.set_cons_succ]
 refine wpAnyH_done (by kernel_rfl) ?_ _
 clear hHeld
 go_wp2_with fail
 refine (KAw.out _).mono ?_
 rintro e w20 ⟨rfl, hb⟩
 have HB20 := Lib.hid (HB4.out.trans (hb.mono HB4.out.size))
 clear hb
 go_wp2_with fail
 go_ret
 exact ⟨rfl, HB1.out.trans (HB20.out.mono HB1.out.size)⟩
set_option maxRecDepth 100000 in
set_option maxHeartbeats 64000000 in
theorem takes_fa {K K2 : Nat → Prop} {w : World} (k : Int) (s : ByteArray) (n : Int) (ps : List Ty) (fs : List (ByteArray × Int × Ty)) (vs : List (ByteArray × List Ty)) (k3 : Int) (s3 : ByteArray) (n3 : Int) (ps3 : List Ty) (fs3 : List (ByteArray × Int × Ty)) (vs3 : List (ByteArray × List Ty)) {cs ds : List Value} (hr : RepT K w (.mk k s n ps fs vs) cs) (hp : RepT K2 w (.mk k3 s3 n3 ps3 fs3 vs3) ds) (hsm : cntT (.mk k s n ps fs vs) + cntT (.mk k3 s3 n3 ps3 fs3 vs3) ≤ 100) (hfa : formedT (.mk k s n ps fs vs) = false) : Calls Tryz.prog 4 #[.agg cs.toArray, .agg ds.toArray] w (fun e w' => e = .returned (.bool true) ∧ Below w.heap.size w w') := by
 refine two_pre hr hp fun A c A' c' A'' c'' A3 c3 B3 d3 C3 e3 w1 h hcs hds => ?_
 subst hcs
 subst hds
 clear hr hp
 obtain ⟨HBX, HB1, HW1, HR, HP⟩ := h
 have KAw := Lib.hid fun wx => awake14 wx
 obtain ⟨X, hX, kx⟩ := nod14 HR.out HB1.out
 obtain ⟨Y, hY, ky⟩ := nod14 HP.out HB1.out
 have KX := Lib.hid kx
 have KY := Lib.hid ky
 have w12 : wrap64 (X + Y) = X + Y := wrap_in (by omega) (by omega)
 have v12 : IntKind.i64.wrap (X + Y) = X + Y := (wrap14 _).trans w12
 have g1 : decide ((100 : Int) < X + Y) = false := decide_eq_false (by omega)
 have g2 : ¬ (100 : Int) < X + Y := by omega
 have kfa := fun (wx : World) (hx : Below w1.heap.size w1 wx) => formed_ref (HR.out.later (HB1.out.trans (hx.mono HB1.out.size)))
 rw [hfa] at kfa
 have KFa := Lib.hid kfa
 clear kfa hfa
 clear kx ky hX hY hsm
 go_enter Tryz.func4, Tryz.ntmps4
 go_upto_region 1 with fail
 rw [← HW1.out]
 refine wp_region_held_drew (S := (fun w' => (w'.cell? ⟨w.heap.size, 0, none⟩ = some (.int .i64 k) ∧ w'.cell? ⟨w.heap.size, 1, none⟩ = some (.string s) ∧ w'.cell? ⟨w.heap.size, 2, none⟩ = some (.int .i64 n) ∧ w'.cell? ⟨w.heap.size, 3, none⟩ = some (.slice A ps.length c) ∧ w'.cell? ⟨w.heap.size, 4, none⟩ = some (.slice A' fs.length c') ∧ w'.cell? ⟨w.heap.size, 5, none⟩ = some (.slice A'' vs.length c'')) ∧ (w'.cell? ⟨w.heap.size + 1, 0, none⟩ = some (.int .i64 k3) ∧ w'.cell? ⟨w.heap.size + 1, 1, none⟩ = some (.string s3) ∧ w'.cell? ⟨w.heap.size + 1, 2, none⟩ = some (.int .i64 n3) ∧ w'.cell? ⟨w.heap.size + 1, 3, none⟩ = some (.slice A3 ps3.length c3) ∧ w'.cell? ⟨w.heap.size + 1, 4, none⟩ = some (.slice B3 fs3.length d3) ∧ w'.cell? ⟨w.heap.size + 1, 5, none⟩ = some (.slice C3 vs3.length e3)))) (by kernel_rfl) (HBX.out _ (Below.refl _ _).drew) (fun hHeld => ?_)
 refine wpAnyH_ready (rs := [0]) (by kernel_rfl) (by simp) ?_
 refine AllReadyH.cons (sd (some 10) rfl) (fun Kx hK => ?_) AllReadyH.nil
 go_simp
 refine (KAw.out _).mono ?_
 rintro e w2 ⟨rfl, hb⟩
 have HB2 := Lib.hid (((Below.refl w1.heap.size w1).drew).trans (hb.mono ((Below.refl w1.heap.size w1).drew).size))
 clear hb
 go_wp2_with fail
 refine hK.out _ _ (HBX.out _ HB2.out) (fun hHeld => ?_)
 clear hK Kx
 try simp only [Act.put, List.setIfInBounds_toArray, List.set_cons_zero, List.set_cons_succ]
 refine Plan.start [1, 2, 3, 5] ?_
 iterate 4 ((refine Plan.take (v := ?_) (so rfl) (by kernel_rfl) (by kernel_rfl) (by kernel_rfl) (fun _ _ _ h => h) (Or.inl ⟨by rfl, ?_⟩) hHeld ?_; rotate_left; focus (intro w' hSw; (try dsimp only at hSw); go_simp; try with_reducible rfl)); try simp only [Act.put, List.setIfInBounds_toArray, List.set_cons_zero, List.set_cons_succ])
 refine Plan.done ?_
 refine wpAnyH_ready (rs := [4]) (by kernel_rfl) (by simp) ?_
 refine AllReadyH.cons (sd (some 14) rfl) (fun Kx hK => ?_) AllReadyH.nil
 go_simp
 refine (KX.out _ HB2.out).mono ?_
 rintro e w3 ⟨rfl, hb⟩
 have HB3 := Lib.hid ((HB2.out).trans (hb.mono (HB2.out).size))
 clear hb
 go_wp2_with fail
 refine hK.out _ _ (HBX.out _ HB3.out) (fun hHeld => ?_)
 clear hK Kx
 try simp only [Act.put, List.setIfInBounds_toArray, List.set_cons_zero, List.set_cons_succ]
 refine wpAnyH_ready (rs := [6]) (by kernel_rfl) (by simp) ?_
 refine AllReadyH.cons (sd (some 16) rfl) (fun Kx hK => ?_) AllReadyH.nil
 go_simp
 refine (KY.out _ HB3.out).mono ?_
 rintro e w4 ⟨rfl, hb⟩
 have HB4 := Lib.hid ((HB3.out).trans (hb.mono (HB3.out).size))
 clear hb
 go_wp2_with fail
 refine hK.out _ _ (HBX.out _ HB4.out) (fun hHeld => ?_)
 clear hK Kx
 try simp only [Act.put, List.setIfInBounds_toArray, List.set_cons_zero, List.set_cons_succ]
 refine Plan.start [7, 8, 9, 10, 11] ?_
 iterate 5 ((refine Plan.take (v := ?_) (so rfl) (by kernel_rfl) (by kernel_rfl) (by kernel_rfl) (fun _ _ _ h => h) (Or.inl ⟨by rfl, ?_⟩) hHeld ?_; rotate_left; focus (intro w' hSw; (try dsimp only at hSw); go_simp; try with_reducible rfl)); try simp only [Act.put, List.setIfInBounds_toArray, List.set_cons_zero, List.set_cons_succ])
 refine Plan.done ?_
 refine wpAnyH_ready (rs := [12]) (by kernel_rfl) (by simp) ?_
 refine AllReadyH.cons (sd (some 22) rfl) (fun Kx hK => ?_) AllReadyH.nil
 go_simp
 refine (KFa.out _ HB4.out).mono ?_
 rintro e w5 ⟨rfl, hb⟩
 have HB5 := Lib.hid ((HB4.out).trans (hb.mono (HB4.out).size))
 clear hb
 go_wp2_with fail
 refine hK.out _ _ (HBX.out _ HB5.out) (fun hHeld => ?_)
 clear hK Kx
 try simp only [Act.put, List.setIfInBounds_toArray, List.set_cons_zero, List.set_cons_succ]
 refine Plan.start [13, 14, 15] ?_
 iterate 3 ((refine Plan.take (v := ?_) (so rfl) (by kernel_rfl) (by kernel_rfl) (by kernel_rfl) (fun _ _ _ h => h) (Or.inl ⟨by rfl, ?_⟩) hHeld ?_; rotate_left; focus (intro w' hSw; (try dsimp only at hSw); go_simp; try with_reducible rfl)); try simp only [Act.put, List.setIfInBounds_toArray, List.set_cons_zero, List.set_cons_succ])
 refine Plan.done ?_
 refine Plan.start [16, 17, 18] ?_
 iterate 3 (refine Plan.take (v := undef) (so rfl) (by kernel_rfl) (by kernel_rfl) (by kernel_rfl) (fun _ _ _ h => h) (Or.inr ⟨by rfl, rfl⟩) hHeld ?_; try simp only [Act.put, List.setIfInBounds_toArray, List.set_cons_zero, List.set_cons_succ])
 refine Plan.done ?_
 refine wpAnyH_take (i := 19) (v := ?_) (sd (some 29) rfl) (by kernel_rfl) (by kernel_rfl) (by kernel_rfl) (fun _ _ _ h => h) (Or.inl ⟨by rfl, ?_⟩) hHeld ?_
 rotate_left
 ·intro w' hSw
  (try dsimp only at hSw)
  go_simp
  try with_reducible rfl
 try simp only [Act.put, List.setIfInBounds_toArray, List.set_cons_zero, List.set_cons_succ]
 refine wpAnyH_done (by kernel_rfl) ?_ _
 clear hHeld
 go_wp2_with fail
 refine (KAw.out _).mono ?_
 rintro e w20 ⟨rfl, hb⟩
 have HB20 := Lib.hid (HB5.out.trans (hb.mono HB5.out.size))
 clear hb
 go_wp2_with fail
 go_ret
 exact ⟨rfl, HB1.out.trans (HB20.out.mono HB1.out.size)⟩
set_option maxRecDepth 100000 in
set_option maxHeartbeats 64000000 in
theorem takes_fb {K K2 : Nat → Prop} {w : World} (k : Int) (s : ByteArray) (n : Int) (ps : List Ty) (fs : List (ByteArray × Int × Ty)) (vs : List (ByteArray × List Ty)) (k3 : Int) (s3 : ByteArray) (n3 : Int) (ps3 : List Ty) (fs3 : List (ByteArray × Int × Ty)) (vs3 : List (ByteArray × List Ty)) {cs ds : List Value} (hr : RepT K w (.mk k s n ps fs vs) cs) (hp : RepT K2 w (.mk k3 s3 n3 ps3 fs3 vs3) ds) (hsm : cntT (.mk k s n ps fs vs) + cntT (.mk k3 s3 n3 ps3 fs3 vs3) ≤ 100) (hfa : formedT (.mk k s n ps fs vs) = true) (hfb : formedT (.mk k3 s3 n3 ps3 fs3 vs3) = false) : Calls Tryz.prog 4 #[.agg cs.toArray, .agg ds.toArray] w (fun e w' => e = .returned (.bool true) ∧ Below w.heap.size w w') := by
 refine two_pre hr hp fun A c A' c' A'' c'' A3 c3 B3 d3 C3 e3 w1 h hcs hds => ?_
 subst hcs
 subst hds
 clear hr hp
 obtain ⟨HBX, HB1, HW1, HR, HP⟩ := h
 have KAw := Lib.hid fun wx => awake14 wx
 obtain ⟨X, hX, kx⟩ := nod14 HR.out HB1.out
 obtain ⟨Y, hY, ky⟩ := nod14 HP.out HB1.out
 have KX := Lib.hid kx
 have KY := Lib.hid ky
 have w12 : wrap64 (X + Y) = X + Y := wrap_in (by omega) (by omega)
 have v12 : IntKind.i64.wrap (X + Y) = X + Y := (wrap14 _).trans w12
 have g1 : decide ((100 : Int) < X + Y) = false := decide_eq_false (by omega)
 have g2 : ¬ (100 : Int) < X + Y := by omega
 have kfa := fun (wx : World) (hx : Below w1.heap.size w1 wx) => formed_ref (HR.out.later (HB1.out.trans (hx.mono HB1.out.size)))
 rw [hfa] at kfa
 have KFa := Lib.hid kfa
 clear kfa hfa
 have kfb := fun (wx : World) (hx : Below w1.heap.size w1 wx) => formed_ref (HP.out.later (HB1.out.trans (hx.mono HB1.out.size)))
 rw [hfb] at kfb
 have KFb := Lib.hid kfb
 clear kfb hfb
 clear kx ky hX hY hsm
 go_enter Tryz.func4, Tryz.ntmps4
 go_upto_region 1 with fail
 rw [← HW1.out]
 refine wp_region_held_drew (S := (fun w' => (w'.cell? ⟨w.heap.size, 0, none⟩ = some (.int .i64 k) ∧ w'.cell? ⟨w.heap.size, 1, none⟩ = some (.string s) ∧ w'.cell? ⟨w.heap.size, 2, none⟩ = some (.int .i64 n) ∧ w'.cell? ⟨w.heap.size, 3, none⟩ = some (.slice A ps.length c) ∧ w'.cell? ⟨w.heap.size, 4, none⟩ = some (.slice A' fs.length c') ∧ w'.cell? ⟨w.heap.size, 5, none⟩ = some (.slice A'' vs.length c'')) ∧ (w'.cell? ⟨w.heap.size + 1, 0, none⟩ = some (.int .i64 k3) ∧ w'.cell? ⟨w.heap.size + 1, 1, none⟩ = some (.string s3) ∧ w'.cell? ⟨w.heap.size + 1, 2, none⟩ = some (.int .i64 n3) ∧ w'.cell? ⟨w.heap.size + 1, 3, none⟩ = some (.slice A3 ps3.length c3) ∧ w'.cell? ⟨w.heap.size + 1, 4, none⟩ = some (.slice B3 fs3.length d3) ∧ w'.cell? ⟨w.heap.size + 1, 5, none⟩ = some (.slice C3 vs3.length e3)))) (by kernel_rfl) (HBX.out _ (Below.refl _ _).drew) (fun hHeld => ?_)
 refine wpAnyH_ready (rs := [0]) (by kernel_rfl) (by simp) ?_
 refine AllReadyH.cons (sd (some 10) rfl) (fun Kx hK => ?_) AllReadyH.nil
 go_simp
 refine (KAw.out _).mono ?_
 rintro e w2 ⟨rfl, hb⟩
 have HB2 := Lib.hid (((Below.refl w1.heap.size w1).drew).trans (hb.mono ((Below.refl w1.heap.size w1).drew).size))
 clear hb
 go_wp2_with fail
 refine hK.out _ _ (HBX.out _ HB2.out) (fun hHeld => ?_)
 clear hK Kx
 try simp only [Act.put, List.setIfInBounds_toArray, List.set_cons_zero, List.set_cons_succ]
 refine Plan.start [1, 2, 3, 5] ?_
 iterate 4 ((refine Plan.take (v := ?_) (so rfl) (by kernel_rfl) (by kernel_rfl) (by kernel_rfl) (fun _ _ _ h => h) (Or.inl ⟨by rfl, ?_⟩) hHeld ?_; rotate_left; focus (intro w' hSw; (try dsimp only at hSw); go_simp; try with_reducible rfl)); try simp only [Act.put, List.setIfInBounds_toArray, List.set_cons_zero, List.set_cons_succ])
 refine Plan.done ?_
 refine wpAnyH_ready (rs := [4]) (by kernel_rfl) (by simp) ?_
 refine AllReadyH.cons (sd (some 14) rfl) (fun Kx hK => ?_) AllReadyH.nil
 go_simp
 refine (KX.out _ HB2.out).mono ?_
 rintro e w3 ⟨rfl, hb⟩
 have HB3 := Lib.hid ((HB2.out).trans (hb.mono (HB2.out).size))
 clear hb
 go_wp2_with fail
 refine hK.out _ _ (HBX.out _ HB3.out) (fun hHeld => ?_)
 clear hK Kx
 try simp only [Act.put, List.setIfInBounds_toArray, List.set_cons_zero, List.set_cons_succ]
 refine wpAnyH_ready (rs := [6]) (by kernel_rfl) (by simp) ?_
 refine AllReadyH.cons (sd (some 16) rfl) (fun Kx hK => ?_) AllReadyH.nil
 go_simp
 refine (KY.out _ HB3.out).mono ?_
 rintro e w4 ⟨rfl, hb⟩
 have HB4 := Lib.hid ((HB3.out).trans (hb.mono (HB3.out).size))
 clear hb
 go_wp2_with fail
 refine hK.out _ _ (HBX.out _ HB4.out) (fun hHeld => ?_)
 clear hK Kx
 try simp only [Act.put, List.setIfInBounds_toArray, List.set_cons_zero, List.set_cons_succ]
 refine Plan.start [7, 8, 9, 10, 11] ?_
 iterate 5 ((refine Plan.take (v := ?_) (so rfl) (by kernel_rfl) (by kernel_rfl) (by kernel_rfl) (fun _ _ _ h => h) (Or.inl ⟨by rfl, ?_⟩) hHeld ?_; rotate_left; focus (intro w' hSw; (try dsimp only at hSw); go_simp; try with_reducible rfl)); try simp only [Act.put, List.setIfInBounds_toArray, List.set_cons_zero, List.set_cons_succ])
 refine Plan.done ?_
 refine wpAnyH_ready (rs := [12]) (by kernel_rfl) (by simp) ?_
 refine AllReadyH.cons (sd (some 22) rfl) (fun Kx hK => ?_) AllReadyH.nil
 go_simp
 refine (KFa.out _ HB4.out).mono ?_
 rintro e w5 ⟨rfl, hb⟩
 have HB5 := Lib.hid ((HB4.out).trans (hb.mono (HB4.out).size))
 clear hb
 go_wp2_with fail
 refine hK.out _ _ (HBX.out _ HB5.out) (fun hHeld => ?_)
 clear hK Kx
 try simp only [Act.put, List.setIfInBounds_toArray, List.set_cons_zero, List.set_cons_succ]
 refine Plan.start [13, 14, 15, 16] ?_
 iterate 4 ((refine Plan.take (v := ?_) (so rfl) (by kernel_rfl) (by kernel_rfl) (by kernel_rfl) (fun _ _ _ h => h) (Or.inl ⟨by rfl, ?_⟩) hHeld ?_; rotate_left; focus (intro w' hSw; (try dsimp only at hSw); go_simp; try with_reducible rfl)); try simp only [Act.put, List.setIfInBounds_toArray, List.set_cons_zero, List.set_cons_succ])
 refine Plan.done ?_
 refine wpAnyH_ready (rs := [17]) (by kernel_rfl) (by simp) ?_
 refine AllReadyH.cons (sd (some 27) rfl) (fun Kx hK => ?_) AllReadyH.nil
 go_simp
 refine (KFb.out _ HB5.out).mono ?_
 rintro e w6 ⟨rfl, hb⟩
 have HB6 := Lib.hid ((HB5.out).trans (hb.mono (HB5.out).size))
 clear hb
 go_wp2_with fail
 refine hK.out _ _ (HBX.out _ HB6.out) (fun hHeld => ?_)
 clear hK Kx
 try simp only [Act.put, List.setIfInBounds_toArray, List.set_cons_zero, List.set_cons_succ]
 refine Plan.start [18, 19] ?_
 iterate 2 ((refine Plan.take (v := ?_) (so rfl) (by kernel_rfl) (by kernel_rfl) (by kernel_rfl) (fun _ _ _ h => h) (Or.inl ⟨by rfl, ?_⟩) hHeld ?_; rotate_left; focus (intro w' hSw; (try dsimp only at hSw); go_simp; try with_reducible rfl)); try simp only [Act.put, List.setIfInBounds_toArray, List.set_cons_zero, List.set_cons_succ])
 refine Plan.done ?_
 refine wpAnyH_done (by kernel_rfl) ?_ _
 clear hHeld
 go_wp2_with fail
 refine (KAw.out _).mono ?_
 rintro e w20 ⟨rfl, hb⟩
 have HB20 := Lib.hid (HB6.out.trans (hb.mono HB6.out.size))
 clear hb
 go_wp2_with fail
 go_ret
 exact ⟨rfl, HB1.out.trans (HB20.out.mono HB1.out.size)⟩
set_option maxRecDepth 100000 in
set_option maxHeartbeats 64000000 in
theorem takes_m {K K2 : Nat → Prop} {w : World} (k : Int) (s : ByteArray) (n : Int) (ps : List Ty) (fs : List (ByteArray × Int × Ty)) (vs : List (ByteArray × List Ty)) (k3 : Int) (s3 : ByteArray) (n3 : Int) (ps3 : List Ty) (fs3 : List (ByteArray × Int × Ty)) (vs3 : List (ByteArray × List Ty)) {cs ds : List Value} (hr : RepT K w (.mk k s n ps fs vs) cs) (hp : RepT K2 w (.mk k3 s3 n3 ps3 fs3 vs3) ds) (hsm : cntT (.mk k s n ps fs vs) + cntT (.mk k3 s3 n3 ps3 fs3 vs3) ≤ 100) (hfa : formedT (.mk k s n ps fs vs) = true) (hfb : formedT (.mk k3 s3 n3 ps3 fs3 vs3) = true) : Calls Tryz.prog 4 #[.agg cs.toArray, .agg ds.toArray] w (fun e w' => e = .returned (.bool true) ∧ Below w.heap.size w w') := by
 refine two_pre hr hp fun A c A' c' A'' c'' A3 c3 B3 d3 C3 e3 w1 h hcs hds => ?_
 subst hcs
 subst hds
 clear hr hp
 obtain ⟨HBX, HB1, HW1, HR, HP⟩ := h
 have KAw := Lib.hid fun wx => awake14 wx
 obtain ⟨X, hX, kx⟩ := nod14 HR.out HB1.out
 obtain ⟨Y, hY, ky⟩ := nod14 HP.out HB1.out
 have KX := Lib.hid kx
 have KY := Lib.hid ky
 have w12 : wrap64 (X + Y) = X + Y := wrap_in (by omega) (by omega)
 have v12 : IntKind.i64.wrap (X + Y) = X + Y := (wrap14 _).trans w12
 have g1 : decide ((100 : Int) < X + Y) = false := decide_eq_false (by omega)
 have g2 : ¬ (100 : Int) < X + Y := by omega
 have fta : formT (.mk k s n ps fs vs) = true := formed_form hfa
 have ftb : formT (.mk k3 s3 n3 ps3 fs3 vs3) = true := formed_form hfb
 have HFT := Lib.hid fta
 have HFU := Lib.hid ftb
 have HCNT := Lib.hid hsm
 have hg1 : stdT (gatN vB [(vB, (.mk k s n ps fs vs))]) = (.mk k s n ps fs vs) := by rw [gatN_one, if_pos rfl]; exact std_one fta
 have HG1 := Lib.hid hg1
 clear fta ftb hg1
 have kfa := fun (wx : World) (hx : Below w1.heap.size w1 wx) => formed_ref (HR.out.later (HB1.out.trans (hx.mono HB1.out.size)))
 rw [hfa] at kfa
 have KFa := Lib.hid kfa
 clear kfa hfa
 have kfb := fun (wx : World) (hx : Below w1.heap.size w1 wx) => formed_ref (HP.out.later (HB1.out.trans (hx.mono HB1.out.size)))
 rw [hfb] at kfb
 have KFb := Lib.hid kfb
 clear kfb hfb
 clear kx ky hX hY hsm
 go_enter Tryz.func4, Tryz.ntmps4
 go_upto_region 1 with fail
 rw [← HW1.out]
 refine wp_region_held_drew (S := (fun w' => (w'.cell? ⟨w.heap.size, 0, none⟩ = some (.int .i64 k) ∧ w'.cell? ⟨w.heap.size, 1, none⟩ = some (.string s) ∧ w'.cell? ⟨w.heap.size, 2, none⟩ = some (.int .i64 n) ∧ w'.cell? ⟨w.heap.size, 3, none⟩ = some (.slice A ps.length c) ∧ w'.cell? ⟨w.heap.size, 4, none⟩ = some (.slice A' fs.length c') ∧ w'.cell? ⟨w.heap.size, 5, none⟩ = some (.slice A'' vs.length c'')) ∧ (w'.cell? ⟨w.heap.size + 1, 0, none⟩ = some (.int .i64 k3) ∧ w'.cell? ⟨w.heap.size + 1, 1, none⟩ = some (.string s3) ∧ w'.cell? ⟨w.heap.size + 1, 2, none⟩ = some (.int .i64 n3) ∧ w'.cell? ⟨w.heap.size + 1, 3, none⟩ = some (.slice A3 ps3.length c3) ∧ w'.cell? ⟨w.heap.size + 1, 4, none⟩ = some (.slice B3 fs3.length d3) ∧ w'.cell? ⟨w.heap.size + 1, 5, none⟩ = some (.slice C3 vs3.length e3)))) (by kernel_rfl) (HBX.out _ (Below.refl _ _).drew) (fun hHeld => ?_)
 refine wpAnyH_ready (rs := [0]) (by kernel_rfl) (by simp) ?_
 refine AllReadyH.cons (sd (some 10) rfl) (fun Kx hK => ?_) AllReadyH.nil
 go_simp
 refine (KAw.out _).mono ?_
 rintro e w2 ⟨rfl, hb⟩
 have HB2 := Lib.hid (((Below.refl w1.heap.size w1).drew).trans (hb.mono ((Below.refl w1.heap.size w1).drew).size))
 clear hb
 go_wp2_with fail
 refine hK.out _ _ (HBX.out _ HB2.out) (fun hHeld => ?_)
 clear hK Kx
 try simp only [Act.put, List.setIfInBounds_toArray, List.set_cons_zero, List.set_cons_succ]
 refine Plan.start [1, 2, 3, 5] ?_
 iterate 4 ((refine Plan.take (v := ?_) (so rfl) (by kernel_rfl) (by kernel_rfl) (by kernel_rfl) (fun _ _ _ h => h) (Or.inl ⟨by rfl, ?_⟩) hHeld ?_; rotate_left; focus (intro w' hSw; (try dsimp only at hSw); go_simp; try with_reducible rfl)); try simp only [Act.put, List.setIfInBounds_toArray, List.set_cons_zero, List.set_cons_succ])
 refine Plan.done ?_
 refine wpAnyH_ready (rs := [4]) (by kernel_rfl) (by simp) ?_
 refine AllReadyH.cons (sd (some 14) rfl) (fun Kx hK => ?_) AllReadyH.nil
 go_simp
 refine (KX.out _ HB2.out).mono ?_
 rintro e w3 ⟨rfl, hb⟩
 have HB3 := Lib.hid ((HB2.out).trans (hb.mono (HB2.out).size))
 clear hb
 go_wp2_with fail
 refine hK.out _ _ (HBX.out _ HB3.out) (fun hHeld => ?_)
 clear hK Kx
 try simp only [Act.put, List.setIfInBounds_toArray, List.set_cons_zero, List.set_cons_succ]
 refine wpAnyH_ready (rs := [6]) (by kernel_rfl) (by simp) ?_
 refine AllReadyH.cons (sd (some 16) rfl) (fun Kx hK => ?_) AllReadyH.nil
 go_simp
 refine (KY.out _ HB3.out).mono ?_
 rintro e w4 ⟨rfl, hb⟩
 have HB4 := Lib.hid ((HB3.out).trans (hb.mono (HB3.out).size))
 clear hb
 go_wp2_with fail
 refine hK.out _ _ (HBX.out _ HB4.out) (fun hHeld => ?_)
 clear hK Kx
 try simp only [Act.put, List.setIfInBounds_toArray, List.set_cons_zero, List.set_cons_succ]
 refine Plan.start [7, 8, 9, 10, 11] ?_
 iterate 5 ((refine Plan.take (v := ?_) (so rfl) (by kernel_rfl) (by kernel_rfl) (by kernel_rfl) (fun _ _ _ h => h) (Or.inl ⟨by rfl, ?_⟩) hHeld ?_; rotate_left; focus (intro w' hSw; (try dsimp only at hSw); go_simp; try with_reducible rfl)); try simp only [Act.put, List.setIfInBounds_toArray, List.set_cons_zero, List.set_cons_succ])
 refine Plan.done ?_
 refine wpAnyH_ready (rs := [12]) (by kernel_rfl) (by simp) ?_
 refine AllReadyH.cons (sd (some 22) rfl) (fun Kx hK => ?_) AllReadyH.nil
 go_simp
 refine (KFa.out _ HB4.out).mono ?_
 rintro e w5 ⟨rfl, hb⟩
 have HB5 := Lib.hid ((HB4.out).trans (hb.mono (HB4.out).size))
 clear hb
 go_wp2_with fail
 refine hK.out _ _ (HBX.out _ HB5.out) (fun hHeld => ?_)
 clear hK Kx
 try simp only [Act.put, List.setIfInBounds_toArray, List.set_cons_zero, List.set_cons_succ]
 refine Plan.start [13, 14, 15, 16] ?_
 iterate 4 ((refine Plan.take (v := ?_) (so rfl) (by kernel_rfl) (by kernel_rfl) (by kernel_rfl) (fun _ _ _ h => h) (Or.inl ⟨by rfl, ?_⟩) hHeld ?_; rotate_left; focus (intro w' hSw; (try dsimp only at hSw); go_simp; try with_reducible rfl)); try simp only [Act.put, List.setIfInBounds_toArray, List.set_cons_zero, List.set_cons_succ])
 refine Plan.done ?_
 refine wpAnyH_ready (rs := [17]) (by kernel_rfl) (by simp) ?_
 refine AllReadyH.cons (sd (some 27) rfl) (fun Kx hK => ?_) AllReadyH.nil
 go_simp
 refine (KFb.out _ HB5.out).mono ?_
 rintro e w6 ⟨rfl, hb⟩
 have HB6 := Lib.hid ((HB5.out).trans (hb.mono (HB5.out).size))
 clear hb
 go_wp2_with fail
 refine hK.out _ _ (HBX.out _ HB6.out) (fun hHeld => ?_)
 clear hK Kx
 try simp only [Act.put, List.setIfInBounds_toArray, List.set_cons_zero, List.set_cons_succ]
 refine Plan.start [18, 19] ?_
 iterate 2 ((refine Plan.take (v := ?_) (so rfl) (by kernel_rfl) (by kernel_rfl) (by kernel_rfl) (fun _ _ _ h => h) (Or.inl ⟨by rfl, ?_⟩) hHeld ?_; rotate_left; focus (intro w' hSw; (try dsimp only at hSw); go_simp; try with_reducible rfl)); try simp only [Act.put, List.setIfInBounds_toArray, List.set_cons_zero, List.set_cons_succ])
 refine Plan.done ?_
 refine wpAnyH_done (by kernel_rfl) ?_ _
 clear hHeld
 obtain ⟨wa0, hwa0⟩ : ∃ x, x = w6.alloc (.cells #[.int .i64 k, .string s, .int .i64 n, .slice A ps.length c, .slice A' fs.length c', .slice A'' vs.length c''] 26) := ⟨_, rfl⟩
 obtain ⟨wa1, hwa1⟩ : ∃ x, x = wa0.alloc (.cells #[.int .i64 k, .string s, .int .i64 n, .slice A ps.length c, .slice A' fs.length c', .slice A'' vs.length c'', .int .i64 k3, .string s3, .int .i64 n3, .slice A3 ps3.length c3, .slice B3 fs3.length d3, .slice C3 vs3.length e3] 26) := ⟨_, rfl⟩
 obtain ⟨wa2, hwa2⟩ : ∃ x, x = wa1.alloc (.cells #[.int .i64 k3, .string s3, .int .i64 n3, .slice A3 ps3.length c3, .slice B3 fs3.length d3, .slice C3 vs3.length e3, .int .i64 k, .string s, .int .i64 n, .slice A ps.length c, .slice A' fs.length c', .slice A'' vs.length c''] 26) := ⟨_, rfl⟩
 obtain ⟨wa3, hwa3⟩ : ∃ x, x = wa2.alloc (.cells #[.string ⟨#[97]⟩, .int .i64 0, .int .i64 k, .string s, .int .i64 n, .slice A ps.length c, .slice A' fs.length c', .slice A'' vs.length c'', .string ⟨#[98]⟩, .int .i64 0, .int .i64 k3, .string s3, .int .i64 n3, .slice A3 ps3.length c3, .slice B3 fs3.length d3, .slice C3 vs3.length e3] 46) := ⟨_, rfl⟩
 obtain ⟨wa4, hwa4⟩ : ∃ x, x = wa3.alloc (.cells #[.int .i64 11, .string ⟨#[]⟩, .int .i64 0, .slice (some ⟨w6.heap.size, 0, none⟩) 1 1, .slice none 0 0, .slice none 0 0, .int .i64 12, .string ⟨#[]⟩, .int .i64 0, .slice (some ⟨w6.heap.size + 1, 0, none⟩) 2 2, .slice none 0 0, .slice none 0 0, .int .i64 13, .string ⟨#[]⟩, .int .i64 0, .slice (some ⟨w6.heap.size + 1 + 1, 0, none⟩) 2 2, .slice none 0 0, .slice none 0 0, .int .i64 14, .string ⟨#[]⟩, .int .i64 0, .slice none 0 0, .slice (some ⟨w6.heap.size + 1 + 1 + 1, 0, none⟩) 2 2, .slice none 0 0] 26) := ⟨_, rfl⟩
 obtain ⟨⟨x0, x1, x2, x3, x4, x5⟩, ⟨y0, y1, y2, y3, y4, y5⟩⟩ := HBX.out _ HB6.out
 have hl1 : w.heap.size < w6.heap.size := World.block_lt_of_cell? _ _ x0
 have hl2 : w.heap.size + 1 < w6.heap.size := World.block_lt_of_cell? _ _ y0
 have hm1 : w.heap.size < w6.heap.size + 1 := by omega
 have hm2 : w.heap.size + 1 < w6.heap.size + 1 := by omega
 have hn1 : w.heap.size < w6.heap.size + 1 + 1 := by omega
 have hn2 : w.heap.size + 1 < w6.heap.size + 1 + 1 := by omega
 have HWA0 := Lib.hid hwa0
 have HWA1 := Lib.hid hwa1
 have HWA2 := Lib.hid hwa2
 have HWA3 := Lib.hid hwa3
 have HWA4 := Lib.hid hwa4
 clear hwa0 hwa1 hwa2 hwa3 hwa4
 go_upto_region 4 with fail
 rw [← HWA0.out, ← HWA1.out, ← HWA2.out, ← HWA3.out, ← HWA4.out]
 obtain ⟨hc5, p0, p1, p2, p3, p4⟩ := chain5 (.cells #[.int .i64 k, .string s, .int .i64 n, .slice A ps.length c, .slice A' fs.length c', .slice A'' vs.length c''] 26) (.cells #[.int .i64 k, .string s, .int .i64 n, .slice A ps.length c, .slice A' fs.length c', .slice A'' vs.length c'', .int .i64 k3, .string s3, .int .i64 n3, .slice A3 ps3.length c3, .slice B3 fs3.length d3, .slice C3 vs3.length e3] 26) (.cells #[.int .i64 k3, .string s3, .int .i64 n3, .slice A3 ps3.length c3, .slice B3 fs3.length d3, .slice C3 vs3.length e3, .int .i64 k, .string s, .int .i64 n, .slice A ps.length c, .slice A' fs.length c', .slice A'' vs.length c''] 26) (.cells #[.string ⟨#[97]⟩, .int .i64 0, .int .i64 k, .string s, .int .i64 n, .slice A ps.length c, .slice A' fs.length c', .slice A'' vs.length c'', .string ⟨#[98]⟩, .int .i64 0, .int .i64 k3, .string s3, .int .i64 n3, .slice A3 ps3.length c3, .slice B3 fs3.length d3, .slice C3 vs3.length e3] 46) (.cells #[.int .i64 11, .string ⟨#[]⟩, .int .i64 0, .slice (some ⟨w6.heap.size, 0, none⟩) 1 1, .slice none 0 0, .slice none 0 0, .int .i64 12, .string ⟨#[]⟩, .int .i64 0, .slice (some ⟨w6.heap.size + 1, 0, none⟩) 2 2, .slice none 0 0, .slice none 0 0, .int .i64 13, .string ⟨#[]⟩, .int .i64 0, .slice (some ⟨w6.heap.size + 1 + 1, 0, none⟩) 2 2, .slice none 0 0, .slice none 0 0, .int .i64 14, .string ⟨#[]⟩, .int .i64 0, .slice none 0 0, .slice (some ⟨w6.heap.size + 1 + 1 + 1, 0, none⟩) 2 2, .slice none 0 0] 26) (show wa4 = (((((w6.alloc _).alloc _).alloc _).alloc _).alloc _) from by rw [HWA4.out, HWA3.out, HWA2.out, HWA1.out, HWA0.out])
 have HBa := Lib.hid ((HB6.out).trans (hc5.mono (HB6.out).size))
 have rx := RepT.low _ _ (HR.out.later (HB1.out.trans (HBa.out.mono HB1.out.size)))
 have ry := RepT.low _ _ (HP.out.later (HB1.out.trans (HBa.out.mono HB1.out.size)))
 have lms := list_lit4 (rep_arr rx (fun _ h => h) p0) (rep_row2 12 rx ry (fun _ h => h) p1) (rep_row2 13 ry rx (fun _ h => h) p2) (rep_obj2 (nm := aN) (nm2 := bN) rx ry (by decide) (by decide) (fun _ h => h) p3) p4
 have HLM := Lib.hid lms
 clear hc5 p0 p1 p2 p3 p4 rx ry lms HWA0 HWA1 HWA2 HWA3 HWA4 hl1 hl2 hm1 hm2 hn1 hn2
 clear x0 x1 x2 x3 x4 x5 y0 y1 y2 y3 y4 y5
 go_wp2_with fail
 refine (infer14 _ _).mono ?_
 rintro e wv1 ⟨rfl, b1⟩
 have HV1 := Lib.hid b1
 clear b1
 go_wp2_with fail
 refine (infer14 _ _).mono ?_
 rintro e wv2 ⟨rfl, b2⟩
 have HV2 := Lib.hid (al_b b2)
 clear b2
 go_wp2_with fail
 refine (of14 3 _).mono ?_
 rintro e wv3 ⟨rfl, b3⟩
 have HV3 := Lib.hid b3
 clear b3
 go_wp2_with fail
 refine (of14 3 _).mono ?_
 rintro e wv4 ⟨rfl, b4⟩
 have HV4 := Lib.hid (al_b b4)
 clear b4
 go_wp2_with fail
 refine (infer14 _ _).mono ?_
 rintro e wv5 ⟨rfl, b5⟩
 have HV5 := Lib.hid b5
 clear b5
 go_wp2_with fail
 refine (infer14 _ _).mono ?_
 rintro e wv6 ⟨rfl, b6⟩
 have HV6 := Lib.hid (al_b b6)
 clear b6
 obtain ⟨wz0, hwz0⟩ : ∃ x, x = wv6.alloc (.cells #[.string ⟨#[97]⟩, .int .i64 0, .int .i64 22, .string ⟨#[86]⟩, .int .i64 0, .slice none 0 0, .slice none 0 0, .slice none 0 0] 46) := ⟨_, rfl⟩
 obtain ⟨wz, hwz⟩ : ∃ x, x = wz0.alloc (.cells #[.int .i64 11, .string ⟨#[]⟩, .int .i64 0, .slice (some ⟨wv1.heap.size, 0, none⟩) 1 1, .slice none 0 0, .slice none 0 0, .int .i64 12, .string ⟨#[]⟩, .int .i64 0, .slice (some ⟨wv3.heap.size, 0, none⟩) 2 2, .slice none 0 0, .slice none 0 0, .int .i64 13, .string ⟨#[]⟩, .int .i64 0, .slice (some ⟨wv5.heap.size, 0, none⟩) 2 2, .slice none 0 0, .slice none 0 0, .int .i64 14, .string ⟨#[]⟩, .int .i64 0, .slice none 0 0, .slice (some ⟨wv6.heap.size, 0, none⟩) 1 1, .slice none 0 0] 26) := ⟨_, rfl⟩
 have HWZ0 := Lib.hid hwz0
 have HWZ := Lib.hid hwz
 clear hwz0 hwz
 go_upto_region 5 with fail
 rw [← HWZ0.out, ← HWZ.out]
 obtain ⟨gB, hgB⟩ : ∃ x, x = wv6.heap.size + 1 := ⟨_, rfl⟩
 rw [← hgB]
 obtain ⟨bz, q6, q7⟩ := chain2 (.cells #[.string ⟨#[97]⟩, .int .i64 0, .int .i64 22, .string ⟨#[86]⟩, .int .i64 0, .slice none 0 0, .slice none 0 0, .slice none 0 0] 46) (.cells #[.int .i64 11, .string ⟨#[]⟩, .int .i64 0, .slice (some ⟨wv1.heap.size, 0, none⟩) 1 1, .slice none 0 0, .slice none 0 0, .int .i64 12, .string ⟨#[]⟩, .int .i64 0, .slice (some ⟨wv3.heap.size, 0, none⟩) 2 2, .slice none 0 0, .slice none 0 0, .int .i64 13, .string ⟨#[]⟩, .int .i64 0, .slice (some ⟨wv5.heap.size, 0, none⟩) 2 2, .slice none 0 0, .slice none 0 0, .int .i64 14, .string ⟨#[]⟩, .int .i64 0, .slice none 0 0, .slice (some ⟨wv6.heap.size, 0, none⟩) 1 1, .slice none 0 0] 26) (show wz = ((wv6.alloc _).alloc _) from by rw [HWZ.out, HWZ0.out])
 rw [← hgB] at q7
 have b5z := HV6.out.1.trans (bz.mono HV6.out.1.size)
 have b4z := HV5.out.trans (b5z.mono HV5.out.size)
 have b3z := HV4.out.1.trans (b4z.mono HV4.out.1.size)
 have b2z := HV3.out.trans (b3z.mono HV3.out.size)
 have b1z := HV2.out.1.trans (b2z.mono HV2.out.1.size)
 have baz := HV1.out.trans (b1z.mono HV1.out.size)
 have q1 := box_up b2z (Array.getElem?_eq_some_iff.1 HV2.out.2).1 HV2.out.2
 have q3 := box_up b4z (Array.getElem?_eq_some_iff.1 HV4.out.2).1 HV4.out.2
 have q5 := box_up bz (Array.getElem?_eq_some_iff.1 HV6.out.2).1 HV6.out.2
 have ri := rep_inf (fun _ => False) wz vB (by decide)
 have rk := rep_k (fun _ => False) wz 3
 have lps := list_lit4 (rep_arr ri (fun _ h => h.elim) q1) (rep_row2 12 ri rk (fun _ h => h.elim) q3) (rep_row2 13 rk ri (fun _ h => h.elim) q5) (rep_obj1 (nm := aN) ri (by decide) (fun _ h => h.elim) q6) q7
 have HBz := Lib.hid (HBa.out.trans (baz.mono HBa.out.size))
 have KL : Hid (∀ i, i < 4 → ∃ tm pm cs ds, TakeP (.mk k s n ps fs vs) tm pm ∧ RepT (fun b => b < wz.heap.size) wz tm cs ∧ (∀ j u, cs[j]? = some u → wz.cell? ⟨w6.heap.size + 1 + 1 + 1 + 1, i * 6 + j, none⟩ = some u) ∧ RepT (fun b => b < wz.heap.size) wz pm ds ∧ (∀ j u, ds[j]? = some u → wz.cell? ⟨gB, i * 6 + j, none⟩ = some u)) := Lib.hid fun i hi => by
  obtain ⟨cs, hr, hc⟩ := HLM.out i hi
  obtain ⟨ds, hp, hd⟩ := lps i hi
  refine ⟨_, _, cs, ds, ?_, RepT.low _ _ (hr.later baz), fun j u h => cell_stays baz (hc j u h), hp, hd⟩
  have hi4 : i = 0 ∨ i = 1 ∨ i = 2 ∨ i = 3 := by omega
  have hct := HCNT.out
  rcases hi4 with rfl | rfl | rfl | rfl
  ·exact take_arr HFT.out (by omega)
  ·exact take_tup HFT.out HFU.out (by omega)
  ·exact take_fun HFT.out HFU.out (by omega)
  ·exact take_obj HFT.out HFU.out (by omega)
 clear hgB bz q6 q7 b5z b4z b3z b2z b1z baz q1 q3 q5 ri rk lps HV1 HV2 HV3 HV4 HV5 HV6 HLM HWZ0 HWZ HFU
 go_wp2_with fail
 go_loopw [7] (fun v wr => ∃ (i : Nat), i ≤ 4 ∧ v = .int .i64 i ∧ Below wz.heap.size wz wr) (fun v _ => 4 - (intOf v).toNat)
 case atStart => exact ⟨0, by omega, rfl, Below.refl _ _⟩
 case round =>
  obtain ⟨i, hi, rfl, hb⟩ := hrel
  by_cases hin : i < 4
  ·have t1 : decide ((i : Int) < 4) = true := by simp; omega
   have wr2 : wrap64 ((i : Int) + 1) = ((i + 1 : Nat) : Int) := wrap_one (by omega)
   have HM := Lib.hid (measI hin)
   have HIn : Hid (i + 1 ≤ 4) := Lib.hid hin
   have i1 : (0 : Int) ≤ (i : Int) := by omega
   have i2 : (i : Int) < 4 := by omega
   obtain ⟨tm, pm, cs, ds, htk, hrm, hcm, hrp, hcp⟩ := KL.out i hin
   obtain ⟨k5, s5, n5, p5, f5, v5⟩ := tm
   obtain ⟨k6, s6, n6, p6, f6, v6⟩ := pm
   obtain ⟨A5, c5, B5, d5, C5, e5, rfl, -⟩ := hrm.inv
   obtain ⟨A6, c6, B6, d6, C6, e6, rfl, -⟩ := hrp.inv
   simp only [cells6T] at hrm hcm hrp hcp
   have HSX : Hid (∀ wx, Below wz.heap.size wz wx → (wx.cell? ⟨w6.heap.size + 1 + 1 + 1 + 1, i * 6, none⟩ = some (.int .i64 k5) ∧ wx.cell? ⟨w6.heap.size + 1 + 1 + 1 + 1, i * 6 + 1, none⟩ = some (.string s5) ∧ wx.cell? ⟨w6.heap.size + 1 + 1 + 1 + 1, i * 6 + 2, none⟩ = some (.int .i64 n5) ∧ wx.cell? ⟨w6.heap.size + 1 + 1 + 1 + 1, i * 6 + 3, none⟩ = some (.slice A5 p5.length c5) ∧ wx.cell? ⟨w6.heap.size + 1 + 1 + 1 + 1, i * 6 + 4, none⟩ = some (.slice B5 f5.length d5) ∧ wx.cell? ⟨w6.heap.size + 1 + 1 + 1 + 1, i * 6 + 5, none⟩ = some (.slice C5 v5.length e5)) ∧ (wx.cell? ⟨gB, i * 6, none⟩ = some (.int .i64 k6) ∧ wx.cell? ⟨gB, i * 6 + 1, none⟩ = some (.string s6) ∧ wx.cell? ⟨gB, i * 6 + 2, none⟩ = some (.int .i64 n6) ∧ wx.cell? ⟨gB, i * 6 + 3, none⟩ = some (.slice A6 p6.length c6) ∧ wx.cell? ⟨gB, i * 6 + 4, none⟩ = some (.slice B6 f6.length d6) ∧ wx.cell? ⟨gB, i * 6 + 5, none⟩ = some (.slice C6 v6.length e6))) := Lib.hid fun wx hx => ⟨⟨cell_stays hx (hcm 0 _ rfl), cell_stays hx (hcm 1 _ rfl), cell_stays hx (hcm 2 _ rfl), cell_stays hx (hcm 3 _ rfl), cell_stays hx (hcm 4 _ rfl), cell_stays hx (hcm 5 _ rfl)⟩, cell_stays hx (hcp 0 _ rfl), cell_stays hx (hcp 1 _ rfl), cell_stays hx (hcp 2 _ rfl), cell_stays hx (hcp 3 _ rfl), cell_stays hx (hcp 4 _ rfl), cell_stays hx (hcp 5 _ rfl)⟩
   have HTK := Lib.hid htk
   have HRM := Lib.hid hrm
   have HRP := Lib.hid hrp
   have HBr := Lib.hid hb.drew
   clear htk hrm hcm hrp hcp hb KL
   go_upto_region 8 with fail
   refine wp_region_held_drew (S := (fun w' => (w'.cell? ⟨w6.heap.size + 1 + 1 + 1 + 1, i * 6, none⟩ = some (.int .i64 k5) ∧ w'.cell? ⟨w6.heap.size + 1 + 1 + 1 + 1, i * 6 + 1, none⟩ = some (.string s5) ∧ w'.cell? ⟨w6.heap.size + 1 + 1 + 1 + 1, i * 6 + 2, none⟩ = some (.int .i64 n5) ∧ w'.cell? ⟨w6.heap.size + 1 + 1 + 1 + 1, i * 6 + 3, none⟩ = some (.slice A5 p5.length c5) ∧ w'.cell? ⟨w6.heap.size + 1 + 1 + 1 + 1, i * 6 + 4, none⟩ = some (.slice B5 f5.length d5) ∧ w'.cell? ⟨w6.heap.size + 1 + 1 + 1 + 1, i * 6 + 5, none⟩ = some (.slice C5 v5.length e5)) ∧ (w'.cell? ⟨gB, i * 6, none⟩ = some (.int .i64 k6) ∧ w'.cell? ⟨gB, i * 6 + 1, none⟩ = some (.string s6) ∧ w'.cell? ⟨gB, i * 6 + 2, none⟩ = some (.int .i64 n6) ∧ w'.cell? ⟨gB, i * 6 + 3, none⟩ = some (.slice A6 p6.length c6) ∧ w'.cell? ⟨gB, i * 6 + 4, none⟩ = some (.slice B6 f6.length d6) ∧ w'.cell? ⟨gB, i * 6 + 5, none⟩ = some (.slice C6 v6.length e6)))) (by kernel_rfl) (HSX.out _ HBr.out) (fun hHeld => ?_)
   refine Plan.start [0, 1, 2, 3, 4, 5, 6, 7] ?_
   iterate 8 ((refine Plan.take (v := ?_) (so rfl) (by kernel_rfl) (by kernel_rfl) (by kernel_rfl) (fun _ _ _ h => h) (Or.inl ⟨by rfl, ?_⟩) hHeld ?_; rotate_left; focus (intro w' hSw; (try dsimp only at hSw); go_simp; try with_reducible rfl)); try simp only [Act.put, List.setIfInBounds_toArray, List.set_cons_zero, List.set_cons_succ])
   refine Plan.done ?_
   refine wpAnyH_ready (rs := [8]) (by kernel_rfl) (by simp) ?_
   refine AllReadyH.cons (sd (some 78) rfl) (fun Kx hK => ?_) AllReadyH.nil
   go_simp
   refine (cg_take HTK.out (HRM.out.later HBr.out) (HRP.out.later HBr.out) (fun b h => Nat.lt_of_lt_of_le h HBr.out.size) (fun b h => Nat.lt_of_lt_of_le h HBr.out.size)).mono ?_
   rintro e wJ he
   obtain ⟨g, cg, rs1, rfl, hb, hc, hr1⟩ := cg_out he
   rw [HG1.out] at hr1
   obtain ⟨A1, c1, B1, d1, C1, e1, rfl, -⟩ := hr1.inv
   simp only [cells6T] at hc hr1
   have HBj := Lib.hid (HBr.out.trans (hb.mono HBr.out.size))
   have HC1 := Lib.hid hc
   have HR1 := Lib.hid hr1
   clear he hb hc hr1
   go_wp2_with fail
   refine hK.out _ _ (HSX.out _ HBj.out) (fun hHeld => ?_)
   clear hK Kx
   try simp only [Act.put, List.setIfInBounds_toArray, List.set_cons_zero, List.set_cons_succ]
   refine Plan.start [9, 10, 11, 12, 13] ?_
   iterate 5 ((refine Plan.take (v := ?_) (so rfl) (by kernel_rfl) (by kernel_rfl) (by kernel_rfl) (fun _ _ _ h => h) (Or.inl ⟨by rfl, ?_⟩) hHeld ?_; rotate_left; focus (intro w' hSw; (try dsimp only at hSw); go_simp; try with_reducible rfl)); try simp only [Act.put, List.setIfInBounds_toArray, List.set_cons_zero, List.set_cons_succ])
   refine Plan.done ?_
   refine wpAnyH_done (by kernel_rfl) ?_ _
   clear hHeld
   have HS9 : Hid (∀ wx, Below wJ.heap.size wJ wx → (wx.cell? ⟨w.heap.size, 0, none⟩ = some (.int .i64 k) ∧ wx.cell? ⟨w.heap.size, 1, none⟩ = some (.string s) ∧ wx.cell? ⟨w.heap.size, 2, none⟩ = some (.int .i64 n) ∧ wx.cell? ⟨w.heap.size, 3, none⟩ = some (.slice A ps.length c) ∧ wx.cell? ⟨w.heap.size, 4, none⟩ = some (.slice A' fs.length c') ∧ wx.cell? ⟨w.heap.size, 5, none⟩ = some (.slice A'' vs.length c'')) ∧ (wx.cell? ⟨g, 1, none⟩ = some (.int .i64 k) ∧ wx.cell? ⟨g, 2, none⟩ = some (.string s) ∧ wx.cell? ⟨g, 3, none⟩ = some (.int .i64 n) ∧ wx.cell? ⟨g, 4, none⟩ = some (.slice A1 ps.length c1) ∧ wx.cell? ⟨g, 5, none⟩ = some (.slice B1 fs.length d1) ∧ wx.cell? ⟨g, 6, none⟩ = some (.slice C1 vs.length e1))) := Lib.hid fun wx hx => ⟨(HBX.out wx (HBz.out.trans ((HBj.out.trans (hx.mono HBj.out.size)).mono HBz.out.size))).1, cell_stays hx (HC1.out 1 _ rfl), cell_stays hx (HC1.out 2 _ rfl), cell_stays hx (HC1.out 3 _ rfl), cell_stays hx (HC1.out 4 _ rfl), cell_stays hx (HC1.out 5 _ rfl), cell_stays hx (HC1.out 6 _ rfl)⟩
   have HTT := Lib.hid fun (wx : World) (hx : Below wJ.heap.size wJ wx) => RepT.low _ _ (HR.out.later (HB1.out.trans ((HBz.out.trans ((HBj.out.trans (hx.mono HBj.out.size)).mono HBz.out.size)).mono HB1.out.size)))
   have HJ0 := Lib.hid (Below.refl wJ.heap.size wJ).drew
   clear HSX HTK HRM HRP HC1
   go_upto_region 9 with fail
   refine wp_region_held_drew (S := (fun w' => (w'.cell? ⟨w.heap.size, 0, none⟩ = some (.int .i64 k) ∧ w'.cell? ⟨w.heap.size, 1, none⟩ = some (.string s) ∧ w'.cell? ⟨w.heap.size, 2, none⟩ = some (.int .i64 n) ∧ w'.cell? ⟨w.heap.size, 3, none⟩ = some (.slice A ps.length c) ∧ w'.cell? ⟨w.heap.size, 4, none⟩ = some (.slice A' fs.length c') ∧ w'.cell? ⟨w.heap.size, 5, none⟩ = some (.slice A'' vs.length c'')) ∧ (w'.cell? ⟨g, 1, none⟩ = some (.int .i64 k) ∧ w'.cell? ⟨g, 2, none⟩ = some (.string s) ∧ w'.cell? ⟨g, 3, none⟩ = some (.int .i64 n) ∧ w'.cell? ⟨g, 4, none⟩ = some (.slice A1 ps.length c1) ∧ w'.cell? ⟨g, 5, none⟩ = some (.slice B1 fs.length d1) ∧ w'.cell? ⟨g, 6, none⟩ = some (.slice C1 vs.length e1)))) (by kernel_rfl) (HS9.out _ HJ0.out) (fun hHeld => ?_)
   refine Plan.start [0, 1, 2, 3, 4, 5, 6, 7, 8, 9, 10, 11, 12] ?_
   iterate 13 ((refine Plan.take (v := ?_) (so rfl) (by kernel_rfl) (by kernel_rfl) (by kernel_rfl) (fun _ _ _ h => h) (Or.inl ⟨by rfl, ?_⟩) hHeld ?_; rotate_left; focus (intro w' hSw; (try dsimp only at hSw); go_simp; try with_reducible rfl)); try simp only [Act.put, List.setIfInBounds_toArray, List.set_cons_zero, List.set_cons_succ])
   refine Plan.done ?_
   refine wpAnyH_ready (rs := [13]) (by kernel_rfl) (by simp) ?_
   refine AllReadyH.cons (sd (some 94) rfl) (fun Kx hK => ?_) AllReadyH.nil
   go_simp
   generalize hW : (wJ.alloc (.cells #[.int .i64 k, .string s, .int .i64 n, .slice A ps.length c, .slice A' fs.length c', .slice A'' vs.length c''] 26)).drew = wH
   have hb : Below wJ.heap.size wJ wH := by rw [← hW]; exact ((Below.refl _ _).alloc (Nat.le_refl _) _).drew
   have rs : wH.heap[wJ.heap.size]? = some (.cells #[.int .i64 k, .string s, .int .i64 n, .slice A ps.length c, .slice A' fs.length c', .slice A'' vs.length c''] 26 (0, 0)) := by rw [← hW]; exact heap_alloc_new wJ _
   have HBh := Lib.hid hb
   have HXH := Lib.hid rs
   clear hW hb rs
   refine hK.out _ _ (HS9.out _ HBh.out) (fun hHeld => ?_)
   clear hK Kx
   try simp only [Act.put, List.setIfInBounds_toArray, List.set_cons_zero, List.set_cons_succ]
   refine wpAnyH_ready (rs := [14]) (by kernel_rfl) (by simp) ?_
   refine AllReadyH.cons (sd (some 95) rfl) (fun Kx hK => ?_) AllReadyH.nil
   go_simp
   refine (uni1_ref (HTT.out _ HBh.out) (fun _ h => h) HXH.out HFT.out (by have := HCNT.out; omega)).mono ?_
   rintro e wI ⟨rs, rfl, hrT, hb⟩
   rw [union_self HFT.out] at hrT
   obtain ⟨A2, c2, B2, d2, C2, e2, rfl, -⟩ := hrT.inv
   simp only [cells6T] at hrT ⊢
   have HBi := Lib.hid (HBh.out.trans (hb.mono HBh.out.size))
   have HRU := Lib.hid hrT
   clear hrT hb
   go_wp2_with fail
   refine hK.out _ _ (HS9.out _ HBi.out) (fun hHeld => ?_)
   clear hK Kx
   try simp only [Act.put, List.setIfInBounds_toArray, List.set_cons_zero, List.set_cons_succ]
   refine wpAnyH_ready (rs := [15]) (by kernel_rfl) (by simp) ?_
   refine AllReadyH.cons (sd (some 96) rfl) (fun Kx hK => ?_) AllReadyH.nil
   go_simp
   refine (same14 (HR1.out.later HBi.out) HRU.out).mono ?_
   rintro e wS ⟨he, hb⟩
   rw [ordT_zero.2 rfl] at he
   subst he
   have HBs := Lib.hid (HBi.out.trans (hb.mono HBi.out.size))
   clear hb
   go_wp2_with fail
   refine hK.out _ _ (HS9.out _ HBs.out) (fun hHeld => ?_)
   clear hK Kx
   try simp only [Act.put, List.setIfInBounds_toArray, List.set_cons_zero, List.set_cons_succ]
   refine Plan.start [16, 17] ?_
   iterate 2 ((refine Plan.take (v := ?_) (so rfl) (by kernel_rfl) (by kernel_rfl) (by kernel_rfl) (fun _ _ _ h => h) (Or.inl ⟨by rfl, ?_⟩) hHeld ?_; rotate_left; focus (intro w' hSw; (try dsimp only at hSw); go_simp; try with_reducible rfl)); try simp only [Act.put, List.setIfInBounds_toArray, List.set_cons_zero, List.set_cons_succ])
   refine Plan.done ?_
   refine wpAnyH_done (by kernel_rfl) ?_ _
   clear hHeld
   go_wp2_with fail
   refine ⟨⟨i + 1, HIn.out, by first | rfl | rw [wr2], HBj.out.trans (HBs.out.mono HBj.out.size)⟩, ?_⟩
   first | exact HM.out | (rw [wr2]; exact HM.out)
  ·have t1 : decide ((i : Int) < 4) = false := by simp; omega
   have HBe := Lib.hid hb
   clear hb KL
   go_wp2_with fail
   go_ret
   exact ⟨rfl, HB1.out.trans ((HBz.out.trans (HBe.out.mono HBz.out.size)).mono HB1.out.size)⟩
theorem takes_walk {K K2 : Nat → Prop} {w : World} {t u : Ty} {cs ds : List Value} (hr : RepT K w t cs) (hp : RepT K2 w u ds) : Calls Tryz.prog 4 #[.agg cs.toArray, .agg ds.toArray] w (fun e w' => e = .returned (.bool true) ∧ Below w.heap.size w w') := by
 obtain ⟨k, s, n, ps, fs, vs⟩ := t
 obtain ⟨k3, s3, n3, ps3, fs3, vs3⟩ := u
 by_cases hsm : cntT (.mk k s n ps fs vs) + cntT (.mk k3 s3 n3 ps3 fs3 vs3) ≤ 100
 ·cases hfa : formedT (.mk k s n ps fs vs) with
  | false => exact takes_fa k s n ps fs vs k3 s3 n3 ps3 fs3 vs3 hr hp hsm hfa
  | true =>
   cases hfb : formedT (.mk k3 s3 n3 ps3 fs3 vs3) with
   | false => exact takes_fb k s n ps fs vs k3 s3 n3 ps3 fs3 vs3 hr hp hsm hfa hfb
   | true => exact takes_m k s n ps fs vs k3 s3 n3 ps3 fs3 vs3 hr hp hsm hfa hfb
 ·exact takes_s k s n ps fs vs k3 s3 n3 ps3 fs3 vs3 hr hp hsm
end Go.Proofs.YtlooadichhpgeaaGreatDoor
