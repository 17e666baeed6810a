import Derived.Test.YtlooadichhpgeaaGreatDoorMes
namespace Go.Proofs.YtlooadichhpgeaaGreatDoor
open Go.RowKit
set_option maxRecDepth 100000 in
set_option maxHeartbeats 64000000 in
theorem merges_s {K K2 : Nat → Prop} {w : World} (k : Int) (s : ByteArray) (n : Int) (ps : List Ty) (fs : List (ByteArray × Int × Ty)) (vs : List (ByteArray × List Ty)) (k3 : Int) (s3 : ByteArray) (n3 : Int) (ps3 : List Ty) (fs3 : List (ByteArray × Int × Ty)) (vs3 : List (ByteArray × List Ty)) {cs ds : List Value} (hr : RepT K w (.mk k s n ps fs vs) cs) (hp : RepT K2 w (.mk k3 s3 n3 ps3 fs3 vs3) ds) (hsm : ¬ cntT (.mk k s n ps fs vs) + cntT (.mk k3 s3 n3 ps3 fs3 vs3) ≤ 300) : Calls Tryz.prog 5 #[.agg cs.toArray, .agg ds.toArray] w (fun e w' => e = .returned (.bool true) ∧ Below w.heap.size w w') := by
 refine two_pre hr hp fun A c A' c' A'' c'' A3 c3 B3 d3 C3 e3 w1 h hcs hds => ?_
 subst hcs
 subst hds
 clear hr hp
 obtain ⟨HBX, HB1, HW1, HR, HP⟩ := h
 have KAw := Lib.hid fun wx => awake14 wx
 obtain ⟨X, hX, kx⟩ := nod14 HR.out HB1.out
 obtain ⟨Y, hY, ky⟩ := nod14 HP.out HB1.out
 have KX := Lib.hid kx
 have KY := Lib.hid ky
 have w12 : wrap64 (X + Y) = X + Y := wrap_in (by omega) (by omega)
 have v12 : IntKind.i64.wrap (X + Y) = X + Y := (wrap14 _).trans w12
 have g1 : decide ((300 : Int) < X + Y) = true := decide_eq_true (by omega)
 have g2 : (300 : Int) < X + Y := by omega
 clear kx ky hX hY hsm
 go_enter Tryz.func5, Tryz.ntmps5
 go_upto_region 1 with fail
 rw [← HW1.out]
 refine wp_region_held_drew (S := (fun w' => (w'.cell? ⟨w.heap.size, 0, none⟩ = some (.int .i64 k) ∧ w'.cell? ⟨w.heap.size, 1, none⟩ = some (.string s) ∧ w'.cell? ⟨w.heap.size, 2, none⟩ = some (.int .i64 n) ∧ w'.cell? ⟨w.heap.size, 3, none⟩ = some (.slice A ps.length c) ∧ w'.cell? ⟨w.heap.size, 4, none⟩ = some (.slice A' fs.length c') ∧ w'.cell? ⟨w.heap.size, 5, none⟩ = some (.slice A'' vs.length c'')) ∧ (w'.cell? ⟨w.heap.size + 1, 0, none⟩ = some (.int .i64 k3) ∧ w'.cell? ⟨w.heap.size + 1, 1, none⟩ = some (.string s3) ∧ w'.cell? ⟨w.heap.size + 1, 2, none⟩ = some (.int .i64 n3) ∧ w'.cell? ⟨w.heap.size + 1, 3, none⟩ = some (.slice A3 ps3.length c3) ∧ w'.cell? ⟨w.heap.size + 1, 4, none⟩ = some (.slice B3 fs3.length d3) ∧ w'.cell? ⟨w.heap.size + 1, 5, none⟩ = some (.slice C3 vs3.length e3)))) (by kernel_rfl) (HBX.out _ (Below.refl _ _).drew) (fun hHeld => ?_)
 refine wpAnyH_ready (rs := [0]) (by kernel_rfl) (by simp) ?_
 refine AllReadyH.cons (sd (some 13) rfl) (fun Kx hK => ?_) AllReadyH.nil
 go_simp
 refine (KAw.out _).mono ?_
 rintro e w2 ⟨rfl, hb⟩
 have HB2 := Lib.hid (((Below.refl w1.heap.size w1).drew).trans (hb.mono ((Below.refl w1.heap.size w1).drew).size))
 clear hb
 go_wp2_with fail
 refine hK.out _ _ (HBX.out _ HB2.out) (fun hHeld => ?_)
 clear hK Kx
 try simp only [Act.put, List.setIfInBounds_toArray, List.set_cons_zero, List.set_cons_succ]
 refine Plan.start [1, 2, 3, 5] ?_
 iterate 4 ((refine Plan.take (v := ?_) (so rfl) (by kernel_rfl) (by kernel_rfl) (by kernel_rfl) (fun _ _ _ h => h) (Or.inl ⟨by rfl, ?_⟩) hHeld ?_; rotate_left; focus (intro w' hSw; (try dsimp only at hSw); go_simp; try with_reducible rfl)); try simp only [Act.put, List.setIfInBounds_toArray, List.set_cons_zero, List.set_cons_succ])
 refine Plan.done ?_
 refine wpAnyH_ready (rs := [4]) (by kernel_rfl) (by simp) ?_
 refine AllReadyH.cons (sd (some 17) rfl) (fun Kx hK => ?_) AllReadyH.nil
 go_simp
 refine (KX.out _ HB2.out).mono ?_
 rintro e w3 ⟨rfl, hb⟩
 have HB3 := Lib.hid ((HB2.out).trans (hb.mono (HB2.out).size))
 clear hb
 go_wp2_with fail
 refine hK.out _ _ (HBX.out _ HB3.out) (fun hHeld => ?_)
 clear hK Kx
 try simp only [Act.put, List.setIfInBounds_toArray, List.set_cons_zero, List.set_cons_succ]
 refine wpAnyH_ready (rs := [6]) (by kernel_rfl) (by simp) ?_
 refine AllReadyH.cons (sd (some 19) rfl) (fun Kx hK => ?_) AllReadyH.nil
 go_simp
 refine (KY.out _ HB3.out).mono ?_
 rintro e w4 ⟨rfl, hb⟩
 have HB4 := Lib.hid ((HB3.out).trans (hb.mono (HB3.out).size))
 clear hb
 go_wp2_with fail
 refine hK.out _ _ (HBX.out _ HB4.out) (fun hHeld => ?_)
 clear hK Kx
 try simp only [Act.put, List.setIfInBounds_toArray, List.set_cons_zero, List.set_cons_succ]
 refine Plan.start [7, 8, 9, 10] ?_
 iterate 4 ((refine Plan.take (v := ?_) (so rfl) (by kernel_rfl) (by kernel_rfl) (by kernel_rfl) (fun _ _ _ h => h) (Or.inl ⟨by rfl, ?_⟩) hHeld ?_; rotate_left; focus (intro w' hSw; (try dsimp only at hSw); go_simp; try with_reducible rfl)); try simp only [Act.put, List.setIfInBounds_toArray, List.set_cons_zero, List.set_cons_succ])
 refine Plan.done ?_
 refine Plan.start [11, 12, 13] ?_
 iterate 3 (refine Plan.take (v := undef) (so rfl) (by kernel_rfl) (by kernel_rfl) (by kernel_rfl) (fun _ _ _ h => h) (Or.inr ⟨by rfl, rfl⟩) hHeld ?_; try simp only [Act.put, List.setIfInBounds_toArray, List.set_cons_zero, List.set_cons_succ])
 refine Plan.done ?_
 refine Plan.start [14, 15] ?_
 iterate 2 ((refine Plan.take (v := ?_) (so rfl) (by kernel_rfl) (by kernel_rfl) (by kernel_rfl) (fun _ _ _ h => h) (Or.inl ⟨by rfl, ?_⟩) hHeld ?_; rotate_left; focus (intro w' hSw; (try dsimp only at hSw); go_simp; try with_reducible rfl)); try simp only [Act.put, List.setIfInBounds_toArray, List.set_cons_zero, List.set_cons_succ])
 refine Plan.done ?_
 refine Plan.start [16, 17, 18] ?_
 iterate 3 (refine Plan.take (v := undef) (so rfl) (by kernel_rfl) (by kernel_rfl) (by kernel_rfl) (fun _ _ _ h => h) (Or.inr ⟨by rfl, rfl⟩) hHeld ?_; try simp only [Act.put, List.setIfInBounds_toArray, List.set_cons_zero, List.set_cons_succ])
 refine Plan.done ?_
 refine wpAnyH_take (i := 19) (v := ?_) (sd (some 32) rfl) (by kernel_rfl) (by kernel_rfl) (by kernel_rfl) (fun _ _ _ h => h) (Or.inl ⟨by rfl, ?_⟩) hHeld ?_
 rotate_left
 ·intro w' hSw
  (try dsimp only at hSw)
  go_simp
  try with_reducible rfl
 try simp only [Act.put, List.setIfInBounds_toArray, List.set_cons_zero, List.set_cons_succ]
 refine wpAnyH_done (by kernel_rfl) ?_ _
 clear hHeld
 go_wp2_with fail
 refine (KAw.out _).mono ?_
 rintro e w20 ⟨rfl, hb⟩
 have HB20 := Lib.hid (HB4.out.trans (hb.mono HB4.out.size))
 clear hb
 go_wp2_with fail
 go_ret
 exact ⟨rfl, HB1.out.trans (HB20.out.mono HB1.out.size)⟩
set_option maxRecDepth 100000 in
set_option maxHeartbeats 64000000 in
theorem merges_fa {K K2 : Nat → Prop} {w : World} (k : Int) (s : ByteArray) (n : Int) (ps : List Ty) (fs : List (ByteArray × Int × Ty)) (vs : List (ByteArray × List Ty)) (k3 : Int) (s3 : ByteArray) (n3 : Int) (ps3 : List Ty) (fs3 : List (ByteArray × Int × Ty)) (vs3 : List (ByteArray × List Ty)) {cs ds : List Value} (hr : RepT K w (.mk k s n ps fs vs) cs) (hp : RepT K2 w (.mk k3 s3 n3 ps3 fs3 vs3) ds) (hsm : cntT (.mk k s n ps fs vs) + cntT (.mk k3 s3 n3 ps3 fs3 vs3) ≤ 300) (hfa : formedT (.mk k s n ps fs vs) = false) : Calls Tryz.prog 5 #[.agg cs.toArray, .agg ds.toArray] w (fun e w' => e = .returned (.bool true) ∧ Below w.heap.size w w') := by
 refine two_pre hr hp fun A c A' c' A'' c'' A3 c3 B3 d3 C3 e3 w1 h hcs hds => ?_
 subst hcs
 subst hds
 clear hr hp
 obtain ⟨HBX, HB1, HW1, HR, HP⟩ := h
 have KAw := Lib.hid fun wx => awake14 wx
 obtain ⟨X, hX, kx⟩ := nod14 HR.out HB1.out
 obtain ⟨Y, hY, ky⟩ := nod14 HP.out HB1.out
 have KX := Lib.hid kx
 have KY := Lib.hid ky
 have w12 : wrap64 (X + Y) = X + Y := wrap_in (by omega) (by omega)
 have v12 : IntKind.i64.wrap (X + Y) = X + Y := (wrap14 _).trans w12
 have g1 : decide ((300 : Int) < X + Y) = false := decide_eq_false (by omega)
 have g2 : ¬ (300 : Int) < X + Y := by omega
 have kfa := fun (wx : World) (hx : Below w1.heap.size w1 wx) => formed_ref (HR.out.later (HB1.out.trans (hx.mono HB1.out.size)))
 rw [hfa] at kfa
 have KFa := Lib.hid kfa
 clear kfa hfa
 clear kx ky hX hY hsm
 go_enter Tryz.func5, Tryz.ntmps5
 go_upto_region 1 with fail
 rw [← HW1.out]
 refine wp_region_held_drew (S := (fun w' => (w'.cell? ⟨w.heap.size, 0, none⟩ = some (.int .i64 k) ∧ w'.cell? ⟨w.heap.size, 1, none⟩ = some (.string s) ∧ w'.cell? ⟨w.heap.size, 2, none⟩ = some (.int .i64 n) ∧ w'.cell? ⟨w.heap.size, 3, none⟩ = some (.slice A ps.length c) ∧ w'.cell? ⟨w.heap.size, 4, none⟩ = some (.slice A' fs.length c') ∧ w'.cell? ⟨w.heap.size, 5, none⟩ = some (.slice A'' vs.length c'')) ∧ (w'.cell? ⟨w.heap.size + 1, 0, none⟩ = some (.int .i64 k3) ∧ w'.cell? ⟨w.heap.size + 1, 1, none⟩ = some (.string s3) ∧ w'.cell? ⟨w.heap.size + 1, 2, none⟩ = some (.int .i64 n3) ∧ w'.cell? ⟨w.heap.size + 1, 3, none⟩ = some (.slice A3 ps3.length c3) ∧ w'.cell? ⟨w.heap.size + 1, 4, none⟩ = some (.slice B3 fs3.length d3) ∧ w'.cell? ⟨w.heap.size + 1, 5, none⟩ = some (.slice C3 vs3.length e3)))) (by kernel_rfl) (HBX.out _ (Below.refl _ _).drew) (fun hHeld => ?_)
 refine wpAnyH_ready (rs := [0]) (by kernel_rfl) (by simp) ?_
 refine AllReadyH.cons (sd (some 13) rfl) (fun Kx hK => ?_) AllReadyH.nil
 go_simp
 refine (KAw.out _).mono ?_
 rintro e w2 ⟨rfl, hb⟩
 have HB2 := Lib.hid (((Below.refl w1.heap.size w1).drew).trans (hb.mono ((Below.refl w1.heap.size w1).drew).size))
 clear hb
 go_wp2_with fail
 refine hK.out _ _ (HBX.out _ HB2.out) (fun hHeld => ?_)
 clear hK Kx
 try simp only [Act.put, List.setIfInBounds_toArray, List.set_cons_zero, List.set_cons_succ]
 refine Plan.start [1, 2, 3, 5] ?_
 iterate 4 ((refine Plan.take (v := ?_) (so rfl) (by kernel_rfl) (by kernel_rfl) (by kernel_rfl) (fun _ _ _ h => h) (Or.inl ⟨by rfl, ?_⟩) hHeld ?_; rotate_left; focus (intro w' hSw; (try dsimp only at hSw); go_simp; try with_reducible rfl)); try simp only [Act.put, List.setIfInBounds_toArray, List.set_cons_zero, List.set_cons_succ])
 refine Plan.done ?_
 refine wpAnyH_ready (rs := [4]) (by kernel_rfl) (by simp) ?_
 refine AllReadyH.cons (sd (some 17) rfl) (fun Kx hK => ?_) AllReadyH.nil
 go_simp
 refine (KX.out _ HB2.out).mono ?_
 rintro e w3 ⟨rfl, hb⟩
 have HB3 := Lib.hid ((HB2.out).trans (hb.mono (HB2.out).size))
 clear hb
 go_wp2_with fail
 refine hK.out _ _ (HBX.out _ HB3.out) (fun hHeld => ?_)
 clear hK Kx
 try simp only [Act.put, List.setIfInBounds_toArray, List.set_cons_zero, List.set_cons_succ]
 refine wpAnyH_ready (rs := [6]) (by kernel_rfl) (by simp) ?_
 refine AllReadyH.cons (sd (some 19) rfl) (fun Kx hK => ?_) AllReadyH.nil
 go_simp
 refine (KY.out _ HB3.out).mono ?_
 rintro e w4 ⟨rfl, hb⟩
 have HB4 := Lib.hid ((HB3.out).trans (hb.mono (HB3.out).size))
 clear hb
 go_wp2_with fail
 refine hK.out _ _ (HBX.out _ HB4.out) (fun hHeld => ?_)
 clear hK Kx
 try simp only [Act.put, List.setIfInBounds_toArray, List.set_cons_zero, List.set_cons_succ]
 refine Plan.start [7, 8, 9, 10, 11] ?_
 iterate 5 ((refine Plan.take (v := ?_) (so rfl) (by kernel_rfl) (by kernel_rfl) (by kernel_rfl) (fun _ _ _ h => h) (Or.inl ⟨by rfl, ?_⟩) hHeld ?_; rotate_left; focus (intro w' hSw; (try dsimp only at hSw); go_simp; try with_reducible rfl)); try simp only [Act.put, List.setIfInBounds_toArray, List.set_cons_zero, List.set_cons_succ])
 refine Plan.done ?_
 refine wpAnyH_ready (rs := [12]) (by kernel_rfl) (by simp) ?_
 refine AllReadyH.cons (sd (some 25) rfl) (fun Kx hK => ?_) AllReadyH.nil
 go_simp
 refine (KFa.out _ HB4.out).mono ?_
 rintro e w5 ⟨rfl, hb⟩
 have HB5 := Lib.hid ((HB4.out).trans (hb.mono (HB4.out).size))
 clear hb
 go_wp2_with fail
 refine hK.out _ _ (HBX.out _ HB5.out) (fun hHeld => ?_)
 clear hK Kx
 try simp only [Act.put, List.setIfInBounds_toArray, List.set_cons_zero, List.set_cons_succ]
 refine Plan.start [13, 14, 15] ?_
 iterate 3 ((refine Plan.take (v := ?_) (so rfl) (by kernel_rfl) (by kernel_rfl) (by kernel_rfl) (fun _ _ _ h => h) (Or.inl ⟨by rfl, ?_⟩) hHeld ?_; rotate_left; focus (intro w' hSw; (try dsimp only at hSw); go_simp; try with_reducible rfl)); try simp only [Act.put, List.setIfInBounds_toArray, List.set_cons_zero, List.set_cons_succ])
 refine Plan.done ?_
 refine Plan.start [16, 17, 18] ?_
 iterate 3 (refine Plan.take (v := undef) (so rfl) (by kernel_rfl) (by kernel_rfl) (by kernel_rfl) (fun _ _ _ h => h) (Or.inr ⟨by rfl, rfl⟩) hHeld ?_; try simp only [Act.put, List.setIfInBounds_toArray, List.set_cons_zero, List.set_cons_succ])
 refine Plan.done ?_
 refine wpAnyH_take (i := 19) (v := ?_) (sd (some 32) rfl) (by kernel_rfl) (by kernel_rfl) (by kernel_rfl) (fun _ _ _ h => h) (Or.inl ⟨by rfl, ?_⟩) hHeld ?_
 rotate_left
 ·intro w' hSw
  (try dsimp only at hSw)
  go_simp
  try with_reducible rfl
 try simp only [Act.put, List.setIfInBounds_toArray, List.set_cons_zero, List.set_cons_succ]
 refine wpAnyH_done (by kernel_rfl) ?_ _
 clear hHeld
 go_wp2_with fail
 refine (KAw.out _).mono ?_
 rintro e w20 ⟨rfl, hb⟩
 have HB20 := Lib.hid (HB5.out.trans (hb.mono HB5.out.size))
 clear hb
 go_wp2_with fail
 go_ret
 exact ⟨rfl, HB1.out.trans (HB20.out.mono HB1.out.size)⟩
set_option maxRecDepth 100000 in
set_option maxHeartbeats 64000000 in
theorem merges_fb {K K2 : Nat → Prop} {w : World} (k : Int) (s : ByteArray) (n : Int) (ps : List Ty) (fs : List (ByteArray × Int × Ty)) (vs : List (ByteArray × List Ty)) (k3 : Int) (s3 : ByteArray) (n3 : Int) (ps3 : List Ty) (fs3 : List (ByteArray × Int × Ty)) (vs3 : List (ByteArray × List Ty)) {cs ds : List Value} (hr : RepT K w (.mk k s n ps fs vs) cs) (hp : RepT K2 w (.mk k3 s3 n3 ps3 fs3 vs3) ds) (hsm : cntT (.mk k s n ps fs vs) + cntT (.mk k3 s3 n3 ps3 fs3 vs3) ≤ 300) (hfa : formedT (.mk k s n ps fs vs) = true) (hfb : formedT (.mk k3 s3 n3 ps3 fs3 vs3) = false) : Calls Tryz.prog 5 #[.agg cs.toArray, .agg ds.toArray] w (fun e w' => e = .returned (.bool true) ∧ Below w.heap.size w w') := by
 refine two_pre hr hp fun A c A' c' A'' c'' A3 c3 B3 d3 C3 e3 w1 h hcs hds => ?_
 subst hcs
 subst hds
 clear hr hp
 obtain ⟨HBX, HB1, HW1, HR, HP⟩ := h
 have KAw := Lib.hid fun wx => awake14 wx
 obtain ⟨X, hX, kx⟩ := nod14 HR.out HB1.out
 obtain ⟨Y, hY, ky⟩ := nod14 HP.out HB1.out
 have KX := Lib.hid kx
 have KY := Lib.hid ky
 have w12 : wrap64 (X + Y) = X + Y := wrap_in (by omega) (by omega)
 have v12 : IntKind.i64.wrap (X + Y) = X + Y := (wrap14 _).trans w12
 have g1 : decide ((300 : Int) < X + Y) = false := decide_eq_false (by omega)
 have g2 : ¬ (300 : Int) < X + Y := by omega
 have kfa := fun (wx : World) (hx : Below w1.heap.size w1 wx) => formed_ref (HR.out.later (HB1.out.trans (hx.mono HB1.out.size)))
 rw [hfa] at kfa
 have KFa := Lib.hid kfa
 clear kfa hfa
 have kfb := fun (wx : World) (hx : Below w1.heap.size w1 wx) => formed_ref (HP.out.later (HB1.out.trans (hx.mono HB1.out.size)))
 rw [hfb] at kfb
 have KFb := Lib.hid kfb
 clear kfb hfb
 clear kx ky hX hY hsm
 go_enter Tryz.func5, Tryz.ntmps5
 go_upto_region 1 with fail
 rw [← HW1.out]
 refine wp_region_held_drew (S := (fun w' => (w'.cell? ⟨w.heap.size, 0, none⟩ = some (.int .i64 k) ∧ w'.cell? ⟨w.heap.size, 1, none⟩ = some (.string s) ∧ w'.cell? ⟨w.heap.size, 2, none⟩ = some (.int .i64 n) ∧ w'.cell? ⟨w.heap.size, 3, none⟩ = some (.slice A ps.length c) ∧ w'.cell? ⟨w.heap.size, 4, none⟩ = some (.slice A' fs.length c') ∧ w'.cell? ⟨w.heap.size, 5, none⟩ = some (.slice A'' vs.length c'')) ∧ (w'.cell? ⟨w.heap.size + 1, 0, none⟩ = some (.int .i64 k3) ∧ w'.cell? ⟨w.heap.size + 1, 1, none⟩ = some (.string s3) ∧ w'.cell? ⟨w.heap.size + 1, 2, none⟩ = some (.int .i64 n3) ∧ w'.cell? ⟨w.heap.size + 1, 3, none⟩ = some (.slice A3 ps3.length c3) ∧ w'.cell? ⟨w.heap.size + 1, 4, none⟩ = some (.slice B3 fs3.length d3) ∧ w'.cell? ⟨w.heap.size + 1, 5, none⟩ = some (.slice C3 vs3.length e3)))) (by kernel_rfl) (HBX.out _ (Below.refl _ _).drew) (fun hHeld => ?_)
 refine wpAnyH_ready (rs := [0]) (by kernel_rfl) (by simp) ?_
 refine AllReadyH.cons (sd (some 13) rfl) (fun Kx hK => ?_) AllReadyH.nil
 go_simp
 refine (KAw.out _).mono ?_
 rintro e w2 ⟨rfl, hb⟩
 have HB2 := Lib.hid (((Below.refl w1.heap.size w1).drew).trans (hb.mono ((Below.refl w1.heap.size w1).drew).size))
 clear hb
 go_wp2_with fail
 refine hK.out _ _ (HBX.out _ HB2.out) (fun hHeld => ?_)
 clear hK Kx
 try simp only [Act.put, List.setIfInBounds_toArray, List.set_cons_zero, List.set_cons_succ]
 refine Plan.start [1, 2, 3, 5] ?_
 iterate 4 ((refine Plan.take (v := ?_) (so rfl) (by kernel_rfl) (by kernel_rfl) (by kernel_rfl) (fun _ _ _ h => h) (Or.inl ⟨by rfl, ?_⟩) hHeld ?_; rotate_left; focus (intro w' hSw; (try dsimp only at hSw); go_simp; try with_reducible rfl)); try simp only [Act.put, List.setIfInBounds_toArray, List.set_cons_zero, List.set_cons_succ])
 refine Plan.done ?_
 refine wpAnyH_ready (rs := [4]) (by kernel_rfl) (by simp) ?_
 refine AllReadyH.cons (sd (some 17) rfl) (fun Kx hK => ?_) AllReadyH.nil
 go_simp
 refine (KX.out _ HB2.out).mono ?_
 rintro e w3 ⟨rfl, hb⟩
 have HB3 := Lib.hid ((HB2.out).trans (hb.mono (HB2.out).size))
 clear hb
 go_wp2_with fail
 refine hK.out _ _ (HBX.out _ HB3.out) (fun hHeld => ?_)
 clear hK Kx
 try simp only [Act.put, List.setIfInBounds_toArray, List.set_cons_zero, List.set_cons_succ]
 refine wpAnyH_ready (rs := [6]) (by kernel_rfl) (by simp) ?_
 refine AllReadyH.cons (sd (some 19) rfl) (fun Kx hK => ?_) AllReadyH.nil
 go_simp
 refine (KY.out _ HB3.out).mono ?_
 rintro e w4 ⟨rfl, hb⟩
 have HB4 := Lib.hid ((HB3.out).trans (hb.mono (HB3.out).size))
 clear hb
 go_wp2_with fail
 refine hK.out _ _ (HBX.out _ HB4.out) (fun hHeld => ?_)
 clear hK Kx
 try simp only [Act.put, List.setIfInBounds_toArray, List.set_cons_zero, List.set_cons_succ]
 refine Plan.start [7, 8, 9, 10, 11] ?_
 iterate 5 ((refine Plan.take (v := ?_) (so rfl) (by kernel_rfl) (by kernel_rfl) (by kernel_rfl) (fun _ _ _ h => h) (Or.inl ⟨by rfl, ?_⟩) hHeld ?_; rotate_left; focus (intro w' hSw; (try dsimp only at hSw); go_simp; try with_reducible rfl)); try simp only [Act.put, List.setIfInBounds_toArray, List.set_cons_zero, List.set_cons_succ])
 refine Plan.done ?_
 refine wpAnyH_ready (rs := [12]) (by kernel_rfl) (by simp) ?_
 refine AllReadyH.cons (sd (some 25) rfl) (fun Kx hK => ?_) AllReadyH.nil
 go_simp
 refine (KFa.out _ HB4.out).mono ?_
 rintro e w5 ⟨rfl, hb⟩
 have HB5 := Lib.hid ((HB4.out).trans (hb.mono (HB4.out).size))
 clear hb
 go_wp2_with fail
 refine hK.out _ _ (HBX.out _ HB5.out) (fun hHeld => ?_)
 clear hK Kx
 try simp only [Act.put, List.setIfInBounds_toArray, List.set_cons_zero, List.set_cons_succ]
 refine Plan.start [13, 14, 15, 16] ?_
 iterate 4 ((refine Plan.take (v := ?_) (so rfl) (by kernel_rfl) (by kernel_rfl) (by kernel_rfl) (fun _ _ _ h => h) (Or.inl ⟨by rfl, ?_⟩) hHeld ?_; rotate_left; focus (intro w' hSw; (try dsimp only at hSw); go_simp; try with_reducible rfl)); try simp only [Act.put, List.setIfInBounds_toArray, List.set_cons_zero, List.set_cons_succ])
 refine Plan.done ?_
 refine wpAnyH_ready (rs := [17]) (by kernel_rfl) (by simp) ?_
 refine AllReadyH.cons (sd (some 30) rfl) (fun Kx hK => ?_) AllReadyH.nil
 go_simp
 refine (KFb.out _ HB5.out).mono ?_
 rintro e w6 ⟨rfl, hb⟩
 have HB6 := Lib.hid ((HB5.out).trans (hb.mono (HB5.out).size))
 clear hb
 go_wp2_with fail
 refine hK.out _ _ (HBX.out _ HB6.out) (fun hHeld => ?_)
 clear hK Kx
 try simp only [Act.put, List.setIfInBounds_toArray, List.set_cons_zero, List.set_cons_succ]
 refine Plan.start [18, 19] ?_
 iterate 2 ((refine Plan.take (v := ?_) (so rfl) (by kernel_rfl) (by kernel_rfl) (by kernel_rfl) (fun _ _ _ h => h) (Or.inl ⟨by rfl, ?_⟩) hHeld ?_; rotate_left; focus (intro w' hSw; (try dsimp only at hSw); go_simp; try with_reducible rfl)); try simp only [Act.put, List.setIfInBounds_toArray, List.set_cons_zero, List.set_cons_succ])
 refine Plan.done ?_
 refine wpAnyH_done (by kernel_rfl) ?_ _
 clear hHeld
 go_wp2_with fail
 refine (KAw.out _).mono ?_
 rintro e w20 ⟨rfl, hb⟩
 have HB20 := Lib.hid (HB6.out.trans (hb.mono HB6.out.size))
 clear hb
 go_wp2_with fail
 go_ret
 exact ⟨rfl, HB1.out.trans (HB20.out.mono HB1.out.size)⟩
theorem rep_tup {K : Nat → Prop} {w : World} {t q : Ty} {c0 c1 c2 c3 c4 c5 d0 d1 d2 d3 d4 d5 : Value} {g : Nat} (ht : RepT K w t [c0, c1, c2, c3, c4, c5]) (hq : RepT K w q [d0, d1, d2, d3, d4, d5]) (hlo : ∀ b, K b → b < w.heap.size) (hh : w.heap[g]? = some (.cells #[c0, c1, c2, c3, c4, c5, d0, d1, d2, d3, d4, d5] 26 (0, 0))) :
  RepT (fun b => b < w.heap.size) w (tupT [t, q]) [.int .i64 12, .string ⟨#[]⟩, .int .i64 0, .slice (some ⟨g, 0, none⟩) 2 2, .slice none 0 0, .slice none 0 0] :=
 RepT.of (by decide) ((list_lit2 ht hq hh).weak fun b hb => hb.elim (hlo b) fun e => e ▸ (Array.getElem?_eq_some_iff.1 hh).1) (nilF4 _ w) (nilV4 _ w)
set_option maxRecDepth 100000 in
set_option maxHeartbeats 64000000 in
theorem merges_m {K K2 : Nat → Prop} {w : World} (k : Int) (s : ByteArray) (n : Int) (ps : List Ty) (fs : List (ByteArray × Int × Ty)) (vs : List (ByteArray × List Ty)) (k3 : Int) (s3 : ByteArray) (n3 : Int) (ps3 : List Ty) (fs3 : List (ByteArray × Int × Ty)) (vs3 : List (ByteArray × List Ty)) {cs ds : List Value} (hr : RepT K w (.mk k s n ps fs vs) cs) (hp : RepT K2 w (.mk k3 s3 n3 ps3 fs3 vs3) ds) (hsm : cntT (.mk k s n ps fs vs) + cntT (.mk k3 s3 n3 ps3 fs3 vs3) ≤ 300) (hfa : formedT (.mk k s n ps fs vs) = true) (hfb : formedT (.mk k3 s3 n3 ps3 fs3 vs3) = true) : Calls Tryz.prog 5 #[.agg cs.toArray, .agg ds.toArray] w (fun e w' => e = .returned (.bool true) ∧ Below w.heap.size w w') := by
 refine two_pre hr hp fun A c A' c' A'' c'' A3 c3 B3 d3 C3 e3 w1 h hcs hds => ?_
 subst hcs
 subst hds
 clear hr hp
 obtain ⟨HBX, HB1, HW1, HR, HP⟩ := h
 have KAw := Lib.hid fun wx => awake14 wx
 obtain ⟨X, hX, kx⟩ := nod14 HR.out HB1.out
 obtain ⟨Y, hY, ky⟩ := nod14 HP.out HB1.out
 have KX := Lib.hid kx
 have KY := Lib.hid ky
 have w12 : wrap64 (X + Y) = X + Y := wrap_in (by omega) (by omega)
 have v12 : IntKind.i64.wrap (X + Y) = X + Y := (wrap14 _).trans w12
 have g1 : decide ((300 : Int) < X + Y) = false := decide_eq_false (by omega)
 have g2 : ¬ (300 : Int) < X + Y := by omega
 have fta : formT (.mk k s n ps fs vs) = true := formed_form hfa
 have ftb : formT (.mk k3 s3 n3 ps3 fs3 vs3) = true := formed_form hfb
 obtain ⟨holdT, hstd, hlen1, hcnt1⟩ := arrs_all vB (.mk k s n ps fs vs) (.mk k3 s3 n3 ps3 fs3 vs3)
 have hfT : formT (unionT [arrT (.mk k s n ps fs vs), arrT (.mk k3 s3 n3 ps3 fs3 vs3)]) = true := form_union (fun x hx => by simp only [List.mem_cons, List.not_mem_nil, or_false] at hx; exact hx.elim (fun e => e ▸ form_arrT fta) (fun e => e ▸ form_arrT ftb))
 have hcT : cntT (unionT [arrT (.mk k s n ps fs vs), arrT (.mk k3 s3 n3 ps3 fs3 vs3)]) ≤ 303 := by
  have h := cnt_union [arrT (.mk k s n ps fs vs), arrT (.mk k3 s3 n3 ps3 fs3 vs3)]
  rw [cntL_cons, cntL_cons, show cntL [] = 0 from rfl, cnt_arrT, cnt_arrT] at h
  omega
 have hfV : formT (arrT (infV vB)) = true := form_arrT (form_infV name_v)
 have hcV : cntT (arrT (infV vB)) = 2 := by rw [cnt_arrT, cnt_infV]
 have kg1 := fun (wx : World) (es ds : List Value) (he : RepT (fun b => b < wx.heap.size) wx (unionT [arrT (.mk k s n ps fs vs), arrT (.mk k3 s3 n3 ps3 fs3 vs3)]) es) (hd : RepT (fun b => b < wx.heap.size) wx (arrT (infV vB)) ds) => cgather_few he hd (fun _ h => h) (fun _ h => h) (formed_of hfT (by omega)) (formed_of hfV (by omega)) holdT (by omega) (by omega) (by rw [names_arrT, names_infV]; simp) (by rw [names_arrT, names_infV]; intro x hx; rw [List.mem_singleton.1 hx]; decide) (fun s => flat_gat s _ (Nat.le_trans hcnt1 hcT) (by decide))
 have hfu : formT (unionT [(.mk k s n ps fs vs), (.mk k3 s3 n3 ps3 fs3 vs3)]) = true := form_union (fun x hx => by simp only [List.mem_cons, List.not_mem_nil, or_false] at hx; exact hx.elim (fun e => e ▸ fta) (fun e => e ▸ ftb))
 have hcu : cntT (unionT [(.mk k s n ps fs vs), (.mk k3 s3 n3 ps3 fs3 vs3)]) ≤ 301 := by
  have h := cnt_union [(.mk k s n ps fs vs), (.mk k3 s3 n3 ps3 fs3 vs3)]
  rw [cntL_cons, cntL_cons, show cntL [] = 0 from rfl] at h
  omega
 have hftu : formT (tupT [(.mk k s n ps fs vs), (.mk k3 s3 n3 ps3 fs3 vs3)]) = true := form_tupT (fun x hx => by simp only [List.mem_cons, List.not_mem_nil, or_false] at hx; exact hx.elim (fun e => e ▸ fta) (fun e => e ▸ ftb))
 have hctu : cntT (tupT [(.mk k s n ps fs vs), (.mk k3 s3 n3 ps3 fs3 vs3)]) ≤ 301 := by rw [cnt_tupT, cntL_cons, cntL_cons, show cntL [] = 0 from rfl]; omega
 have kg2 := fun (wx : World) (es ds : List Value) (he : RepT (fun b => b < wx.heap.size) wx (tupT [(.mk k s n ps fs vs), (.mk k3 s3 n3 ps3 fs3 vs3)]) es) (hd : RepT (fun b => b < wx.heap.size) wx (arrT (infV vB)) ds) => cgather_few he hd (fun _ h => h) (fun _ h => h) (formed_of hftu (by omega)) (formed_of hfV (by omega)) (hold_tup vB _) (by omega) (by rw [gath_tup]; simp) (by rw [names_arrT, names_infV]; simp) (by rw [names_arrT, names_infV]; intro x hx; rw [List.mem_singleton.1 hx]; decide) (fun s => flat_gat s _ (n := 303) (by rw [gath_tup, List.map_cons, List.map_nil, cntL_cons, cntL_nil]; show cntT (unionT _) + 0 ≤ 303; omega) (by decide))
 rw [names_arrT, names_infV] at kg1 kg2
 rw [gath_tup] at kg2
 have hg2 : stdT (gatN vB [(vB, unionT [(.mk k s n ps fs vs), (.mk k3 s3 n3 ps3 fs3 vs3)])]) = unionT [(.mk k s n ps fs vs), (.mk k3 s3 n3 ps3 fs3 vs3)] := by rw [gatN_one, if_pos rfl]; exact std_one hfu
 generalize gathT (arrT (infV vB)) (unionT [arrT (.mk k s n ps fs vs), arrT (.mk k3 s3 n3 ps3 fs3 vs3)]) = G1 at kg1 hstd hlen1 hcnt1
 generalize huu : unionT [(.mk k s n ps fs vs), (.mk k3 s3 n3 ps3 fs3 vs3)] = un at kg2 hstd hg2 hfu
 have HG1 := Lib.hid hstd
 have HG2 := Lib.hid hg2
 have HUN := Lib.hid huu
 have HKG1 := Lib.hid kg1
 have HKG2 := Lib.hid kg2
 have HFT := Lib.hid fta
 have HFU := Lib.hid ftb
 have HCNT := Lib.hid hsm
 obtain ⟨ku, su, nu, pu, fu, vu⟩ := un
 clear kg1 kg2 hstd hg2 huu hfu hcu hftu hctu hfV hcV hfT hcT holdT hlen1 hcnt1 fta ftb
 have kfa := fun (wx : World) (hx : Below w1.heap.size w1 wx) => formed_ref (HR.out.later (HB1.out.trans (hx.mono HB1.out.size)))
 rw [hfa] at kfa
 have KFa := Lib.hid kfa
 clear kfa hfa
 have kfb := fun (wx : World) (hx : Below w1.heap.size w1 wx) => formed_ref (HP.out.later (HB1.out.trans (hx.mono HB1.out.size)))
 rw [hfb] at kfb
 have KFb := Lib.hid kfb
 clear kfb hfb
 clear kx ky hX hY hsm
 go_enter Tryz.func5, Tryz.ntmps5
 go_upto_region 1 with fail
 rw [← HW1.out]
 refine wp_region_held_drew (S := (fun w' => (w'.cell? ⟨w.heap.size, 0, none⟩ = some (.int .i64 k) ∧ w'.cell? ⟨w.heap.size, 1, none⟩ = some (.string s) ∧ w'.cell? ⟨w.heap.size, 2, none⟩ = some (.int .i64 n) ∧ w'.cell? ⟨w.heap.size, 3, none⟩ = some (.slice A ps.length c) ∧ w'.cell? ⟨w.heap.size, 4, none⟩ = some (.slice A' fs.length c') ∧ w'.cell? ⟨w.heap.size, 5, none⟩ = some (.slice A'' vs.length c'')) ∧ (w'.cell? ⟨w.heap.size + 1, 0, none⟩ = some (.int .i64 k3) ∧ w'.cell? ⟨w.heap.size + 1, 1, none⟩ = some (.string s3) ∧ w'.cell? ⟨w.heap.size + 1, 2, none⟩ = some (.int .i64 n3) ∧ w'.cell? ⟨w.heap.size + 1, 3, none⟩ = some (.slice A3 ps3.length c3) ∧ w'.cell? ⟨w.heap.size + 1, 4, none⟩ = some (.slice B3 fs3.length d3) ∧ w'.cell? ⟨w.heap.size + 1, 5, none⟩ = some (.slice C3 vs3.length e3)))) (by kernel_rfl) (HBX.out _ (Below.refl _ _).drew) (fun hHeld => ?_)
 refine wpAnyH_ready (rs := [0]) (by kernel_rfl) (by simp) ?_
 refine AllReadyH.cons (sd (some 13) rfl) (fun Kx hK => ?_) AllReadyH.nil
 go_simp
 refine (KAw.out _).mono ?_
 rintro e w2 ⟨rfl, hb⟩
 have HB2 := Lib.hid (((Below.refl w1.heap.size w1).drew).trans (hb.mono ((Below.refl w1.heap.size w1).drew).size))
 clear hb
 go_wp2_with fail
 refine hK.out _ _ (HBX.out _ HB2.out) (fun hHeld => ?_)
 clear hK Kx
 try simp only [Act.put, List.setIfInBounds_toArray, List.set_cons_zero, List.set_cons_succ]
 refine Plan.start [1, 2, 3, 5] ?_
 iterate 4 ((refine Plan.take (v := ?_) (so rfl) (by kernel_rfl) (by kernel_rfl) (by kernel_rfl) (fun _ _ _ h => h) (Or.inl ⟨by rfl, ?_⟩) hHeld ?_; rotate_left; focus (intro w' hSw; (try dsimp only at hSw); go_simp; try with_reducible rfl)); try simp only [Act.put, List.setIfInBounds_toArray, List.set_cons_zero, List.set_cons_succ])
 refine Plan.done ?_
 refine wpAnyH_ready (rs := [4]) (by kernel_rfl) (by simp) ?_
 refine AllReadyH.cons (sd (some 17) rfl) (fun Kx hK => ?_) AllReadyH.nil
 go_simp
 refine (KX.out _ HB2.out).mono ?_
 rintro e w3 ⟨rfl, hb⟩
 have HB3 := Lib.hid ((HB2.out).trans (hb.mono (HB2.out).size))
 clear hb
 go_wp2_with fail
 refine hK.out _ _ (HBX.out _ HB3.out) (fun hHeld => ?_)
 clear hK Kx
 try simp only [Act.put, List.setIfInBounds_toArray, List.set_cons_zero, List.set_cons_succ]
 refine wpAnyH_ready (rs := [6]) (by kernel_rfl) (by simp) ?_
 refine AllReadyH.cons (sd (some 19) rfl) (fun Kx hK => ?_) AllReadyH.nil
 go_simp
 refine (KY.out _ HB3.out).mono ?_
 rintro e w4 ⟨rfl, hb⟩
 have HB4 := Lib.hid ((HB3.out).trans (hb.mono (HB3.out).size))
 clear hb
 go_wp2_with fail
 refine hK.out _ _ (HBX.out _ HB4.out) (fun hHeld => ?_)
 clear hK Kx
 try simp only [Act.put, List.setIfInBounds_toArray, List.set_cons_zero, List.set_cons_succ]
 refine Plan.start [7, 8, 9, 10, 11] ?_
 iterate 5 ((refine Plan.take (v := ?_) (so rfl) (by kernel_rfl) (by kernel_rfl) (by kernel_rfl) (fun _ _ _ h => h) (Or.inl ⟨by rfl, ?_⟩) hHeld ?_; rotate_left; focus (intro w' hSw; (try dsimp only at hSw); go_simp; try with_reducible rfl)); try simp only [Act.put, List.setIfInBounds_toArray, List.set_cons_zero, List.set_cons_succ])
 refine Plan.done ?_
 refine wpAnyH_ready (rs := [12]) (by kernel_rfl) (by simp) ?_
 refine AllReadyH.cons (sd (some 25) rfl) (fun Kx hK => ?_) AllReadyH.nil
 go_simp
 refine (KFa.out _ HB4.out).mono ?_
 rintro e w5 ⟨rfl, hb⟩
 have HB5 := Lib.hid ((HB4.out).trans (hb.mono (HB4.out).size))
 clear hb
 go_wp2_with fail
 refine hK.out _ _ (HBX.out _ HB5.out) (fun hHeld => ?_)
 clear hK Kx
 try simp only [Act.put, List.setIfInBounds_toArray, List.set_cons_zero, List.set_cons_succ]
 refine Plan.start [13, 14, 15, 16] ?_
 iterate 4 ((refine Plan.take (v := ?_) (so rfl) (by kernel_rfl) (by kernel_rfl) (by kernel_rfl) (fun _ _ _ h => h) (Or.inl ⟨by rfl, ?_⟩) hHeld ?_; rotate_left; focus (intro w' hSw; (try dsimp only at hSw); go_simp; try with_reducible rfl)); try simp only [Act.put, List.setIfInBounds_toArray, List.set_cons_zero, List.set_cons_succ])
 refine Plan.done ?_
 refine wpAnyH_ready (rs := [17]) (by kernel_rfl) (by simp) ?_
 refine AllReadyH.cons (sd (some 30) rfl) (fun Kx hK => ?_) AllReadyH.nil
 go_simp
 refine (KFb.out _ HB5.out).mono ?_
 rintro e w6 ⟨rfl, hb⟩
 have HB6 := Lib.hid ((HB5.out).trans (hb.mono (HB5.out).size))
 clear hb
 go_wp2_with fail
 refine hK.out _ _ (HBX.out _ HB6.out) (fun hHeld => ?_)
 clear hK Kx
 try simp only [Act.put, List.setIfInBounds_toArray, List.set_cons_zero, List.set_cons_succ]
 refine Plan.start [18, 19] ?_
 iterate 2 ((refine Plan.take (v := ?_) (so rfl) (by kernel_rfl) (by kernel_rfl) (by kernel_rfl) (fun _ _ _ h => h) (Or.inl ⟨by rfl, ?_⟩) hHeld ?_; rotate_left; focus (intro w' hSw; (try dsimp only at hSw); go_simp; try with_reducible rfl)); try simp only [Act.put, List.setIfInBounds_toArray, List.set_cons_zero, List.set_cons_succ])
 refine Plan.done ?_
 refine wpAnyH_done (by kernel_rfl) ?_ _
 clear hHeld
 obtain ⟨wA, hwA⟩ : ∃ x, x = (w6.alloc (.cells #[.int .i64 k, .string s, .int .i64 n, .slice A ps.length c, .slice A' fs.length c', .slice A'' vs.length c''] 26)) := ⟨_, rfl⟩
 obtain ⟨wB, hwB⟩ : ∃ x, x = (wA.alloc (.cells #[.int .i64 11, .string ⟨#[]⟩, .int .i64 0, .slice (some ⟨w6.heap.size, 0, none⟩) 1 1, .slice none 0 0, .slice none 0 0] 26)) := ⟨_, rfl⟩
 have hbA : Below w6.heap.size w6 wA := by rw [hwA]; exact (Below.refl _ _).alloc (Nat.le_refl _) _
 have hbB : Below wA.heap.size wA wB := by rw [hwB]; exact (Below.refl _ _).alloc (Nat.le_refl _) _
 have hsA : wA.heap.size = w6.heap.size + 1 := by rw [hwA]; simp
 have hxB : wB.heap[w6.heap.size + 1]? = some (.cells #[.int .i64 11, .string ⟨#[]⟩, .int .i64 0, .slice (some ⟨w6.heap.size, 0, none⟩) 1 1, .slice none 0 0, .slice none 0 0] 26 (0, 0)) := by
  have h := heap_alloc_new wA (.cells #[.int .i64 11, .string ⟨#[]⟩, .int .i64 0, .slice (some ⟨w6.heap.size, 0, none⟩) 1 1, .slice none 0 0, .slice none 0 0] 26)
  rw [hsA] at h
  rw [hwB]
  exact h
 have hxA : wB.heap[w6.heap.size]? = some (.cells #[.int .i64 k, .string s, .int .i64 n, .slice A ps.length c, .slice A' fs.length c', .slice A'' vs.length c''] 26 (0, 0)) := box_up hbB (by omega) (by rw [hwA]; exact heap_alloc_new w6 _)
 have HBa := Lib.hid (HB6.out.trans ((hbA.trans (hbB.mono hbA.size)).mono HB6.out.size))
 have hra := rep_arr (RepT.low _ _ (HR.out.later (HB1.out.trans (HBa.out.mono HB1.out.size)))) (fun _ h => h) hxA
 have HRA := Lib.hid hra
 have HXA := Lib.hid hxB
 have HWA := Lib.hid hwA
 have HWB := Lib.hid hwB
 clear hwA hwB hbA hbB hsA hxB hxA hra
 obtain ⟨⟨x0, x1, x2, x3, x4, x5⟩, ⟨y0, y1, y2, y3, y4, y5⟩⟩ := HBX.out _ HB6.out
 go_upto_region 4 with fail
 rw [← HWA.out, ← HWB.out]
 clear HWA HWB
 clear x0 x1 x2 x3 x4 x5 y0 y1 y2 y3 y4 y5
 obtain ⟨wC, hwC⟩ : ∃ x, x = (wB.alloc (.cells #[.int .i64 k3, .string s3, .int .i64 n3, .slice A3 ps3.length c3, .slice B3 fs3.length d3, .slice C3 vs3.length e3] 26)) := ⟨_, rfl⟩
 obtain ⟨wD, hwD⟩ : ∃ x, x = (wC.alloc (.cells #[.int .i64 11, .string ⟨#[]⟩, .int .i64 0, .slice (some ⟨wB.heap.size, 0, none⟩) 1 1, .slice none 0 0, .slice none 0 0] 26)) := ⟨_, rfl⟩
 have hbC : Below wB.heap.size wB wC := by rw [hwC]; exact (Below.refl _ _).alloc (Nat.le_refl _) _
 have hbD : Below wC.heap.size wC wD := by rw [hwD]; exact (Below.refl _ _).alloc (Nat.le_refl _) _
 have hsC : wC.heap.size = wB.heap.size + 1 := by rw [hwC]; simp
 have hxD : wD.heap[wB.heap.size + 1]? = some (.cells #[.int .i64 11, .string ⟨#[]⟩, .int .i64 0, .slice (some ⟨wB.heap.size, 0, none⟩) 1 1, .slice none 0 0, .slice none 0 0] 26 (0, 0)) := by
  have h := heap_alloc_new wC (.cells #[.int .i64 11, .string ⟨#[]⟩, .int .i64 0, .slice (some ⟨wB.heap.size, 0, none⟩) 1 1, .slice none 0 0, .slice none 0 0] 26)
  rw [hsC] at h
  rw [hwD]
  exact h
 have hxC : wD.heap[wB.heap.size]? = some (.cells #[.int .i64 k3, .string s3, .int .i64 n3, .slice A3 ps3.length c3, .slice B3 fs3.length d3, .slice C3 vs3.length e3] 26 (0, 0)) := box_up hbD (by omega) (by rw [hwC]; exact heap_alloc_new wB _)
 have HBBD := Lib.hid (hbC.trans (hbD.mono hbC.size))
 have HBd := Lib.hid (HBa.out.trans (HBBD.out.mono HBa.out.size))
 have hrb := rep_arr (RepT.low _ _ (HP.out.later (HB1.out.trans (HBd.out.mono HB1.out.size)))) (fun _ h => h) hxC
 have HRB := Lib.hid hrb
 have HXB := Lib.hid hxD
 have HWC := Lib.hid hwC
 have HWD := Lib.hid hwD
 clear hwC hwD hbC hbD hsC hxD hxC hrb
 obtain ⟨⟨x0, x1, x2, x3, x4, x5⟩, ⟨y0, y1, y2, y3, y4, y5⟩⟩ := HBX.out _ HBa.out
 go_upto_region 5 with fail
 rw [← HWC.out, ← HWD.out]
 clear HWC HWD
 clear x0 x1 x2 x3 x4 x5 y0 y1 y2 y3 y4 y5
 go_wp2_with fail
 refine (infer14 _ _).mono ?_
 rintro e wE ⟨rfl, hbE⟩
 have HBDE := Lib.hid hbE
 have HBe := Lib.hid (HBd.out.trans (hbE.mono HBd.out.size))
 clear hbE
 obtain ⟨wF, hwF⟩ : ∃ x, x = (wE.alloc (.cells #[.int .i64 22, .string ⟨#[86]⟩, .int .i64 0, .slice none 0 0, .slice none 0 0, .slice none 0 0] 26)) := ⟨_, rfl⟩
 obtain ⟨wG, hwG⟩ : ∃ x, x = (wF.alloc (.cells #[.int .i64 11, .string ⟨#[]⟩, .int .i64 0, .slice (some ⟨wE.heap.size, 0, none⟩) 1 1, .slice none 0 0, .slice none 0 0] 26)) := ⟨_, rfl⟩
 have hbF : Below wE.heap.size wE wF := by rw [hwF]; exact (Below.refl _ _).alloc (Nat.le_refl _) _
 have hbG : Below wF.heap.size wF wG := by rw [hwG]; exact (Below.refl _ _).alloc (Nat.le_refl _) _
 have hsF : wF.heap.size = wE.heap.size + 1 := by rw [hwF]; simp
 have hxG : wG.heap[wE.heap.size + 1]? = some (.cells #[.int .i64 11, .string ⟨#[]⟩, .int .i64 0, .slice (some ⟨wE.heap.size, 0, none⟩) 1 1, .slice none 0 0, .slice none 0 0] 26 (0, 0)) := by
  have h := heap_alloc_new wF (.cells #[.int .i64 11, .string ⟨#[]⟩, .int .i64 0, .slice (some ⟨wE.heap.size, 0, none⟩) 1 1, .slice none 0 0, .slice none 0 0] 26)
  rw [hsF] at h
  rw [hwG]
  exact h
 have hxF : wG.heap[wE.heap.size]? = some (.cells #[.int .i64 22, .string ⟨#[86]⟩, .int .i64 0, .slice none 0 0, .slice none 0 0, .slice none 0 0] 26 (0, 0)) := box_up hbG (by omega) (by rw [hwF]; exact heap_alloc_new wE _)
 have HBEG := Lib.hid (hbF.trans (hbG.mono hbF.size))
 have HBg := Lib.hid (HBe.out.trans (HBEG.out.mono HBe.out.size))
 have hrp := rep_arr (rep_inf (fun _ => False) wG vB (by decide)) (fun _ h => h.elim) hxF
 have HBDG := Lib.hid (HBDE.out.trans (HBEG.out.mono HBDE.out.size))
 have HBBG := Lib.hid (HBBD.out.trans (HBDG.out.mono HBBD.out.size))
 have HALL : Hid (∀ wx, Below wG.heap.size wG wx → ((wx.cell? ⟨w.heap.size, 0, none⟩ = some (.int .i64 k) ∧ wx.cell? ⟨w.heap.size, 1, none⟩ = some (.string s) ∧ wx.cell? ⟨w.heap.size, 2, none⟩ = some (.int .i64 n) ∧ wx.cell? ⟨w.heap.size, 3, none⟩ = some (.slice A ps.length c) ∧ wx.cell? ⟨w.heap.size, 4, none⟩ = some (.slice A' fs.length c') ∧ wx.cell? ⟨w.heap.size, 5, none⟩ = some (.slice A'' vs.length c'')) ∧ (wx.cell? ⟨w.heap.size + 1, 0, none⟩ = some (.int .i64 k3) ∧ wx.cell? ⟨w.heap.size + 1, 1, none⟩ = some (.string s3) ∧ wx.cell? ⟨w.heap.size + 1, 2, none⟩ = some (.int .i64 n3) ∧ wx.cell? ⟨w.heap.size + 1, 3, none⟩ = some (.slice A3 ps3.length c3) ∧ wx.cell? ⟨w.heap.size + 1, 4, none⟩ = some (.slice B3 fs3.length d3) ∧ wx.cell? ⟨w.heap.size + 1, 5, none⟩ = some (.slice C3 vs3.length e3))) ∧ (wx.cell? ⟨w6.heap.size + 1, 0, none⟩ = some (.int .i64 11) ∧ wx.cell? ⟨w6.heap.size + 1, 1, none⟩ = some (.string ⟨#[]⟩) ∧ wx.cell? ⟨w6.heap.size + 1, 2, none⟩ = some (.int .i64 0) ∧ wx.cell? ⟨w6.heap.size + 1, 3, none⟩ = some (.slice (some ⟨w6.heap.size, 0, none⟩) 1 1) ∧ wx.cell? ⟨w6.heap.size + 1, 4, none⟩ = some (.slice none 0 0) ∧ wx.cell? ⟨w6.heap.size + 1, 5, none⟩ = some (.slice none 0 0)) ∧ (wx.cell? ⟨wB.heap.size + 1, 0, none⟩ = some (.int .i64 11) ∧ wx.cell? ⟨wB.heap.size + 1, 1, none⟩ = some (.string ⟨#[]⟩) ∧ wx.cell? ⟨wB.heap.size + 1, 2, none⟩ = some (.int .i64 0) ∧ wx.cell? ⟨wB.heap.size + 1, 3, none⟩ = some (.slice (some ⟨wB.heap.size, 0, none⟩) 1 1) ∧ wx.cell? ⟨wB.heap.size + 1, 4, none⟩ = some (.slice none 0 0) ∧ wx.cell? ⟨wB.heap.size + 1, 5, none⟩ = some (.slice none 0 0)) ∧ (wx.cell? ⟨wE.heap.size + 1, 0, none⟩ = some (.int .i64 11) ∧ wx.cell? ⟨wE.heap.size + 1, 1, none⟩ = some (.string ⟨#[]⟩) ∧ wx.cell? ⟨wE.heap.size + 1, 2, none⟩ = some (.int .i64 0) ∧ wx.cell? ⟨wE.heap.size + 1, 3, none⟩ = some (.slice (some ⟨wE.heap.size, 0, none⟩) 1 1) ∧ wx.cell? ⟨wE.heap.size + 1, 4, none⟩ = some (.slice none 0 0) ∧ wx.cell? ⟨wE.heap.size + 1, 5, none⟩ = some (.slice none 0 0))) := Lib.hid fun wx hx => by
  have h1 := box_up (HBBG.out.trans (hx.mono HBBG.out.size)) (Array.getElem?_eq_some_iff.1 HXA.out).1 HXA.out
  have h2 := box_up (HBDG.out.trans (hx.mono HBDG.out.size)) (Array.getElem?_eq_some_iff.1 HXB.out).1 HXB.out
  have h3 := box_up hx (Array.getElem?_eq_some_iff.1 hxG).1 hxG
  exact ⟨HBX.out wx (HBg.out.trans (hx.mono HBg.out.size)), ⟨Lib.cell_of_heap h1 0, Lib.cell_of_heap h1 1, Lib.cell_of_heap h1 2, Lib.cell_of_heap h1 3, Lib.cell_of_heap h1 4, Lib.cell_of_heap h1 5⟩, ⟨Lib.cell_of_heap h2 0, Lib.cell_of_heap h2 1, Lib.cell_of_heap h2 2, Lib.cell_of_heap h2 3, Lib.cell_of_heap h2 4, Lib.cell_of_heap h2 5⟩, Lib.cell_of_heap h3 0, Lib.cell_of_heap h3 1, Lib.cell_of_heap h3 2, Lib.cell_of_heap h3 3, Lib.cell_of_heap h3 4, Lib.cell_of_heap h3 5⟩
 have HRAA := Lib.hid fun (wx : World) (hx : Below wG.heap.size wG wx) => RepT.low _ _ (HRA.out.later (HBBG.out.trans (hx.mono HBBG.out.size)))
 have HRBB := Lib.hid fun (wx : World) (hx : Below wG.heap.size wG wx) => RepT.low _ _ (HRB.out.later (HBDG.out.trans (hx.mono HBDG.out.size)))
 have HRPP := Lib.hid fun (wx : World) (hx : Below wG.heap.size wG wx) => RepT.low _ _ (hrp.later hx)
 have HRTT := Lib.hid fun (wx : World) (hx : Below wG.heap.size wG wx) => RepT.low _ _ (HR.out.later (HB1.out.trans ((HBg.out.trans (hx.mono HBg.out.size)).mono HB1.out.size)))
 have HRUU := Lib.hid fun (wx : World) (hx : Below wG.heap.size wG wx) => RepT.low _ _ (HP.out.later (HB1.out.trans ((HBg.out.trans (hx.mono HBg.out.size)).mono HB1.out.size)))
 have HWF := Lib.hid hwF
 have HWG := Lib.hid hwG
 have HG0 := Lib.hid (Below.refl wG.heap.size wG).drew
 clear hwF hwG hbF hbG hsF hxG hxF hrp HRA HRB HXA HXB
 go_upto_region 6 with fail
 rw [← HWF.out, ← HWG.out]
 clear HWF HWG
 refine wp_region_held_drew (S := (fun w' => (w'.cell? ⟨w6.heap.size + 1, 0, none⟩ = some (.int .i64 11) ∧ w'.cell? ⟨w6.heap.size + 1, 1, none⟩ = some (.string ⟨#[]⟩) ∧ w'.cell? ⟨w6.heap.size + 1, 2, none⟩ = some (.int .i64 0) ∧ w'.cell? ⟨w6.heap.size + 1, 3, none⟩ = some (.slice (some ⟨w6.heap.size, 0, none⟩) 1 1) ∧ w'.cell? ⟨w6.heap.size + 1, 4, none⟩ = some (.slice none 0 0) ∧ w'.cell? ⟨w6.heap.size + 1, 5, none⟩ = some (.slice none 0 0)) ∧ (w'.cell? ⟨wB.heap.size + 1, 0, none⟩ = some (.int .i64 11) ∧ w'.cell? ⟨wB.heap.size + 1, 1, none⟩ = some (.string ⟨#[]⟩) ∧ w'.cell? ⟨wB.heap.size + 1, 2, none⟩ = some (.int .i64 0) ∧ w'.cell? ⟨wB.heap.size + 1, 3, none⟩ = some (.slice (some ⟨wB.heap.size, 0, none⟩) 1 1) ∧ w'.cell? ⟨wB.heap.size + 1, 4, none⟩ = some (.slice none 0 0) ∧ w'.cell? ⟨wB.heap.size + 1, 5, none⟩ = some (.slice none 0 0)) ∧ (w'.cell? ⟨wE.heap.size + 1, 0, none⟩ = some (.int .i64 11) ∧ w'.cell? ⟨wE.heap.size + 1, 1, none⟩ = some (.string ⟨#[]⟩) ∧ w'.cell? ⟨wE.heap.size + 1, 2, none⟩ = some (.int .i64 0) ∧ w'.cell? ⟨wE.heap.size + 1, 3, none⟩ = some (.slice (some ⟨wE.heap.size, 0, none⟩) 1 1) ∧ w'.cell? ⟨wE.heap.size + 1, 4, none⟩ = some (.slice none 0 0) ∧ w'.cell? ⟨wE.heap.size + 1, 5, none⟩ = some (.slice none 0 0)))) (by kernel_rfl) (HALL.out _ HG0.out).2 (fun hHeld => ?_)
 refine Plan.start [0, 1, 4] ?_
 iterate 3 ((refine Plan.take (v := ?_) (so rfl) (by kernel_rfl) (by kernel_rfl) (by kernel_rfl) (fun _ _ _ h => h) (Or.inl ⟨by rfl, ?_⟩) hHeld ?_; rotate_left; focus (intro w' hSw; (try dsimp only at hSw); go_simp; try with_reducible rfl)); try simp only [Act.put, List.setIfInBounds_toArray, List.set_cons_zero, List.set_cons_succ])
 refine Plan.done ?_
 refine wpAnyH_ready (rs := [2]) (by kernel_rfl) (by simp) ?_
 refine AllReadyH.cons (sd (some 46) rfl) (fun Kx hK => ?_) AllReadyH.nil
 go_simp
 generalize hW : (wG.alloc (.cells #[.int .i64 11, .string ⟨#[]⟩, .int .i64 0, .slice (some ⟨w6.heap.size, 0, none⟩) 1 1, .slice none 0 0, .slice none 0 0, .int .i64 11, .string ⟨#[]⟩, .int .i64 0, .slice (some ⟨wB.heap.size, 0, none⟩) 1 1, .slice none 0 0, .slice none 0 0] 26)).drew = wH
 have hb : Below wG.heap.size wG wH := by rw [← hW]; exact ((Below.refl _ _).alloc (Nat.le_refl _) _).drew
 have rs : wH.heap[wG.heap.size]? = some (.cells #[.int .i64 11, .string ⟨#[]⟩, .int .i64 0, .slice (some ⟨w6.heap.size, 0, none⟩) 1 1, .slice none 0 0, .slice none 0 0, .int .i64 11, .string ⟨#[]⟩, .int .i64 0, .slice (some ⟨wB.heap.size, 0, none⟩) 1 1, .slice none 0 0, .slice none 0 0] 26 (0, 0)) := by rw [← hW]; exact heap_alloc_new wG _
 have HBh := Lib.hid hb
 have HXH := Lib.hid rs
 clear hW hb rs
 refine hK.out _ _ ((HALL.out _ HBh.out).2) (fun hHeld => ?_)
 clear hK Kx
 try simp only [Act.put, List.setIfInBounds_toArray, List.set_cons_zero, List.set_cons_succ]
 refine wpAnyH_ready (rs := [3]) (by kernel_rfl) (by simp) ?_
 refine AllReadyH.cons (sd (some 47) rfl) (fun Kx hK => ?_) AllReadyH.nil
 go_simp
 refine (uni2_ref (HRAA.out _ HBh.out) (HRBB.out _ HBh.out) HXH.out (form_arrT HFT.out) (form_arrT HFU.out) (by rw [cnt_arrT]; have := HCNT.out; omega) (by rw [cnt_arrT]; have := HCNT.out; omega)).mono ?_
 rintro e wI ⟨rs, rfl, hrT, hb⟩
 have HBi := Lib.hid (HBh.out.trans (hb.mono HBh.out.size))
 have HRT1 := Lib.hid (RepT.low _ _ hrT)
 clear hrT hb
 go_wp2_with fail
 refine hK.out _ _ ((HALL.out _ HBi.out).2) (fun hHeld => ?_)
 clear hK Kx
 try simp only [Act.put, List.setIfInBounds_toArray, List.set_cons_zero, List.set_cons_succ]
 refine wpAnyH_ready (rs := [5]) (by kernel_rfl) (by simp) ?_
 refine AllReadyH.cons (sd (some 49) rfl) (fun Kx hK => ?_) AllReadyH.nil
 go_simp
 refine (HKG1.out _ _ _ HRT1.out (HRPP.out _ HBi.out)).mono ?_
 rintro e wJ he
 obtain ⟨g, cg, rs1, rfl, hb, hc, hr1⟩ := cg_out he
 rw [HG1.out] at hr1
 obtain ⟨A1, c1, B1, d1, C1, e1, rfl, -⟩ := hr1.inv
 simp only [cells6T] at hc hr1
 have HBj := Lib.hid (HBi.out.trans (hb.mono HBi.out.size))
 have HC1 := Lib.hid hc
 have HR1 := Lib.hid hr1
 clear he hb hc hr1
 go_wp2_with fail
 refine hK.out _ _ ((HALL.out _ HBj.out).2) (fun hHeld => ?_)
 clear hK Kx
 try simp only [Act.put, List.setIfInBounds_toArray, List.set_cons_zero, List.set_cons_succ]
 refine Plan.start [6, 7, 8, 9, 10] ?_
 iterate 5 ((refine Plan.take (v := ?_) (so rfl) (by kernel_rfl) (by kernel_rfl) (by kernel_rfl) (fun _ _ _ h => h) (Or.inl ⟨by rfl, ?_⟩) hHeld ?_; rotate_left; focus (intro w' hSw; (try dsimp only at hSw); go_simp; try with_reducible rfl)); try simp only [Act.put, List.setIfInBounds_toArray, List.set_cons_zero, List.set_cons_succ])
 refine Plan.done ?_
 refine wpAnyH_done (by kernel_rfl) ?_ _
 clear hHeld
 obtain ⟨⟨⟨x0, x1, x2, x3, x4, x5⟩, ⟨y0, y1, y2, y3, y4, y5⟩⟩, -, -, ⟨z0, z1, z2, z3, z4, z5⟩⟩ := HALL.out _ HBj.out
 have hz : wE.heap.size + 1 < wJ.heap.size := World.block_lt_of_cell? _ _ z0
 obtain ⟨wK, hwK⟩ : ∃ x, x = (wJ.alloc (.cells #[.int .i64 k, .string s, .int .i64 n, .slice A ps.length c, .slice A' fs.length c', .slice A'' vs.length c'', .int .i64 k3, .string s3, .int .i64 n3, .slice A3 ps3.length c3, .slice B3 fs3.length d3, .slice C3 vs3.length e3] 26)) := ⟨_, rfl⟩
 have hbK : Below wJ.heap.size wJ wK := by rw [hwK]; exact (Below.refl _ _).alloc (Nat.le_refl _) _
 have hxK : wK.heap[wJ.heap.size]? = some (.cells #[.int .i64 k, .string s, .int .i64 n, .slice A ps.length c, .slice A' fs.length c', .slice A'' vs.length c'', .int .i64 k3, .string s3, .int .i64 n3, .slice A3 ps3.length c3, .slice B3 fs3.length d3, .slice C3 vs3.length e3] 26 (0, 0)) := by rw [hwK]; exact heap_alloc_new wJ _
 have HBk := Lib.hid (HBj.out.trans (hbK.mono HBj.out.size))
 have hrt := rep_tup (HRTT.out _ HBk.out) (HRUU.out _ HBk.out) (fun _ h => h) hxK
 have HRT2 := Lib.hid hrt
 have HBJK := Lib.hid hbK
 have HWK := Lib.hid hwK
 clear hwK hbK hxK hrt
 go_wp2_with fail
 rw [← HWK.out]
 clear HWK hz
 refine (HKG2.out _ _ _ HRT2.out (HRPP.out _ HBk.out)).mono ?_
 rintro e wL he
 obtain ⟨g2, cg2, rs2, rfl, hb, hc, hr2⟩ := cg_out he
 rw [HG2.out] at hr2
 obtain ⟨A2, c2, B2, d2, C2, e2, rfl, -⟩ := hr2.inv
 simp only [cells6T] at hc hr2
 have HBl := Lib.hid (HBk.out.trans (hb.mono HBk.out.size))
 have HBJL := Lib.hid (HBJK.out.trans (hb.mono HBJK.out.size))
 have HC2 := Lib.hid hc
 have HR2 := Lib.hid hr2
 clear he hb hc hr2 x0 y0 z0 x1 y1 z1 x2 y2 z2 x3 y3 z3 x4 y4 z4 x5 y5 z5
 obtain ⟨⟨⟨x0, x1, x2, x3, x4, x5⟩, ⟨y0, y1, y2, y3, y4, y5⟩⟩, -, -, -⟩ := HALL.out _ HBl.out
 obtain ⟨wM, hwM⟩ : ∃ x, x = (wL.alloc (.cells #[.int .i64 k, .string s, .int .i64 n, .slice A ps.length c, .slice A' fs.length c', .slice A'' vs.length c'', .int .i64 k3, .string s3, .int .i64 n3, .slice A3 ps3.length c3, .slice B3 fs3.length d3, .slice C3 vs3.length e3] 26)) := ⟨_, rfl⟩
 have hbM : Below wL.heap.size wL wM := by rw [hwM]; exact (Below.refl _ _).alloc (Nat.le_refl _) _
 have hxM : wM.heap[wL.heap.size]? = some (.cells #[.int .i64 k, .string s, .int .i64 n, .slice A ps.length c, .slice A' fs.length c', .slice A'' vs.length c'', .int .i64 k3, .string s3, .int .i64 n3, .slice A3 ps3.length c3, .slice B3 fs3.length d3, .slice C3 vs3.length e3] 26 (0, 0)) := by rw [hwM]; exact heap_alloc_new wL _
 have HBm := Lib.hid (HBl.out.trans (hbM.mono HBl.out.size))
 have HBLM := Lib.hid hbM
 have HXM := Lib.hid hxM
 have HWM := Lib.hid hwM
 clear hwM hbM hxM
 go_wp2_with fail
 rw [← HWM.out]
 clear HWM
 refine (uni2_ref (HRTT.out _ HBm.out) (HRUU.out _ HBm.out) HXM.out HFT.out HFU.out (by have := HCNT.out; omega) (by have := HCNT.out; omega)).mono ?_
 rintro e wN ⟨rs3, rfl, hr3, hb⟩
 rw [HUN.out] at hr3
 obtain ⟨A5, c5, B5, d5, C5, e5, rfl, -⟩ := hr3.inv
 simp only [cells6T] at hr3 ⊢
 obtain ⟨wO, hwO⟩ : ∃ x, x = (wN.alloc (.cells #[.int .i64 ku, .string su, .int .i64 nu, .slice A5 pu.length c5, .slice B5 fu.length d5, .slice C5 vu.length e5] 26)) := ⟨_, rfl⟩
 have hbO : Below wN.heap.size wN wO := by rw [hwO]; exact (Below.refl _ _).alloc (Nat.le_refl _) _
 have hxO : wO.heap[wN.heap.size]? = some (.cells #[.int .i64 ku, .string su, .int .i64 nu, .slice A5 pu.length c5, .slice B5 fu.length d5, .slice C5 vu.length e5] 26 (0, 0)) := by rw [hwO]; exact heap_alloc_new wN _
 have HBLO := Lib.hid (HBLM.out.trans ((hb.trans (hbO.mono hb.size)).mono HBLM.out.size))
 have HBo := Lib.hid (HBl.out.trans (HBLO.out.mono HBl.out.size))
 have HBJO := Lib.hid (HBJL.out.trans (HBLO.out.mono HBJL.out.size))
 have HSX : Hid (∀ wx, Below wO.heap.size wO wx → (wx.cell? ⟨g, 1, none⟩ = some (.int .i64 ku) ∧ wx.cell? ⟨g, 2, none⟩ = some (.string su) ∧ wx.cell? ⟨g, 3, none⟩ = some (.int .i64 nu) ∧ wx.cell? ⟨g, 4, none⟩ = some (.slice A1 pu.length c1) ∧ wx.cell? ⟨g, 5, none⟩ = some (.slice B1 fu.length d1) ∧ wx.cell? ⟨g, 6, none⟩ = some (.slice C1 vu.length e1)) ∧ (wx.cell? ⟨g2, 1, none⟩ = some (.int .i64 ku) ∧ wx.cell? ⟨g2, 2, none⟩ = some (.string su) ∧ wx.cell? ⟨g2, 3, none⟩ = some (.int .i64 nu) ∧ wx.cell? ⟨g2, 4, none⟩ = some (.slice A2 pu.length c2) ∧ wx.cell? ⟨g2, 5, none⟩ = some (.slice B2 fu.length d2) ∧ wx.cell? ⟨g2, 6, none⟩ = some (.slice C2 vu.length e2)) ∧ (wx.cell? ⟨wN.heap.size, 0, none⟩ = some (.int .i64 ku) ∧ wx.cell? ⟨wN.heap.size, 1, none⟩ = some (.string su) ∧ wx.cell? ⟨wN.heap.size, 2, none⟩ = some (.int .i64 nu) ∧ wx.cell? ⟨wN.heap.size, 3, none⟩ = some (.slice A5 pu.length c5) ∧ wx.cell? ⟨wN.heap.size, 4, none⟩ = some (.slice B5 fu.length d5) ∧ wx.cell? ⟨wN.heap.size, 5, none⟩ = some (.slice C5 vu.length e5))) := Lib.hid fun wx hx => by
  have h3 := box_up hx (Array.getElem?_eq_some_iff.1 hxO).1 hxO
  have q1 := HBJO.out.trans (hx.mono HBJO.out.size)
  have q2 := HBLO.out.trans (hx.mono HBLO.out.size)
  exact ⟨⟨cell_stays q1 (HC1.out 1 _ rfl), cell_stays q1 (HC1.out 2 _ rfl), cell_stays q1 (HC1.out 3 _ rfl), cell_stays q1 (HC1.out 4 _ rfl), cell_stays q1 (HC1.out 5 _ rfl), cell_stays q1 (HC1.out 6 _ rfl)⟩, ⟨cell_stays q2 (HC2.out 1 _ rfl), cell_stays q2 (HC2.out 2 _ rfl), cell_stays q2 (HC2.out 3 _ rfl), cell_stays q2 (HC2.out 4 _ rfl), cell_stays q2 (HC2.out 5 _ rfl), cell_stays q2 (HC2.out 6 _ rfl)⟩, Lib.cell_of_heap h3 0, Lib.cell_of_heap h3 1, Lib.cell_of_heap h3 2, Lib.cell_of_heap h3 3, Lib.cell_of_heap h3 4, Lib.cell_of_heap h3 5⟩
 have HS1 := Lib.hid fun (wx : World) (hx : Below wO.heap.size wO wx) => same14 (HR1.out.later (HBJO.out.trans (hx.mono HBJO.out.size))) ((hr3.later hbO).later hx)
 have HS2 := Lib.hid fun (wx : World) (hx : Below wO.heap.size wO wx) => same14 (HR2.out.later (HBLO.out.trans (hx.mono HBLO.out.size))) ((hr3.later hbO).later hx)
 have HO0 := Lib.hid (Below.refl wO.heap.size wO).drew
 have HWO := Lib.hid hwO
 clear hwO hbO hxO hr3 hb x0 y0 x1 y1 x2 y2 x3 y3 x4 y4 x5 y5
 go_upto_region 9 with fail
 rw [← HWO.out]
 clear HWO
 refine wp_region_held_drew (S := (fun w' => (w'.cell? ⟨g, 1, none⟩ = some (.int .i64 ku) ∧ w'.cell? ⟨g, 2, none⟩ = some (.string su) ∧ w'.cell? ⟨g, 3, none⟩ = some (.int .i64 nu) ∧ w'.cell? ⟨g, 4, none⟩ = some (.slice A1 pu.length c1) ∧ w'.cell? ⟨g, 5, none⟩ = some (.slice B1 fu.length d1) ∧ w'.cell? ⟨g, 6, none⟩ = some (.slice C1 vu.length e1)) ∧ (w'.cell? ⟨g2, 1, none⟩ = some (.int .i64 ku) ∧ w'.cell? ⟨g2, 2, none⟩ = some (.string su) ∧ w'.cell? ⟨g2, 3, none⟩ = some (.int .i64 nu) ∧ w'.cell? ⟨g2, 4, none⟩ = some (.slice A2 pu.length c2) ∧ w'.cell? ⟨g2, 5, none⟩ = some (.slice B2 fu.length d2) ∧ w'.cell? ⟨g2, 6, none⟩ = some (.slice C2 vu.length e2)) ∧ (w'.cell? ⟨wN.heap.size, 0, none⟩ = some (.int .i64 ku) ∧ w'.cell? ⟨wN.heap.size, 1, none⟩ = some (.string su) ∧ w'.cell? ⟨wN.heap.size, 2, none⟩ = some (.int .i64 nu) ∧ w'.cell? ⟨wN.heap.size, 3, none⟩ = some (.slice A5 pu.length c5) ∧ w'.cell? ⟨wN.heap.size, 4, none⟩ = some (.slice B5 fu.length d5) ∧ w'.cell? ⟨wN.heap.size, 5, none⟩ = some (.slice C5 vu.length e5)))) (by kernel_rfl) (HSX.out _ HO0.out) (fun hHeld => ?_)
 refine Plan.start [0, 1, 2, 3, 4, 5, 6, 7, 8, 9, 10, 11, 12, 13, 14, 15, 16, 17, 18, 19, 20, 21] ?_
 iterate 22 ((refine Plan.take (v := ?_) (so rfl) (by kernel_rfl) (by kernel_rfl) (by kernel_rfl) (fun _ _ _ h => h) (Or.inl ⟨by rfl, ?_⟩) hHeld ?_; rotate_left; focus (intro w' hSw; (try dsimp only at hSw); go_simp; try with_reducible rfl)); try simp only [Act.put, List.setIfInBounds_toArray, List.set_cons_zero, List.set_cons_succ])
 refine Plan.done ?_
 refine wpAnyH_ready (rs := [22]) (by kernel_rfl) (by simp) ?_
 refine AllReadyH.cons (sd (some 87) rfl) (fun Kx hK => ?_) AllReadyH.nil
 go_simp
 refine (HS1.out _ HO0.out).mono ?_
 rintro e w91 ⟨he, hb⟩
 rw [ordT_zero.2 rfl] at he
 subst he
 have HO91 := Lib.hid (HO0.out.trans (hb.mono HO0.out.size))
 clear hb
 go_wp2_with fail
 refine hK.out _ _ (HSX.out _ HO91.out) (fun hHeld => ?_)
 clear hK Kx
 try simp only [Act.put, List.setIfInBounds_toArray, List.set_cons_zero, List.set_cons_succ]
 refine Plan.start [23, 24, 25, 26, 27, 28, 29] ?_
 iterate 7 ((refine Plan.take (v := ?_) (so rfl) (by kernel_rfl) (by kernel_rfl) (by kernel_rfl) (fun _ _ _ h => h) (Or.inl ⟨by rfl, ?_⟩) hHeld ?_; rotate_left; focus (intro w' hSw; (try dsimp only at hSw); go_simp; try with_reducible rfl)); try simp only [Act.put, List.setIfInBounds_toArray, List.set_cons_zero, List.set_cons_succ])
 refine Plan.done ?_
 refine wpAnyH_ready (rs := [30]) (by kernel_rfl) (by simp) ?_
 refine AllReadyH.cons (sd (some 95) rfl) (fun Kx hK => ?_) AllReadyH.nil
 go_simp
 refine (HS2.out _ HO91.out).mono ?_
 rintro e w92 ⟨he, hb⟩
 rw [ordT_zero.2 rfl] at he
 subst he
 have HO92 := Lib.hid (HO91.out.trans (hb.mono HO91.out.size))
 clear hb
 go_wp2_with fail
 refine hK.out _ _ (HSX.out _ HO92.out) (fun hHeld => ?_)
 clear hK Kx
 try simp only [Act.put, List.setIfInBounds_toArray, List.set_cons_zero, List.set_cons_succ]
 refine Plan.start [31, 32] ?_
 iterate 2 ((refine Plan.take (v := ?_) (so rfl) (by kernel_rfl) (by kernel_rfl) (by kernel_rfl) (fun _ _ _ h => h) (Or.inl ⟨by rfl, ?_⟩) hHeld ?_; rotate_left; focus (intro w' hSw; (try dsimp only at hSw); go_simp; try with_reducible rfl)); try simp only [Act.put, List.setIfInBounds_toArray, List.set_cons_zero, List.set_cons_succ])
 refine Plan.done ?_
 refine wpAnyH_done (by kernel_rfl) ?_ _
 clear hHeld
 go_wp2_with fail
 go_ret
 exact ⟨rfl, HB1.out.trans ((HBg.out.trans ((HBo.out.trans (HO92.out.mono HBo.out.size)).mono HBg.out.size)).mono HB1.out.size)⟩
theorem merges_walk {K K2 : Nat → Prop} {w : World} {t u : Ty} {cs ds : List Value} (hr : RepT K w t cs) (hp : RepT K2 w u ds) : Calls Tryz.prog 5 #[.agg cs.toArray, .agg ds.toArray] w (fun e w' => e = .returned (.bool true) ∧ Below w.heap.size w w') := by
 obtain ⟨k, s, n, ps, fs, vs⟩ := t
 obtain ⟨k3, s3, n3, ps3, fs3, vs3⟩ := u
 by_cases hsm : cntT (.mk k s n ps fs vs) + cntT (.mk k3 s3 n3 ps3 fs3 vs3) ≤ 300
 ·cases hfa : formedT (.mk k s n ps fs vs) with
  | false => exact merges_fa k s n ps fs vs k3 s3 n3 ps3 fs3 vs3 hr hp hsm hfa
  | true =>
   cases hfb : formedT (.mk k3 s3 n3 ps3 fs3 vs3) with
   | false => exact merges_fb k s n ps fs vs k3 s3 n3 ps3 fs3 vs3 hr hp hsm hfa hfb
   | true => exact merges_m k s n ps fs vs k3 s3 n3 ps3 fs3 vs3 hr hp hsm hfa hfb
 ·exact merges_s k s n ps fs vs k3 s3 n3 ps3 fs3 vs3 hr hp hsm
end Go.Proofs.YtlooadichhpgeaaGreatDoor
