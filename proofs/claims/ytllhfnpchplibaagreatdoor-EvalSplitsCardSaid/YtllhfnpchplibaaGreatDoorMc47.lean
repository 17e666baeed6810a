import Derived.Test.YtllhfnpchplibaaGreatDoorMc46
namespace Go.Proofs.YtllhfnpchplibaaGreatDoor
open Go.RowKit
set_option maxRecDepth 100000 in
set_option maxHeartbeats 64000000 in
theorem split_k1 {K K2 K3 : Nat → Prop} {w : World} (k : Int) (s : ByteArray) (n : Int) (ps : List Ty) (fs : List (ByteArray × Int × Ty)) (vs : List (ByteArray × List Ty)) (k3 : Int) (s3 : ByteArray) (n3 : Int) (ps3 : List Ty) (fs3 : List (ByteArray × Int × Ty)) (vs3 : List (ByteArray × List Ty)) (k9 : Int) (s9 : ByteArray) (n9 : Int) (ps9 : List Ty) (fs9 : List (ByteArray × Int × Ty)) (vs9 : List (ByteArray × List Ty)) {cs ds us : List Value} (hr : RepT K w (.mk k s n ps fs vs) cs) (hp : RepT K2 w (.mk k3 s3 n3 ps3 fs3 vs3) ds) (hu : RepT K3 w (.mk k9 s9 n9 ps9 fs9 vs9) us) (hsm : cntT (.mk k s n ps fs vs) + cntT (.mk k3 s3 n3 ps3 fs3 vs3) + cntT (.mk k9 s9 n9 ps9 fs9 vs9) ≤ 300) (hfa : formedT (.mk k s n ps fs vs) = true) (hfb : formedT (.mk k3 s3 n3 ps3 fs3 vs3) = true) (hfk : formedT (.mk k9 s9 n9 ps9 fs9 vs9) = true) (h1 : k = 3) : Calls Tryz.prog 3 #[.agg cs.toArray, .agg ds.toArray, .agg us.toArray] w (fun e w' => e = .returned (.bool true) ∧ Below w.heap.size w w') := by
 refine split_pre hr hp hu fun A c A' c' A'' c'' A3 c3 B3 d3 C3 e3 A9 c9 B9 d9 C9 e9 w1 h => ?_
 clear hr hp hu
 obtain ⟨HBX, HB1, HS1, HW1, HR, HP, HU⟩ := h
 have KAw := Lib.hid fun wx => awake13 wx
 obtain ⟨X, hX, kx⟩ := nod_later HR.out HB1.out
 obtain ⟨Y, hY, ky⟩ := nod_later HP.out HB1.out
 obtain ⟨Z, hZ, kz⟩ := nod_later HU.out HB1.out
 have KX := Lib.hid kx
 have KY := Lib.hid ky
 have KZ := Lib.hid kz
 have w12 : wrap64 (X + Y) = X + Y := wrap_in (by omega) (by omega)
 have w123 : wrap64 (X + Y + Z) = X + Y + Z := wrap_in (by omega) (by omega)
 have v12 : IntKind.i64.wrap (X + Y) = X + Y := (wrap_kind _).trans w12
 have v123 : IntKind.i64.wrap (X + Y + Z) = X + Y + Z := (wrap_kind _).trans w123
 have g1 : decide ((300 : Int) < X + Y + Z) = false := decide_eq_false (by omega)
 have g2 : ¬ (300 : Int) < X + Y + Z := by omega
 have kfa := fun (wx : World) (hx : Below w1.heap.size w1 wx) => formed_ref (HR.out.later (HB1.out.trans (hx.mono HB1.out.size)))
 rw [hfa] at kfa
 have KFa := Lib.hid kfa
 clear kfa hfa
 have kfb := fun (wx : World) (hx : Below w1.heap.size w1 wx) => formed_ref (HP.out.later (HB1.out.trans (hx.mono HB1.out.size)))
 rw [hfb] at kfb
 have KFb := Lib.hid kfb
 clear kfb hfb
 have kfk := fun (wx : World) (hx : Below w1.heap.size w1 wx) => formed_ref (HU.out.later (HB1.out.trans (hx.mono HB1.out.size)))
 rw [hfk] at kfk
 have KFk := Lib.hid kfk
 clear kfk hfk
 have e_k_3 : (k == 3) = true := beq_iff_eq.2 (by omega)
 clear h1
 clear kx ky kz hX hY hZ hsm
 go_enter Tryz.func3, Tryz.ntmps3
 go_upto_region 1 with fail
 rw [← HW1.out]
 refine wp_region_held_drew (S := (fun w' => (w'.cell? ⟨w.heap.size, 0, none⟩ = some (.int .i64 k) ∧ w'.cell? ⟨w.heap.size, 1, none⟩ = some (.string s) ∧ w'.cell? ⟨w.heap.size, 2, none⟩ = some (.int .i64 n) ∧ w'.cell? ⟨w.heap.size, 3, none⟩ = some (.slice A ps.length c) ∧ w'.cell? ⟨w.heap.size, 4, none⟩ = some (.slice A' fs.length c') ∧ w'.cell? ⟨w.heap.size, 5, none⟩ = some (.slice A'' vs.length c'')) ∧ (w'.cell? ⟨w.heap.size + 1, 0, none⟩ = some (.int .i64 k3) ∧ w'.cell? ⟨w.heap.size + 1, 1, none⟩ = some (.string s3) ∧ w'.cell? ⟨w.heap.size + 1, 2, none⟩ = some (.int .i64 n3) ∧ w'.cell? ⟨w.heap.size + 1, 3, none⟩ = some (.slice A3 ps3.length c3) ∧ w'.cell? ⟨w.heap.size + 1, 4, none⟩ = some (.slice B3 fs3.length d3) ∧ w'.cell? ⟨w.heap.size + 1, 5, none⟩ = some (.slice C3 vs3.length e3)) ∧ (w'.cell? ⟨w.heap.size + 2, 0, none⟩ = some (.int .i64 k9) ∧ w'.cell? ⟨w.heap.size + 2, 1, none⟩ = some (.string s9) ∧ w'.cell? ⟨w.heap.size + 2, 2, none⟩ = some (.int .i64 n9) ∧ w'.cell? ⟨w.heap.size + 2, 3, none⟩ = some (.slice A9 ps9.length c9) ∧ w'.cell? ⟨w.heap.size + 2, 4, none⟩ = some (.slice B9 fs9.length d9) ∧ w'.cell? ⟨w.heap.size + 2, 5, none⟩ = some (.slice C9 vs9.length e9)))) (by kernel_rfl) (HBX.out _ (Below.refl _ _).drew) (fun hHeld => ?_)
 refine wpAnyH_ready (rs := [0]) (by kernel_rfl) (by simp) ?_
 refine AllReadyH.cons (sd (some 15) rfl) (fun Kx hK => ?_) AllReadyH.nil
 go_simp
 refine (KAw.out _).mono ?_
 rintro e w2 ⟨rfl, hb⟩
 have HB2 := Lib.hid (((Below.refl w1.heap.size w1).drew).trans (hb.mono ((Below.refl w1.heap.size w1).drew).size))
 clear hb
 go_wp2_with fail
 refine hK.out _ _ (HBX.out _ HB2.out) (fun hHeld => ?_)
 clear hK Kx
 try simp only [Act.put, List.setIfInBounds_toArray, List.set_cons_zero, List.set_cons_succ]
 refine Plan.start [1, 2, 3, 5, 8] ?_
 iterate 5 ((refine Plan.take (v := ?_) (so rfl) (by kernel_rfl) (by kernel_rfl) (by kernel_rfl) (fun _ _ _ h => h) (Or.inl ⟨by rfl, ?_⟩) hHeld ?_; rotate_left; focus (intro w' hSw; (try dsimp only at hSw); go_simp; try with_reducible rfl)); try simp only [Act.put, List.setIfInBounds_toArray, List.set_cons_zero, List.set_cons_succ])
 refine Plan.done ?_
 refine wpAnyH_ready (rs := [4]) (by kernel_rfl) (by simp) ?_
 refine AllReadyH.cons (sd (some 19) rfl) (fun Kx hK => ?_) AllReadyH.nil
 go_simp
 refine (KX.out _ HB2.out).mono ?_
 rintro e w3 ⟨rfl, hb⟩
 have HB3 := Lib.hid ((HB2.out).trans (hb.mono (HB2.out).size))
 clear hb
 go_wp2_with fail
 refine hK.out _ _ (HBX.out _ HB3.out) (fun hHeld => ?_)
 clear hK Kx
 try simp only [Act.put, List.setIfInBounds_toArray, List.set_cons_zero, List.set_cons_succ]
 refine wpAnyH_ready (rs := [6]) (by kernel_rfl) (by simp) ?_
 refine AllReadyH.cons (sd (some 21) rfl) (fun Kx hK => ?_) AllReadyH.nil
 go_simp
 refine (KY.out _ HB3.out).mono ?_
 rintro e w4 ⟨rfl, hb⟩
 have HB4 := Lib.hid ((HB3.out).trans (hb.mono (HB3.out).size))
 clear hb
 go_wp2_with fail
 refine hK.out _ _ (HBX.out _ HB4.out) (fun hHeld => ?_)
 clear hK Kx
 try simp only [Act.put, List.setIfInBounds_toArray, List.set_cons_zero, List.set_cons_succ]
 refine wpAnyH_take (i := 7) (v := ?_) (sd (some 22) rfl) (by kernel_rfl) (by kernel_rfl) (by kernel_rfl) (fun _ _ _ h => h) (Or.inl ⟨by rfl, ?_⟩) hHeld ?_
 rotate_left
 ·intro w' hSw
  (try dsimp only at hSw)
  go_simp
  try with_reducible rfl
 try simp only [Act.put, List.setIfInBounds_toArray, List.set_cons_zero, List.set_cons_succ]
 refine wpAnyH_ready (rs := [9]) (by kernel_rfl) (by simp) ?_
 refine AllReadyH.cons (sd (some 24) rfl) (fun Kx hK => ?_) AllReadyH.nil
 go_simp
 refine (KZ.out _ HB4.out).mono ?_
 rintro e w5 ⟨rfl, hb⟩
 have HB5 := Lib.hid ((HB4.out).trans (hb.mono (HB4.out).size))
 clear hb
 go_wp2_with fail
 refine hK.out _ _ (HBX.out _ HB5.out) (fun hHeld => ?_)
 clear hK Kx
 try simp only [Act.put, List.setIfInBounds_toArray, List.set_cons_zero, List.set_cons_succ]
 refine Plan.start [10, 11, 12, 13, 14] ?_
 iterate 5 ((refine Plan.take (v := ?_) (so rfl) (by kernel_rfl) (by kernel_rfl) (by kernel_rfl) (fun _ _ _ h => h) (Or.inl ⟨by rfl, ?_⟩) hHeld ?_; rotate_left; focus (intro w' hSw; (try dsimp only at hSw); go_simp; try with_reducible rfl)); try simp only [Act.put, List.setIfInBounds_toArray, List.set_cons_zero, List.set_cons_succ])
 refine Plan.done ?_
 refine wpAnyH_ready (rs := [15]) (by kernel_rfl) (by simp) ?_
 refine AllReadyH.cons (sd (some 30) rfl) (fun Kx hK => ?_) AllReadyH.nil
 go_simp
 refine (KFa.out _ HB5.out).mono ?_
 rintro e w6 ⟨rfl, hb⟩
 have HB6 := Lib.hid ((HB5.out).trans (hb.mono (HB5.out).size))
 clear hb
 go_wp2_with fail
 refine hK.out _ _ (HBX.out _ HB6.out) (fun hHeld => ?_)
 clear hK Kx
 try simp only [Act.put, List.setIfInBounds_toArray, List.set_cons_zero, List.set_cons_succ]
 refine Plan.start [16, 17, 18, 19] ?_
 iterate 4 ((refine Plan.take (v := ?_) (so rfl) (by kernel_rfl) (by kernel_rfl) (by kernel_rfl) (fun _ _ _ h => h) (Or.inl ⟨by rfl, ?_⟩) hHeld ?_; rotate_left; focus (intro w' hSw; (try dsimp only at hSw); go_simp; try with_reducible rfl)); try simp only [Act.put, List.setIfInBounds_toArray, List.set_cons_zero, List.set_cons_succ])
 refine Plan.done ?_
 refine wpAnyH_ready (rs := [20]) (by kernel_rfl) (by simp) ?_
 refine AllReadyH.cons (sd (some 35) rfl) (fun Kx hK => ?_) AllReadyH.nil
 go_simp
 refine (KFb.out _ HB6.out).mono ?_
 rintro e w7 ⟨rfl, hb⟩
 have HB7 := Lib.hid ((HB6.out).trans (hb.mono (HB6.out).size))
 clear hb
 go_wp2_with fail
 refine hK.out _ _ (HBX.out _ HB7.out) (fun hHeld => ?_)
 clear hK Kx
 try simp only [Act.put, List.setIfInBounds_toArray, List.set_cons_zero, List.set_cons_succ]
 refine Plan.start [21, 22, 23, 24] ?_
 iterate 4 ((refine Plan.take (v := ?_) (so rfl) (by kernel_rfl) (by kernel_rfl) (by kernel_rfl) (fun _ _ _ h => h) (Or.inl ⟨by rfl, ?_⟩) hHeld ?_; rotate_left; focus (intro w' hSw; (try dsimp only at hSw); go_simp; try with_reducible rfl)); try simp only [Act.put, List.setIfInBounds_toArray, List.set_cons_zero, List.set_cons_succ])
 refine Plan.done ?_
 refine wpAnyH_ready (rs := [25]) (by kernel_rfl) (by simp) ?_
 refine AllReadyH.cons (sd (some 40) rfl) (fun Kx hK => ?_) AllReadyH.nil
 go_simp
 refine (KFk.out _ HB7.out).mono ?_
 rintro e w8 ⟨rfl, hb⟩
 have HB8 := Lib.hid ((HB7.out).trans (hb.mono (HB7.out).size))
 clear hb
 go_wp2_with fail
 refine hK.out _ _ (HBX.out _ HB8.out) (fun hHeld => ?_)
 clear hK Kx
 try simp only [Act.put, List.setIfInBounds_toArray, List.set_cons_zero, List.set_cons_succ]
 refine Plan.start [26, 27] ?_
 iterate 2 ((refine Plan.take (v := ?_) (so rfl) (by kernel_rfl) (by kernel_rfl) (by kernel_rfl) (fun _ _ _ h => h) (Or.inl ⟨by rfl, ?_⟩) hHeld ?_; rotate_left; focus (intro w' hSw; (try dsimp only at hSw); go_simp; try with_reducible rfl)); try simp only [Act.put, List.setIfInBounds_toArray, List.set_cons_zero, List.set_cons_succ])
 refine Plan.done ?_
 refine wpAnyH_done (by kernel_rfl) ?_ _
 clear hHeld
 obtain ⟨⟨x0, x1, x2, x3, x4, x5⟩, ⟨y0, y1, y2, y3, y4, y5⟩, ⟨u0, u1, u2, u3, u4, u5⟩⟩ := HBX.out _ HB8.out
 go_wp2_with fail
 go_ret
 exact ⟨rfl, HB1.out.trans ((HB8.out).mono HB1.out.size)⟩
set_option maxRecDepth 100000 in
set_option maxHeartbeats 64000000 in
theorem split_k2 {K K2 K3 : Nat → Prop} {w : World} (k : Int) (s : ByteArray) (n : Int) (ps : List Ty) (fs : List (ByteArray × Int × Ty)) (vs : List (ByteArray × List Ty)) (k3 : Int) (s3 : ByteArray) (n3 : Int) (ps3 : List Ty) (fs3 : List (ByteArray × Int × Ty)) (vs3 : List (ByteArray × List Ty)) (k9 : Int) (s9 : ByteArray) (n9 : Int) (ps9 : List Ty) (fs9 : List (ByteArray × Int × Ty)) (vs9 : List (ByteArray × List Ty)) {cs ds us : List Value} (hr : RepT K w (.mk k s n ps fs vs) cs) (hp : RepT K2 w (.mk k3 s3 n3 ps3 fs3 vs3) ds) (hu : RepT K3 w (.mk k9 s9 n9 ps9 fs9 vs9) us) (hsm : cntT (.mk k s n ps fs vs) + cntT (.mk k3 s3 n3 ps3 fs3 vs3) + cntT (.mk k9 s9 n9 ps9 fs9 vs9) ≤ 300) (hfa : formedT (.mk k s n ps fs vs) = true) (hfb : formedT (.mk k3 s3 n3 ps3 fs3 vs3) = true) (hfk : formedT (.mk k9 s9 n9 ps9 fs9 vs9) = true) (h1 : k ≠ 3) (h2 : k3 = 3) : Calls Tryz.prog 3 #[.agg cs.toArray, .agg ds.toArray, .agg us.toArray] w (fun e w' => e = .returned (.bool true) ∧ Below w.heap.size w w') := by
 refine split_pre hr hp hu fun A c A' c' A'' c'' A3 c3 B3 d3 C3 e3 A9 c9 B9 d9 C9 e9 w1 h => ?_
 clear hr hp hu
 obtain ⟨HBX, HB1, HS1, HW1, HR, HP, HU⟩ := h
 have KAw := Lib.hid fun wx => awake13 wx
 obtain ⟨X, hX, kx⟩ := nod_later HR.out HB1.out
 obtain ⟨Y, hY, ky⟩ := nod_later HP.out HB1.out
 obtain ⟨Z, hZ, kz⟩ := nod_later HU.out HB1.out
 have KX := Lib.hid kx
 have KY := Lib.hid ky
 have KZ := Lib.hid kz
 have w12 : wrap64 (X + Y) = X + Y := wrap_in (by omega) (by omega)
 have w123 : wrap64 (X + Y + Z) = X + Y + Z := wrap_in (by omega) (by omega)
 have v12 : IntKind.i64.wrap (X + Y) = X + Y := (wrap_kind _).trans w12
 have v123 : IntKind.i64.wrap (X + Y + Z) = X + Y + Z := (wrap_kind _).trans w123
 have g1 : decide ((300 : Int) < X + Y + Z) = false := decide_eq_false (by omega)
 have g2 : ¬ (300 : Int) < X + Y + Z := by omega
 have kfa := fun (wx : World) (hx : Below w1.heap.size w1 wx) => formed_ref (HR.out.later (HB1.out.trans (hx.mono HB1.out.size)))
 rw [hfa] at kfa
 have KFa := Lib.hid kfa
 clear kfa hfa
 have kfb := fun (wx : World) (hx : Below w1.heap.size w1 wx) => formed_ref (HP.out.later (HB1.out.trans (hx.mono HB1.out.size)))
 rw [hfb] at kfb
 have KFb := Lib.hid kfb
 clear kfb hfb
 have kfk := fun (wx : World) (hx : Below w1.heap.size w1 wx) => formed_ref (HU.out.later (HB1.out.trans (hx.mono HB1.out.size)))
 rw [hfk] at kfk
 have KFk := Lib.hid kfk
 clear kfk hfk
 have e_k_3 : (k == 3) = false := beq_eq_false_iff_ne.2 (by omega)
 have e_k3_3 : (k3 == 3) = true := beq_iff_eq.2 (by omega)
 clear h1 h2
 clear kx ky kz hX hY hZ hsm
 go_enter Tryz.func3, Tryz.ntmps3
 go_upto_region 1 with fail
 rw [← HW1.out]
 refine wp_region_held_drew (S := (fun w' => (w'.cell? ⟨w.heap.size, 0, none⟩ = some (.int .i64 k) ∧ w'.cell? ⟨w.heap.size, 1, none⟩ = some (.string s) ∧ w'.cell? ⟨w.heap.size, 2, none⟩ = some (.int .i64 n) ∧ w'.cell? ⟨w.heap.size, 3, none⟩ = some (.slice A ps.length c) ∧ w'.cell? ⟨w.heap.size, 4, none⟩ = some (.slice A' fs.length c') ∧ w'.cell? ⟨w.heap.size, 5, none⟩ = some (.slice A'' vs.length c'')) ∧ (w'.cell? ⟨w.heap.size + 1, 0, none⟩ = some (.int .i64 k3) ∧ w'.cell? ⟨w.heap.size + 1, 1, none⟩ = some (.string s3) ∧ w'.cell? ⟨w.heap.size + 1, 2, none⟩ = some (.int .i64 n3) ∧ w'.cell? ⟨w.heap.size + 1, 3, none⟩ = some (.slice A3 ps3.length c3) ∧ w'.cell? ⟨w.heap.size + 1, 4, none⟩ = some (.slice B3 fs3.length d3) ∧ w'.cell? ⟨w.heap.size + 1, 5, none⟩ = some (.slice C3 vs3.length e3)) ∧ (w'.cell? ⟨w.heap.size + 2, 0, none⟩ = some (.int .i64 k9) ∧ w'.cell? ⟨w.heap.size + 2, 1, none⟩ = some (.string s9) ∧ w'.cell? ⟨w.heap.size + 2, 2, none⟩ = some (.int .i64 n9) ∧ w'.cell? ⟨w.heap.size + 2, 3, none⟩ = some (.slice A9 ps9.length c9) ∧ w'.cell? ⟨w.heap.size + 2, 4, none⟩ = some (.slice B9 fs9.length d9) ∧ w'.cell? ⟨w.heap.size + 2, 5, none⟩ = some (.slice C9 vs9.length e9)))) (by kernel_rfl) (HBX.out _ (Below.refl _ _).drew) (fun hHeld => ?_)
 refine wpAnyH_ready (rs := [0]) (by kernel_rfl) (by simp) ?_
 refine AllReadyH.cons (sd (some 15) rfl) (fun Kx hK => ?_) AllReadyH.nil
 go_simp
 refine (KAw.out _).mono ?_
 rintro e w2 ⟨rfl, hb⟩
 have HB2 := Lib.hid (((Below.refl w1.heap.size w1).drew).trans (hb.mono ((Below.refl w1.heap.size w1).drew).size))
 clear hb
 go_wp2_with fail
 refine hK.out _ _ (HBX.out _ HB2.out) (fun hHeld => ?_)
 clear hK Kx
 try simp only [Act.put, List.setIfInBounds_toArray, List.set_cons_zero, List.set_cons_succ]
 refine Plan.start [1, 2, 3, 5, 8] ?_
 iterate 5 ((refine Plan.take (v := ?_) (so rfl) (by kernel_rfl) (by kernel_rfl) (by kernel_rfl) (fun _ _ _ h => h) (Or.inl ⟨by rfl, ?_⟩) hHeld ?_; rotate_left; focus (intro w' hSw; (try dsimp only at hSw); go_simp; try with_reducible rfl)); try simp only [Act.put, List.setIfInBounds_toArray, List.set_cons_zero, List.set_cons_succ])
 refine Plan.done ?_
 refine wpAnyH_ready (rs := [4]) (by kernel_rfl) (by simp) ?_
 refine AllReadyH.cons (sd (some 19) rfl) (fun Kx hK => ?_) AllReadyH.nil
 go_simp
 refine (KX.out _ HB2.out).mono ?_
 rintro e w3 ⟨rfl, hb⟩
 have HB3 := Lib.hid ((HB2.out).trans (hb.mono (HB2.out).size))
 clear hb
 go_wp2_with fail
 refine hK.out _ _ (HBX.out _ HB3.out) (fun hHeld => ?_)
 clear hK Kx
 try simp only [Act.put, List.setIfInBounds_toArray, List.set_cons_zero, List.set_cons_succ]
 refine wpAnyH_ready (rs := [6]) (by kernel_rfl) (by simp) ?_
 refine AllReadyH.cons (sd (some 21) rfl) (fun Kx hK => ?_) AllReadyH.nil
 go_simp
 refine (KY.out _ HB3.out).mono ?_
 rintro e w4 ⟨rfl, hb⟩
 have HB4 := Lib.hid ((HB3.out).trans (hb.mono (HB3.out).size))
 clear hb
 go_wp2_with fail
 refine hK.out _ _ (HBX.out _ HB4.out) (fun hHeld => ?_)
 clear hK Kx
 try simp only [Act.put, List.setIfInBounds_toArray, List.set_cons_zero, List.set_cons_succ]
 refine wpAnyH_take (i := 7) (v := ?_) (sd (some 22) rfl) (by kernel_rfl) (by kernel_rfl) (by kernel_rfl) (fun _ _ _ h => h) (Or.inl ⟨by rfl, ?_⟩) hHeld ?_
 rotate_left
 ·intro w' hSw
  (try dsimp only at hSw)
  go_simp
  try with_reducible rfl
 try simp only [Act.put, List.setIfInBounds_toArray, List.set_cons_zero, List.set_cons_succ]
 refine wpAnyH_ready (rs := [9]) (by kernel_rfl) (by simp) ?_
 refine AllReadyH.cons (sd (some 24) rfl) (fun Kx hK => ?_) AllReadyH.nil
 go_simp
 refine (KZ.out _ HB4.out).mono ?_
 rintro e w5 ⟨rfl, hb⟩
 have HB5 := Lib.hid ((HB4.out).trans (hb.mono (HB4.out).size))
 clear hb
 go_wp2_with fail
 refine hK.out _ _ (HBX.out _ HB5.out) (fun hHeld => ?_)
 clear hK Kx
 try simp only [Act.put, List.setIfInBounds_toArray, List.set_cons_zero, List.set_cons_succ]
 refine Plan.start [10, 11, 12, 13, 14] ?_
 iterate 5 ((refine Plan.take (v := ?_) (so rfl) (by kernel_rfl) (by kernel_rfl) (by kernel_rfl) (fun _ _ _ h => h) (Or.inl ⟨by rfl, ?_⟩) hHeld ?_; rotate_left; focus (intro w' hSw; (try dsimp only at hSw); go_simp; try with_reducible rfl)); try simp only [Act.put, List.setIfInBounds_toArray, List.set_cons_zero, List.set_cons_succ])
 refine Plan.done ?_
 refine wpAnyH_ready (rs := [15]) (by kernel_rfl) (by simp) ?_
 refine AllReadyH.cons (sd (some 30) rfl) (fun Kx hK => ?_) AllReadyH.nil
 go_simp
 refine (KFa.out _ HB5.out).mono ?_
 rintro e w6 ⟨rfl, hb⟩
 have HB6 := Lib.hid ((HB5.out).trans (hb.mono (HB5.out).size))
 clear hb
 go_wp2_with fail
 refine hK.out _ _ (HBX.out _ HB6.out) (fun hHeld => ?_)
 clear hK Kx
 try simp only [Act.put, List.setIfInBounds_toArray, List.set_cons_zero, List.set_cons_succ]
 refine Plan.start [16, 17, 18, 19] ?_
 iterate 4 ((refine Plan.take (v := ?_) (so rfl) (by kernel_rfl) (by kernel_rfl) (by kernel_rfl) (fun _ _ _ h => h) (Or.inl ⟨by rfl, ?_⟩) hHeld ?_; rotate_left; focus (intro w' hSw; (try dsimp only at hSw); go_simp; try with_reducible rfl)); try simp only [Act.put, List.setIfInBounds_toArray, List.set_cons_zero, List.set_cons_succ])
 refine Plan.done ?_
 refine wpAnyH_ready (rs := [20]) (by kernel_rfl) (by simp) ?_
 refine AllReadyH.cons (sd (some 35) rfl) (fun Kx hK => ?_) AllReadyH.nil
 go_simp
 refine (KFb.out _ HB6.out).mono ?_
 rintro e w7 ⟨rfl, hb⟩
 have HB7 := Lib.hid ((HB6.out).trans (hb.mono (HB6.out).size))
 clear hb
 go_wp2_with fail
 refine hK.out _ _ (HBX.out _ HB7.out) (fun hHeld => ?_)
 clear hK Kx
 try simp only [Act.put, List.setIfInBounds_toArray, List.set_cons_zero, List.set_cons_succ]
 refine Plan.start [21, 22, 23, 24] ?_
 iterate 4 ((refine Plan.take (v := ?_) (so rfl) (by kernel_rfl) (by kernel_rfl) (by kernel_rfl) (fun _ _ _ h => h) (Or.inl ⟨by rfl, ?_⟩) hHeld ?_; rotate_left; focus (intro w' hSw; (try dsimp only at hSw); go_simp; try with_reducible rfl)); try simp only [Act.put, List.setIfInBounds_toArray, List.set_cons_zero, List.set_cons_succ])
 refine Plan.done ?_
 refine wpAnyH_ready (rs := [25]) (by kernel_rfl) (by simp) ?_
 refine AllReadyH.cons (sd (some 40) rfl) (fun Kx hK => ?_) AllReadyH.nil
 go_simp
 refine (KFk.out _ HB7.out).mono ?_
 rintro e w8 ⟨rfl, hb⟩
 have HB8 := Lib.hid ((HB7.out).trans (hb.mono (HB7.out).size))
 clear hb
 go_wp2_with fail
 refine hK.out _ _ (HBX.out _ HB8.out) (fun hHeld => ?_)
 clear hK Kx
 try simp only [Act.put, List.setIfInBounds_toArray, List.set_cons_zero, List.set_cons_succ]
 refine Plan.start [26, 27] ?_
 iterate 2 ((refine Plan.take (v := ?_) (so rfl) (by kernel_rfl) (by kernel_rfl) (by kernel_rfl) (fun _ _ _ h => h) (Or.inl ⟨by rfl, ?_⟩) hHeld ?_; rotate_left; focus (intro w' hSw; (try dsimp only at hSw); go_simp; try with_reducible rfl)); try simp only [Act.put, List.setIfInBounds_toArray, List.set_cons_zero, List.set_cons_succ])
 refine Plan.done ?_
 refine wpAnyH_done (by kernel_rfl) ?_ _
 clear hHeld
 obtain ⟨⟨x0, x1, x2, x3, x4, x5⟩, ⟨y0, y1, y2, y3, y4, y5⟩, ⟨u0, u1, u2, u3, u4, u5⟩⟩ := HBX.out _ HB8.out
 go_wp2_with fail
 go_ret
 exact ⟨rfl, HB1.out.trans ((HB8.out).mono HB1.out.size)⟩
set_option maxRecDepth 100000 in
set_option maxHeartbeats 64000000 in
theorem split_k3 {K K2 K3 : Nat → Prop} {w : World} (k : Int) (s : ByteArray) (n : Int) (ps : List Ty) (fs : List (ByteArray × Int × Ty)) (vs : List (ByteArray × List Ty)) (k3 : Int) (s3 : ByteArray) (n3 : Int) (ps3 : List Ty) (fs3 : List (ByteArray × Int × Ty)) (vs3 : List (ByteArray × List Ty)) (k9 : Int) (s9 : ByteArray) (n9 : Int) (ps9 : List Ty) (fs9 : List (ByteArray × Int × Ty)) (vs9 : List (ByteArray × List Ty)) {cs ds us : List Value} (hr : RepT K w (.mk k s n ps fs vs) cs) (hp : RepT K2 w (.mk k3 s3 n3 ps3 fs3 vs3) ds) (hu : RepT K3 w (.mk k9 s9 n9 ps9 fs9 vs9) us) (hsm : cntT (.mk k s n ps fs vs) + cntT (.mk k3 s3 n3 ps3 fs3 vs3) + cntT (.mk k9 s9 n9 ps9 fs9 vs9) ≤ 300) (hfa : formedT (.mk k s n ps fs vs) = true) (hfb : formedT (.mk k3 s3 n3 ps3 fs3 vs3) = true) (hfk : formedT (.mk k9 s9 n9 ps9 fs9 vs9) = true) (h1 : k ≠ 3) (h2 : k3 ≠ 3) (h3 : k = 2) : Calls Tryz.prog 3 #[.agg cs.toArray, .agg ds.toArray, .agg us.toArray] w (fun e w' => e = .returned (.bool true) ∧ Below w.heap.size w w') := by
 refine split_pre hr hp hu fun A c A' c' A'' c'' A3 c3 B3 d3 C3 e3 A9 c9 B9 d9 C9 e9 w1 h => ?_
 clear hr hp hu
 obtain ⟨HBX, HB1, HS1, HW1, HR, HP, HU⟩ := h
 have KAw := Lib.hid fun wx => awake13 wx
 obtain ⟨X, hX, kx⟩ := nod_later HR.out HB1.out
 obtain ⟨Y, hY, ky⟩ := nod_later HP.out HB1.out
 obtain ⟨Z, hZ, kz⟩ := nod_later HU.out HB1.out
 have KX := Lib.hid kx
 have KY := Lib.hid ky
 have KZ := Lib.hid kz
 have w12 : wrap64 (X + Y) = X + Y := wrap_in (by omega) (by omega)
 have w123 : wrap64 (X + Y + Z) = X + Y + Z := wrap_in (by omega) (by omega)
 have v12 : IntKind.i64.wrap (X + Y) = X + Y := (wrap_kind _).trans w12
 have v123 : IntKind.i64.wrap (X + Y + Z) = X + Y + Z := (wrap_kind _).trans w123
 have g1 : decide ((300 : Int) < X + Y + Z) = false := decide_eq_false (by omega)
 have g2 : ¬ (300 : Int) < X + Y + Z := by omega
 have kfa := fun (wx : World) (hx : Below w1.heap.size w1 wx) => formed_ref (HR.out.later (HB1.out.trans (hx.mono HB1.out.size)))
 rw [hfa] at kfa
 have KFa := Lib.hid kfa
 clear kfa hfa
 have kfb := fun (wx : World) (hx : Below w1.heap.size w1 wx) => formed_ref (HP.out.later (HB1.out.trans (hx.mono HB1.out.size)))
 rw [hfb] at kfb
 have KFb := Lib.hid kfb
 clear kfb hfb
 have kfk := fun (wx : World) (hx : Below w1.heap.size w1 wx) => formed_ref (HU.out.later (HB1.out.trans (hx.mono HB1.out.size)))
 rw [hfk] at kfk
 have KFk := Lib.hid kfk
 clear kfk hfk
 have e_k_3 : (k == 3) = false := beq_eq_false_iff_ne.2 (by omega)
 have e_k3_3 : (k3 == 3) = false := beq_eq_false_iff_ne.2 (by omega)
 have e_k_2 : (k == 2) = true := beq_iff_eq.2 (by omega)
 clear h1 h2 h3
 clear kx ky kz hX hY hZ hsm
 go_enter Tryz.func3, Tryz.ntmps3
 go_upto_region 1 with fail
 rw [← HW1.out]
 refine wp_region_held_drew (S := (fun w' => (w'.cell? ⟨w.heap.size, 0, none⟩ = some (.int .i64 k) ∧ w'.cell? ⟨w.heap.size, 1, none⟩ = some (.string s) ∧ w'.cell? ⟨w.heap.size, 2, none⟩ = some (.int .i64 n) ∧ w'.cell? ⟨w.heap.size, 3, none⟩ = some (.slice A ps.length c) ∧ w'.cell? ⟨w.heap.size, 4, none⟩ = some (.slice A' fs.length c') ∧ w'.cell? ⟨w.heap.size, 5, none⟩ = some (.slice A'' vs.length c'')) ∧ (w'.cell? ⟨w.heap.size + 1, 0, none⟩ = some (.int .i64 k3) ∧ w'.cell? ⟨w.heap.size + 1, 1, none⟩ = some (.string s3) ∧ w'.cell? ⟨w.heap.size + 1, 2, none⟩ = some (.int .i64 n3) ∧ w'.cell? ⟨w.heap.size + 1, 3, none⟩ = some (.slice A3 ps3.length c3) ∧ w'.cell? ⟨w.heap.size + 1, 4, none⟩ = some (.slice B3 fs3.length d3) ∧ w'.cell? ⟨w.heap.size + 1, 5, none⟩ = some (.slice C3 vs3.length e3)) ∧ (w'.cell? ⟨w.heap.size + 2, 0, none⟩ = some (.int .i64 k9) ∧ w'.cell? ⟨w.heap.size + 2, 1, none⟩ = some (.string s9) ∧ w'.cell? ⟨w.heap.size + 2, 2, none⟩ = some (.int .i64 n9) ∧ w'.cell? ⟨w.heap.size + 2, 3, none⟩ = some (.slice A9 ps9.length c9) ∧ w'.cell? ⟨w.heap.size + 2, 4, none⟩ = some (.slice B9 fs9.length d9) ∧ w'.cell? ⟨w.heap.size + 2, 5, none⟩ = some (.slice C9 vs9.length e9)))) (by kernel_rfl) (HBX.out _ (Below.refl _ _).drew) (fun hHeld => ?_)
 refine wpAnyH_ready (rs := [0]) (by kernel_rfl) (by simp) ?_
 refine AllReadyH.cons (sd (some 15) rfl) (fun Kx hK => ?_) AllReadyH.nil
 go_simp
 refine (KAw.out _).mono ?_
 rintro e w2 ⟨rfl, hb⟩
 have HB2 := Lib.hid (((Below.refl w1.heap.size w1).drew).trans (hb.mono ((Below.refl w1.heap.size w1).drew).size))
 clear hb
 go_wp2_with fail
 refine hK.out _ _ (HBX.out _ HB2.out) (fun hHeld => ?_)
 clear hK Kx
 try simp only [Act.put, List.setIfInBounds_toArray, List.set_cons_zero, List.set_cons_succ]
 refine Plan.start [1, 2, 3, 5, 8] ?_
 iterate 5 ((refine Plan.take (v := ?_) (so rfl) (by kernel_rfl) (by kernel_rfl) (by kernel_rfl) (fun _ _ _ h => h) (Or.inl ⟨by rfl, ?_⟩) hHeld ?_; rotate_left; focus (intro w' hSw; (try dsimp only at hSw); go_simp; try with_reducible rfl)); try simp only [Act.put, List.setIfInBounds_toArray, List.set_cons_zero, List.set_cons_succ])
 refine Plan.done ?_
 refine wpAnyH_ready (rs := [4]) (by kernel_rfl) (by simp) ?_
 refine AllReadyH.cons (sd (some 19) rfl) (fun Kx hK => ?_) AllReadyH.nil
 go_simp
 refine (KX.out _ HB2.out).mono ?_
 rintro e w3 ⟨rfl, hb⟩
 have HB3 := Lib.hid ((HB2.out).trans (hb.mono (HB2.out).size))
 clear hb
 go_wp2_with fail
 refine hK.out _ _ (HBX.out _ HB3.out) (fun hHeld => ?_)
 clear hK Kx
 try simp only [Act.put, List.setIfInBounds_toArray, List.set_cons_zero, List.set_cons_succ]
 refine wpAnyH_ready (rs := [6]) (by kernel_rfl) (by simp) ?_
 refine AllReadyH.cons (sd (some 21) rfl) (fun Kx hK => ?_) AllReadyH.nil
 go_simp
 refine (KY.out _ HB3.out).mono ?_
 rintro e w4 ⟨rfl, hb⟩
 have HB4 := Lib.hid ((HB3.out).trans (hb.mono (HB3.out).size))
 clear hb
 go_wp2_with fail
 refine hK.out _ _ (HBX.out _ HB4.out) (fun hHeld => ?_)
 clear hK Kx
 try simp only [Act.put, List.setIfInBounds_toArray, List.set_cons_zero, List.set_cons_succ]
 refine wpAnyH_take (i := 7) (v := ?_) (sd (some 22) rfl) (by kernel_rfl) (by kernel_rfl) (by kernel_rfl) (fun _ _ _ h => h) (Or.inl ⟨by rfl, ?_⟩) hHeld ?_
 rotate_left
 ·intro w' hSw
  (try dsimp only at hSw)
  go_simp
  try with_reducible rfl
 try simp only [Act.put, List.setIfInBounds_toArray, List.set_cons_zero, List.set_cons_succ]
 refine wpAnyH_ready (rs := [9]) (by kernel_rfl) (by simp) ?_
 refine AllReadyH.cons (sd (some 24) rfl) (fun Kx hK => ?_) AllReadyH.nil
 go_simp
 refine (KZ.out _ HB4.out).mono ?_
 rintro e w5 ⟨rfl, hb⟩
 have HB5 := Lib.hid ((HB4.out).trans (hb.mono (HB4.out).size))
 clear hb
 go_wp2_with fail
 refine hK.out _ _ (HBX.out _ HB5.out) (fun hHeld => ?_)
 clear hK Kx
 try simp only [Act.put, List.setIfInBounds_toArray, List.set_cons_zero, List.set_cons_succ]
 refine Plan.start [10, 11, 12, 13, 14] ?_
 iterate 5 ((refine Plan.take (v := ?_) (so rfl) (by kernel_rfl) (by kernel_rfl) (by kernel_rfl) (fun _ _ _ h => h) (Or.inl ⟨by rfl, ?_⟩) hHeld ?_; rotate_left; focus (intro w' hSw; (try dsimp only at hSw); go_simp; try with_reducible rfl)); try simp only [Act.put, List.setIfInBounds_toArray, List.set_cons_zero, List.set_cons_succ])
 refine Plan.done ?_
 refine wpAnyH_ready (rs := [15]) (by kernel_rfl) (by simp) ?_
 refine AllReadyH.cons (sd (some 30) rfl) (fun Kx hK => ?_) AllReadyH.nil
 go_simp
 refine (KFa.out _ HB5.out).mono ?_
 rintro e w6 ⟨rfl, hb⟩
 have HB6 := Lib.hid ((HB5.out).trans (hb.mono (HB5.out).size))
 clear hb
 go_wp2_with fail
 refine hK.out _ _ (HBX.out _ HB6.out) (fun hHeld => ?_)
 clear hK Kx
 try simp only [Act.put, List.setIfInBounds_toArray, List.set_cons_zero, List.set_cons_succ]
 refine Plan.start [16, 17, 18, 19] ?_
 iterate 4 ((refine Plan.take (v := ?_) (so rfl) (by kernel_rfl) (by kernel_rfl) (by kernel_rfl) (fun _ _ _ h => h) (Or.inl ⟨by rfl, ?_⟩) hHeld ?_; rotate_left; focus (intro w' hSw; (try dsimp only at hSw); go_simp; try with_reducible rfl)); try simp only [Act.put, List.setIfInBounds_toArray, List.set_cons_zero, List.set_cons_succ])
 refine Plan.done ?_
 refine wpAnyH_ready (rs := [20]) (by kernel_rfl) (by simp) ?_
 refine AllReadyH.cons (sd (some 35) rfl) (fun Kx hK => ?_) AllReadyH.nil
 go_simp
 refine (KFb.out _ HB6.out).mono ?_
 rintro e w7 ⟨rfl, hb⟩
 have HB7 := Lib.hid ((HB6.out).trans (hb.mono (HB6.out).size))
 clear hb
 go_wp2_with fail
 refine hK.out _ _ (HBX.out _ HB7.out) (fun hHeld => ?_)
 clear hK Kx
 try simp only [Act.put, List.setIfInBounds_toArray, List.set_cons_zero, List.set_cons_succ]
 refine Plan.start [21, 22, 23, 24] ?_
 iterate 4 ((refine Plan.take (v := ?_) (so rfl) (by kernel_rfl) (by kernel_rfl) (by kernel_rfl) (fun _ _ _ h => h) (Or.inl ⟨by rfl, ?_⟩) hHeld ?_; rotate_left; focus (intro w' hSw; (try dsimp only at hSw); go_simp; try with_reducible rfl)); try simp only [Act.put, List.setIfInBounds_toArray, List.set_cons_zero, List.set_cons_succ])
 refine Plan.done ?_
 refine wpAnyH_ready (rs := [25]) (by kernel_rfl) (by simp) ?_
 refine AllReadyH.cons (sd (some 40) rfl) (fun Kx hK => ?_) AllReadyH.nil
 go_simp
 refine (KFk.out _ HB7.out).mono ?_
 rintro e w8 ⟨rfl, hb⟩
 have HB8 := Lib.hid ((HB7.out).trans (hb.mono (HB7.out).size))
 clear hb
 go_wp2_with fail
 refine hK.out _ _ (HBX.out _ HB8.out) (fun hHeld => ?_)
 clear hK Kx
 try simp only [Act.put, List.setIfInBounds_toArray, List.set_cons_zero, List.set_cons_succ]
 refine Plan.start [26, 27] ?_
 iterate 2 ((refine Plan.take (v := ?_) (so rfl) (by kernel_rfl) (by kernel_rfl) (by kernel_rfl) (fun _ _ _ h => h) (Or.inl ⟨by rfl, ?_⟩) hHeld ?_; rotate_left; focus (intro w' hSw; (try dsimp only at hSw); go_simp; try with_reducible rfl)); try simp only [Act.put, List.setIfInBounds_toArray, List.set_cons_zero, List.set_cons_succ])
 refine Plan.done ?_
 refine wpAnyH_done (by kernel_rfl) ?_ _
 clear hHeld
 obtain ⟨⟨x0, x1, x2, x3, x4, x5⟩, ⟨y0, y1, y2, y3, y4, y5⟩, ⟨u0, u1, u2, u3, u4, u5⟩⟩ := HBX.out _ HB8.out
 go_wp2_with fail
 go_ret
 exact ⟨rfl, HB1.out.trans ((HB8.out).mono HB1.out.size)⟩
set_option maxRecDepth 100000 in
set_option maxHeartbeats 64000000 in
theorem split_k4 {K K2 K3 : Nat → Prop} {w : World} (k : Int) (s : ByteArray) (n : Int) (ps : List Ty) (fs : List (ByteArray × Int × Ty)) (vs : List (ByteArray × List Ty)) (k3 : Int) (s3 : ByteArray) (n3 : Int) (ps3 : List Ty) (fs3 : List (ByteArray × Int × Ty)) (vs3 : List (ByteArray × List Ty)) (k9 : Int) (s9 : ByteArray) (n9 : Int) (ps9 : List Ty) (fs9 : List (ByteArray × Int × Ty)) (vs9 : List (ByteArray × List Ty)) {cs ds us : List Value} (hr : RepT K w (.mk k s n ps fs vs) cs) (hp : RepT K2 w (.mk k3 s3 n3 ps3 fs3 vs3) ds) (hu : RepT K3 w (.mk k9 s9 n9 ps9 fs9 vs9) us) (hsm : cntT (.mk k s n ps fs vs) + cntT (.mk k3 s3 n3 ps3 fs3 vs3) + cntT (.mk k9 s9 n9 ps9 fs9 vs9) ≤ 300) (hfa : formedT (.mk k s n ps fs vs) = true) (hfb : formedT (.mk k3 s3 n3 ps3 fs3 vs3) = true) (hfk : formedT (.mk k9 s9 n9 ps9 fs9 vs9) = true) (h1 : k ≠ 3) (h2 : k3 ≠ 3) (h3 : k ≠ 2) (h4 : k3 = 2) : Calls Tryz.prog 3 #[.agg cs.toArray, .agg ds.toArray, .agg us.toArray] w (fun e w' => e = .returned (.bool true) ∧ Below w.heap.size w w') := by
 refine split_pre hr hp hu fun A c A' c' A'' c'' A3 c3 B3 d3 C3 e3 A9 c9 B9 d9 C9 e9 w1 h => ?_
 clear hr hp hu
 obtain ⟨HBX, HB1, HS1, HW1, HR, HP, HU⟩ := h
 have KAw := Lib.hid fun wx => awake13 wx
 obtain ⟨X, hX, kx⟩ := nod_later HR.out HB1.out
 obtain ⟨Y, hY, ky⟩ := nod_later HP.out HB1.out
 obtain ⟨Z, hZ, kz⟩ := nod_later HU.out HB1.out
 have KX := Lib.hid kx
 have KY := Lib.hid ky
 have KZ := Lib.hid kz
 have w12 : wrap64 (X + Y) = X + Y := wrap_in (by omega) (by omega)
 have w123 : wrap64 (X + Y + Z) = X + Y + Z := wrap_in (by omega) (by omega)
 have v12 : IntKind.i64.wrap (X + Y) = X + Y := (wrap_kind _).trans w12
 have v123 : IntKind.i64.wrap (X + Y + Z) = X + Y + Z := (wrap_kind _).trans w123
 have g1 : decide ((300 : Int) < X + Y + Z) = false := decide_eq_false (by omega)
 have g2 : ¬ (300 : Int) < X + Y + Z := by omega
 have kfa := fun (wx : World) (hx : Below w1.heap.size w1 wx) => formed_ref (HR.out.later (HB1.out.trans (hx.mono HB1.out.size)))
 rw [hfa] at kfa
 have KFa := Lib.hid kfa
 clear kfa hfa
 have kfb := fun (wx : World) (hx : Below w1.heap.size w1 wx) => formed_ref (HP.out.later (HB1.out.trans (hx.mono HB1.out.size)))
 rw [hfb] at kfb
 have KFb := Lib.hid kfb
 clear kfb hfb
 have kfk := fun (wx : World) (hx : Below w1.heap.size w1 wx) => formed_ref (HU.out.later (HB1.out.trans (hx.mono HB1.out.size)))
 rw [hfk] at kfk
 have KFk := Lib.hid kfk
 clear kfk hfk
 have e_k_3 : (k == 3) = false := beq_eq_false_iff_ne.2 (by omega)
 have e_k3_3 : (k3 == 3) = false := beq_eq_false_iff_ne.2 (by omega)
 have e_k_2 : (k == 2) = false := beq_eq_false_iff_ne.2 (by omega)
 have e_k3_2 : (k3 == 2) = true := beq_iff_eq.2 (by omega)
 clear h1 h2 h3 h4
 clear kx ky kz hX hY hZ hsm
 go_enter Tryz.func3, Tryz.ntmps3
 go_upto_region 1 with fail
 rw [← HW1.out]
 refine wp_region_held_drew (S := (fun w' => (w'.cell? ⟨w.heap.size, 0, none⟩ = some (.int .i64 k) ∧ w'.cell? ⟨w.heap.size, 1, none⟩ = some (.string s) ∧ w'.cell? ⟨w.heap.size, 2, none⟩ = some (.int .i64 n) ∧ w'.cell? ⟨w.heap.size, 3, none⟩ = some (.slice A ps.length c) ∧ w'.cell? ⟨w.heap.size, 4, none⟩ = some (.slice A' fs.length c') ∧ w'.cell? ⟨w.heap.size, 5, none⟩ = some (.slice A'' vs.length c'')) ∧ (w'.cell? ⟨w.heap.size + 1, 0, none⟩ = some (.int .i64 k3) ∧ w'.cell? ⟨w.heap.size + 1, 1, none⟩ = some (.string s3) ∧ w'.cell? ⟨w.heap.size + 1, 2, none⟩ = some (.int .i64 n3) ∧ w'.cell? ⟨w.heap.size + 1, 3, none⟩ = some (.slice A3 ps3.length c3) ∧ w'.cell? ⟨w.heap.size + 1, 4, none⟩ = some (.slice B3 fs3.length d3) ∧ w'.cell? ⟨w.heap.size + 1, 5, none⟩ = some (.slice C3 vs3.length e3)) ∧ (w'.cell? ⟨w.heap.size + 2, 0, none⟩ = some (.int .i64 k9) ∧ w'.cell? ⟨w.heap.size + 2, 1, none⟩ = some (.string s9) ∧ w'.cell? ⟨w.heap.size + 2, 2, none⟩ = some (.int .i64 n9) ∧ w'.cell? ⟨w.heap.size + 2, 3, none⟩ = some (.slice A9 ps9.length c9) ∧ w'.cell? ⟨w.heap.size + 2, 4, none⟩ = some (.slice B9 fs9.length d9) ∧ w'.cell? ⟨w.heap.size + 2, 5, none⟩ = some (.slice C9 vs9.length e9)))) (by kernel_rfl) (HBX.out _ (Below.refl _ _).drew) (fun hHeld => ?_)
 refine wpAnyH_ready (rs := [0]) (by kernel_rfl) (by simp) ?_
 refine AllReadyH.cons (sd (some 15) rfl) (fun Kx hK => ?_) AllReadyH.nil
 go_simp
 refine (KAw.out _).mono ?_
 rintro e w2 ⟨rfl, hb⟩
 have HB2 := Lib.hid (((Below.refl w1.heap.size w1).drew).trans (hb.mono ((Below.refl w1.heap.size w1).drew).size))
 clear hb
 go_wp2_with fail
 refine hK.out _ _ (HBX.out _ HB2.out) (fun hHeld => ?_)
 clear hK Kx
 try simp only [Act.put, List.setIfInBounds_toArray, List.set_cons_zero, List.set_cons_succ]
 refine Plan.start [1, 2, 3, 5, 8] ?_
 iterate 5 ((refine Plan.take (v := ?_) (so rfl) (by kernel_rfl) (by kernel_rfl) (by kernel_rfl) (fun _ _ _ h => h) (Or.inl ⟨by rfl, ?_⟩) hHeld ?_; rotate_left; focus (intro w' hSw; (try dsimp only at hSw); go_simp; try with_reducible rfl)); try simp only [Act.put, List.setIfInBounds_toArray, List.set_cons_zero, List.set_cons_succ])
 refine Plan.done ?_
 refine wpAnyH_ready (rs := [4]) (by kernel_rfl) (by simp) ?_
 refine AllReadyH.cons (sd (some 19) rfl) (fun Kx hK => ?_) AllReadyH.nil
 go_simp
 refine (KX.out _ HB2.out).mono ?_
 rintro e w3 ⟨rfl, hb⟩
 have HB3 := Lib.hid ((HB2.out).trans (hb.mono (HB2.out).size))
 clear hb
 go_wp2_with fail
 refine hK.out _ _ (HBX.out _ HB3.out) (fun hHeld => ?_)
 clear hK Kx
 try simp only [Act.put, List.setIfInBounds_toArray, List.set_cons_zero, List.set_cons_succ]
 refine wpAnyH_ready (rs := [6]) (by kernel_rfl) (by simp) ?_
 refine AllReadyH.cons (sd (some 21) rfl) (fun Kx hK => ?_) AllReadyH.nil
 go_simp
 refine (KY.out _ HB3.out).mono ?_
 rintro e w4 ⟨rfl, hb⟩
 have HB4 := Lib.hid ((HB3.out).trans (hb.mono (HB3.out).size))
 clear hb
 go_wp2_with fail
 refine hK.out _ _ (HBX.out _ HB4.out) (fun hHeld => ?_)
 clear hK Kx
 try simp only [Act.put, List.setIfInBounds_toArray, List.set_cons_zero, List.set_cons_succ]
 refine wpAnyH_take (i := 7) (v := ?_) (sd (some 22) rfl) (by kernel_rfl) (by kernel_rfl) (by kernel_rfl) (fun _ _ _ h => h) (Or.inl ⟨by rfl, ?_⟩) hHeld ?_
 rotate_left
 ·intro w' hSw
  (try dsimp only at hSw)
  go_simp
  try with_reducible rfl
 try simp only [Act.put, List.setIfInBounds_toArray, List.set_cons_zero, List.set_cons_succ]
 refine wpAnyH_ready (rs := [9]) (by kernel_rfl) (by simp) ?_
 refine AllReadyH.cons (sd (some 24) rfl) (fun Kx hK => ?_) AllReadyH.nil
 go_simp
 refine (KZ.out _ HB4.out).mono ?_
 rintro e w5 ⟨rfl, hb⟩
 have HB5 := Lib.hid ((HB4.out).trans (hb.mono (HB4.out).size))
 clear hb
 go_wp2_with fail
 refine hK.out _ _ (HBX.out _ HB5.out) (fun hHeld => ?_)
 clear hK Kx
 try simp only [Act.put, List.setIfInBounds_toArray, List.set_cons_zero, List.set_cons_succ]
 refine Plan.start [10, 11, 12, 13, 14] ?_
 iterate 5 ((refine Plan.take (v := ?_) (so rfl) (by kernel_rfl) (by kernel_rfl) (by kernel_rfl) (fun _ _ _ h => h) (Or.inl ⟨by rfl, ?_⟩) hHeld ?_; rotate_left; focus (intro w' hSw; (try dsimp only at hSw); go_simp; try with_reducible rfl)); try simp only [Act.put, List.setIfInBounds_toArray, List.set_cons_zero, List.set_cons_succ])
 refine Plan.done ?_
 refine wpAnyH_ready (rs := [15]) (by kernel_rfl) (by simp) ?_
 refine AllReadyH.cons (sd (some 30) rfl) (fun Kx hK => ?_) AllReadyH.nil
 go_simp
 refine (KFa.out _ HB5.out).mono ?_
 rintro e w6 ⟨rfl, hb⟩
 have HB6 := Lib.hid ((HB5.out).trans (hb.mono (HB5.out).size))
 clear hb
 go_wp2_with fail
 refine hK.out _ _ (HBX.out _ HB6.out) (fun hHeld => ?_)
 clear hK Kx
 try simp only [Act.put, List.setIfInBounds_toArray, List.set_cons_zero, List.set_cons_succ]
 refine Plan.start [16, 17, 18, 19] ?_
 iterate 4 ((refine Plan.take (v := ?_) (so rfl) (by kernel_rfl) (by kernel_rfl) (by kernel_rfl) (fun _ _ _ h => h) (Or.inl ⟨by rfl, ?_⟩) hHeld ?_; rotate_left; focus (intro w' hSw; (try dsimp only at hSw); go_simp; try with_reducible rfl)); try simp only [Act.put, List.setIfInBounds_toArray, List.set_cons_zero, List.set_cons_succ])
 refine Plan.done ?_
 refine wpAnyH_ready (rs := [20]) (by kernel_rfl) (by simp) ?_
 refine AllReadyH.cons (sd (some 35) rfl) (fun Kx hK => ?_) AllReadyH.nil
 go_simp
 refine (KFb.out _ HB6.out).mono ?_
 rintro e w7 ⟨rfl, hb⟩
 have HB7 := Lib.hid ((HB6.out).trans (hb.mono (HB6.out).size))
 clear hb
 go_wp2_with fail
 refine hK.out _ _ (HBX.out _ HB7.out) (fun hHeld => ?_)
 clear hK Kx
 try simp only [Act.put, List.setIfInBounds_toArray, List.set_cons_zero, List.set_cons_succ]
 refine Plan.start [21, 22, 23, 24] ?_
 iterate 4 ((refine Plan.take (v := ?_) (so rfl) (by kernel_rfl) (by kernel_rfl) (by kernel_rfl) (fun _ _ _ h => h) (Or.inl ⟨by rfl, ?_⟩) hHeld ?_; rotate_left; focus (intro w' hSw; (try dsimp only at hSw); go_simp; try with_reducible rfl)); try simp only [Act.put, List.setIfInBounds_toArray, List.set_cons_zero, List.set_cons_succ])
 refine Plan.done ?_
 refine wpAnyH_ready (rs := [25]) (by kernel_rfl) (by simp) ?_
 refine AllReadyH.cons (sd (some 40) rfl) (fun Kx hK => ?_) AllReadyH.nil
 go_simp
 refine (KFk.out _ HB7.out).mono ?_
 rintro e w8 ⟨rfl, hb⟩
 have HB8 := Lib.hid ((HB7.out).trans (hb.mono (HB7.out).size))
 clear hb
 go_wp2_with fail
 refine hK.out _ _ (HBX.out _ HB8.out) (fun hHeld => ?_)
 clear hK Kx
 try simp only [Act.put, List.setIfInBounds_toArray, List.set_cons_zero, List.set_cons_succ]
 refine Plan.start [26, 27] ?_
 iterate 2 ((refine Plan.take (v := ?_) (so rfl) (by kernel_rfl) (by kernel_rfl) (by kernel_rfl) (fun _ _ _ h => h) (Or.inl ⟨by rfl, ?_⟩) hHeld ?_; rotate_left; focus (intro w' hSw; (try dsimp only at hSw); go_simp; try with_reducible rfl)); try simp only [Act.put, List.setIfInBounds_toArray, List.set_cons_zero, List.set_cons_succ])
 refine Plan.done ?_
 refine wpAnyH_done (by kernel_rfl) ?_ _
 clear hHeld
 obtain ⟨⟨x0, x1, x2, x3, x4, x5⟩, ⟨y0, y1, y2, y3, y4, y5⟩, ⟨u0, u1, u2, u3, u4, u5⟩⟩ := HBX.out _ HB8.out
 go_wp2_with fail
 go_ret
 exact ⟨rfl, HB1.out.trans ((HB8.out).mono HB1.out.size)⟩
end Go.Proofs.YtllhfnpchplibaaGreatDoor
