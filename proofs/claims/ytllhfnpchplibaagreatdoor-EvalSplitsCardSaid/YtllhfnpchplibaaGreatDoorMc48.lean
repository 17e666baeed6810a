import Derived.Test.YtllhfnpchplibaaGreatDoorMc45
import Derived.Test.YtllhfnpchplibaaGreatDoorMc46
namespace Go.Proofs.YtllhfnpchplibaaGreatDoor
open Go.RowKit
theorem uni_ab {K K2 : Nat → Prop} {w : World} {t q : Ty} {c0 c1 c2 c3 c4 c5 d0 d1 d2 d3 d4 d5 : Value} (ht : RepT K w t [c0, c1, c2, c3, c4, c5]) (hq : RepT K2 w q [d0, d1, d2, d3, d4, d5]) (hft : formT t = true) (hfq : formT q = true) (hct : cntT t ≤ 1000000) (hcq : cntT q ≤ 1000000) :
  Calls Tryz.prog 7 #[.slice (some ⟨w.heap.size, 0, none⟩) 2 2] (w.alloc (.cells #[c0, c1, c2, c3, c4, c5, d0, d1, d2, d3, d4, d5] 26)) fun e w' => ∃ rs, e = .returned (.agg rs.toArray) ∧ RepT (fun b => b < w'.heap.size) w' (unionT [t, q]) rs ∧ Below w.heap.size w w' := by
 have hb : Below w.heap.size w (w.alloc (.cells #[c0, c1, c2, c3, c4, c5, d0, d1, d2, d3, d4, d5] 26)) := (Below.refl _ _).alloc (Nat.le_refl _) _
 refine (uni2_ref (RepT.low _ _ (ht.later hb)) (RepT.low _ _ (hq.later hb)) (heap_alloc_new w _) hft hfq hct hcq).mono ?_
 rintro e w' ⟨rs, rfl, hr, h⟩
 exact ⟨rs, rfl, RepT.low _ _ hr, hb.trans (h.mono hb.size)⟩
theorem lenC : ∀ l : List Ty, l.length ≤ cntL l
 | [] => Nat.zero_le _
 | a :: l => by rw [cntL_cons, List.length_cons]; have := cntT_pos a; have := lenC l; omega
theorem lenP (t : Ty) : t.ps.length ≤ cntT t := by have h1 := lenC t.ps; have h2 := cnt_ps t; omega
theorem cnt_prts {t p : Ty} (h : p ∈ prtsT t) : cntT p ≤ cntT t := by
 unfold prtsT at h
 split at h
 ·have h1 := cntL_mem h; have h2 := cnt_ps t; omega
 ·split at h
  ·cases h
  ·rw [List.mem_singleton.1 h]; omega
theorem los_in {l m : List Ty} (h : losB l m = false) : ∀ p ∈ l, p ∈ m := fun p hp => by
 unfold losB at h
 rw [List.any_eq_false] at h
 have h1 := h p hp
 simp only [Bool.not_eq_true', Bool.not_eq_false] at h1
 unfold amB at h1
 obtain ⟨q, hq, e⟩ := List.any_eq_true.1 h1
 rw [beq_iff_eq, ordT_zero] at e
 exact e ▸ hq
theorem split_tie {a b k : Ty} (ha : formT a = true) (hb : formT b = true) (hk : formT k = true) (ha3 : a.k ≠ 3) (hb3 : b.k ≠ 3) : (losB (prtsT a) (prtsT (unionT [a, b])) || losB (prtsT b) (prtsT (unionT [a, b]))) = false → atT (unionT [a, b]) k = unionT [atT a k, atT b k] := fun h => by
 rw [Bool.or_eq_false_iff] at h
 exact at_union k rfl ha hb (fun p hp => hp.elim (los_in h.1 p) (los_in h.2 p)) ha3 hb3 hk
theorem cnt_at_le {a k : Ty} (h : cntT a + cntT k ≤ 300) : cntT (atT a k) ≤ 1000000 := by
 have h1 := cnt_at a k
 have h2 : 2 * cntT a * cntT k ≤ 2 * 300 * 300 := Nat.mul_le_mul (Nat.mul_le_mul_left 2 (by omega)) (by omega)
 omega
theorem wpAnyH_more {P : Program} {md : Region.Mode} {ops : Array Oper} {Q : Exit → Act → World → Prop} {S : World → Prop} (S' : World → Prop) (h : ∀ w, S' w → S w) : ∀ {fuel : Nat} {listed : Array Bool} {a : Act} {w : World}, wpAnyH P md ops Q S' fuel listed a w → wpAnyH P md ops Q S fuel listed a w
 | 0, _, _, _, H => H
 | _ + 1, _, _, _, H => ⟨H.1, fun i hi => wpOp_mono (fun _ _ h' => ⟨h _ h'.1, wpAnyH_more S' h h'.2⟩) (H.2 i hi)⟩
set_option maxRecDepth 100000 in
set_option maxHeartbeats 64000000 in
theorem split_m {K K2 K3 : Nat → Prop} {w : World} (k : Int) (s : ByteArray) (n : Int) (ps : List Ty) (fs : List (ByteArray × Int × Ty)) (vs : List (ByteArray × List Ty)) (k3 : Int) (s3 : ByteArray) (n3 : Int) (ps3 : List Ty) (fs3 : List (ByteArray × Int × Ty)) (vs3 : List (ByteArray × List Ty)) (k9 : Int) (s9 : ByteArray) (n9 : Int) (ps9 : List Ty) (fs9 : List (ByteArray × Int × Ty)) (vs9 : List (ByteArray × List Ty)) {cs ds us : List Value} (hr : RepT K w (.mk k s n ps fs vs) cs) (hp : RepT K2 w (.mk k3 s3 n3 ps3 fs3 vs3) ds) (hu : RepT K3 w (.mk k9 s9 n9 ps9 fs9 vs9) us) (hsm : cntT (.mk k s n ps fs vs) + cntT (.mk k3 s3 n3 ps3 fs3 vs3) + cntT (.mk k9 s9 n9 ps9 fs9 vs9) ≤ 300) (hfa : formedT (.mk k s n ps fs vs) = true) (hfb : formedT (.mk k3 s3 n3 ps3 fs3 vs3) = true) (hfk : formedT (.mk k9 s9 n9 ps9 fs9 vs9) = true) (h1 : k ≠ 3) (h2 : k3 ≠ 3) (h3 : k ≠ 2) (h4 : k3 ≠ 2) : Calls Tryz.prog 3 #[.agg cs.toArray, .agg ds.toArray, .agg us.toArray] w (fun e w' => e = .returned (.bool true) ∧ Below w.heap.size w w') := by
 refine split_pre hr hp hu fun A c A' c' A'' c'' A3 c3 B3 d3 C3 e3 A9 c9 B9 d9 C9 e9 w1 h => ?_
 clear hr hp hu
 obtain ⟨HBX, HB1, HS1, HW1, HR, HP, HU⟩ := h
 have KAw := Lib.hid fun wx => awake13 wx
 obtain ⟨X, hX, kx⟩ := nod_later HR.out HB1.out
 obtain ⟨Y, hY, ky⟩ := nod_later HP.out HB1.out
 obtain ⟨Z, hZ, kz⟩ := nod_later HU.out HB1.out
 have KX := Lib.hid kx
 have KY := Lib.hid ky
 have KZ := Lib.hid kz
 have w12 : wrap64 (X + Y) = X + Y := wrap_in (by omega) (by omega)
 have w123 : wrap64 (X + Y + Z) = X + Y + Z := wrap_in (by omega) (by omega)
 have v12 : IntKind.i64.wrap (X + Y) = X + Y := (wrap_kind _).trans w12
 have v123 : IntKind.i64.wrap (X + Y + Z) = X + Y + Z := (wrap_kind _).trans w123
 have g1 : decide ((300 : Int) < X + Y + Z) = false := decide_eq_false (by omega)
 have g2 : ¬ (300 : Int) < X + Y + Z := by omega
 have fta : formT (.mk k s n ps fs vs) = true := by unfold formedT at hfa; rw [Bool.and_eq_true] at hfa; exact hfa.2
 have ftb : formT (.mk k3 s3 n3 ps3 fs3 vs3) = true := by unfold formedT at hfb; rw [Bool.and_eq_true] at hfb; exact hfb.2
 have ku := fun (wx : World) (hx : Below w1.heap.size w1 wx) => uni_ab (HR.out.later (HB1.out.trans (hx.mono HB1.out.size))) (HP.out.later (HB1.out.trans (hx.mono HB1.out.size))) fta ftb (by omega) (by omega)
 have hfu : formT (unionT [(.mk k s n ps fs vs), (.mk k3 s3 n3 ps3 fs3 vs3)]) = true := form_union (fun x hx => by simp only [List.mem_cons, List.not_mem_nil, or_false] at hx; exact hx.elim (fun e => e ▸ fta) (fun e => e ▸ ftb))
 have hcu : cntT (unionT [(.mk k s n ps fs vs), (.mk k3 s3 n3 ps3 fs3 vs3)]) ≤ 301 := by
  have h := cnt_union [(.mk k s n ps fs vs), (.mk k3 s3 n3 ps3 fs3 vs3)]
  rw [cntL_cons, cntL_cons, show cntL [] = 0 from rfl] at h
  omega
 have hfdu : formedT (unionT [(.mk k s n ps fs vs), (.mk k3 s3 n3 ps3 fs3 vs3)]) = true := by unfold formedT; rw [hfu, decide_eq_true (show cntT (unionT [(.mk k s n ps fs vs), (.mk k3 s3 n3 ps3 fs3 vs3)]) ≤ 4096 by omega)]; rfl
 have hfka : formT (.mk k9 s9 n9 ps9 fs9 vs9) = true := by unfold formedT at hfk; rw [Bool.and_eq_true] at hfk; exact hfk.2
 have htie := split_tie fta ftb hfka h1 h2
 have hfta : formT (atT (.mk k s n ps fs vs) (.mk k9 s9 n9 ps9 fs9 vs9)) = true := form_at _ _ fta hfka
 have hftb : formT (atT (.mk k3 s3 n3 ps3 fs3 vs3) (.mk k9 s9 n9 ps9 fs9 vs9)) = true := form_at _ _ ftb hfka
 have hcta : cntT (atT (.mk k s n ps fs vs) (.mk k9 s9 n9 ps9 fs9 vs9)) ≤ 1000000 := cnt_at_le (by omega)
 have hctb : cntT (atT (.mk k3 s3 n3 ps3 fs3 vs3) (.mk k9 s9 n9 ps9 fs9 vs9)) ≤ 1000000 := cnt_at_le (by omega)
 have hpa := lenP (.mk k s n ps fs vs)
 have hpb := lenP (.mk k3 s3 n3 ps3 fs3 vs3)
 have HPA : Hid ((Ty.ps (.mk k s n ps fs vs)).length ≤ 1099511627776) := Lib.hid (by omega)
 have HPB : Hid ((Ty.ps (.mk k3 s3 n3 ps3 fs3 vs3)).length ≤ 1099511627776) := Lib.hid (by omega)
 clear hpa hpb
 generalize huu : unionT [(.mk k s n ps fs vs), (.mk k3 s3 n3 ps3 fs3 vs3)] = un at ku hfu hcu hfdu htie
 have HFU := Lib.hid hfu
 have HCU := Lib.hid hcu
 have HFDU := Lib.hid hfdu
 have ka := fun (wx : World) (hx : Below w1.heap.size w1 wx) => evalat_ok (RepT.low _ _ (HR.out.later (HB1.out.trans (hx.mono HB1.out.size)))) (RepT.low _ _ (HU.out.later (HB1.out.trans (hx.mono HB1.out.size)))) (fun b h => h) hfa hfk
 have kb := fun (wx : World) (hx : Below w1.heap.size w1 wx) => evalat_ok (RepT.low _ _ (HP.out.later (HB1.out.trans (hx.mono HB1.out.size)))) (RepT.low _ _ (HU.out.later (HB1.out.trans (hx.mono HB1.out.size)))) (fun b h => h) hfb hfk
 generalize hta : atT (.mk k s n ps fs vs) (.mk k9 s9 n9 ps9 fs9 vs9) = ta at ka htie hfta hcta
 generalize htb : atT (.mk k3 s3 n3 ps3 fs3 vs3) (.mk k9 s9 n9 ps9 fs9 vs9) = tb at kb htie hftb hctb
 have KA := Lib.hid ka
 have KB := Lib.hid kb
 have HFK := Lib.hid hfk
 have HTIE := Lib.hid htie
 have HFTA := Lib.hid hfta
 have HFTB := Lib.hid hftb
 have HCTA := Lib.hid hcta
 have HCTB := Lib.hid hctb
 clear htie hfta hftb hcta hctb hfka
 clear ka kb hta htb hfu hcu hfdu
 have KU := Lib.hid ku
 clear ku
 have kfa := fun (wx : World) (hx : Below w1.heap.size w1 wx) => formed_ref (HR.out.later (HB1.out.trans (hx.mono HB1.out.size)))
 rw [hfa] at kfa
 have KFa := Lib.hid kfa
 clear kfa hfa
 have kfb := fun (wx : World) (hx : Below w1.heap.size w1 wx) => formed_ref (HP.out.later (HB1.out.trans (hx.mono HB1.out.size)))
 rw [hfb] at kfb
 have KFb := Lib.hid kfb
 clear kfb hfb
 have kfk := fun (wx : World) (hx : Below w1.heap.size w1 wx) => formed_ref (HU.out.later (HB1.out.trans (hx.mono HB1.out.size)))
 rw [hfk] at kfk
 have KFk := Lib.hid kfk
 clear kfk hfk
 have e_k_3 : (k == 3) = false := beq_eq_false_iff_ne.2 (by omega)
 have e_k3_3 : (k3 == 3) = false := beq_eq_false_iff_ne.2 (by omega)
 have e_k_2 : (k == 2) = false := beq_eq_false_iff_ne.2 (by omega)
 have e_k3_2 : (k3 == 2) = false := beq_eq_false_iff_ne.2 (by omega)
 clear h1 h2 h3 h4 huu fta ftb
 clear kx ky kz hX hY hZ hsm
 go_enter Tryz.func3, Tryz.ntmps3
 go_upto_region 1 with fail
 rw [← HW1.out]
 refine wp_region_held_drew (S := (fun w' => (w'.cell? ⟨w.heap.size, 0, none⟩ = some (.int .i64 k) ∧ w'.cell? ⟨w.heap.size, 1, none⟩ = some (.string s) ∧ w'.cell? ⟨w.heap.size, 2, none⟩ = some (.int .i64 n) ∧ w'.cell? ⟨w.heap.size, 3, none⟩ = some (.slice A ps.length c) ∧ w'.cell? ⟨w.heap.size, 4, none⟩ = some (.slice A' fs.length c') ∧ w'.cell? ⟨w.heap.size, 5, none⟩ = some (.slice A'' vs.length c'')) ∧ (w'.cell? ⟨w.heap.size + 1, 0, none⟩ = some (.int .i64 k3) ∧ w'.cell? ⟨w.heap.size + 1, 1, none⟩ = some (.string s3) ∧ w'.cell? ⟨w.heap.size + 1, 2, none⟩ = some (.int .i64 n3) ∧ w'.cell? ⟨w.heap.size + 1, 3, none⟩ = some (.slice A3 ps3.length c3) ∧ w'.cell? ⟨w.heap.size + 1, 4, none⟩ = some (.slice B3 fs3.length d3) ∧ w'.cell? ⟨w.heap.size + 1, 5, none⟩ = some (.slice C3 vs3.length e3)) ∧ (w'.cell? ⟨w.heap.size + 2, 0, none⟩ = some (.int .i64 k9) ∧ w'.cell? ⟨w.heap.size + 2, 1, none⟩ = some (.string s9) ∧ w'.cell? ⟨w.heap.size + 2, 2, none⟩ = some (.int .i64 n9) ∧ w'.cell? ⟨w.heap.size + 2, 3, none⟩ = some (.slice A9 ps9.length c9) ∧ w'.cell? ⟨w.heap.size + 2, 4, none⟩ = some (.slice B9 fs9.length d9) ∧ w'.cell? ⟨w.heap.size + 2, 5, none⟩ = some (.slice C9 vs9.length e9)))) (by kernel_rfl) (HBX.out _ (Below.refl _ _).drew) (fun hHeld => ?_)
 refine wpAnyH_ready (rs := [0]) (by kernel_rfl) (by simp) ?_
 refine AllReadyH.cons (sd (some 15) rfl) (fun Kx hK => ?_) AllReadyH.nil
 go_simp
 refine (KAw.out _).mono ?_
 rintro e w2 ⟨rfl, hb⟩
 have HB2 := Lib.hid (((Below.refl w1.heap.size w1).drew).trans (hb.mono ((Below.refl w1.heap.size w1).drew).size))
 clear hb
 go_wp2_with fail
 refine hK.out _ _ (HBX.out _ HB2.out) (fun hHeld => ?_)
 clear hK Kx
 try simp only [Act.put, List.setIfInBounds_toArray, List.set_cons_zero, List.set_cons_succ]
 refine Plan.start [1, 2, 3, 5, 8] ?_
 iterate 5 ((refine Plan.take (v := ?_) (so rfl) (by kernel_rfl) (by kernel_rfl) (by kernel_rfl) (fun _ _ _ h => h) (Or.inl ⟨by rfl, ?_⟩) hHeld ?_; rotate_left; focus (intro w' hSw; (try dsimp only at hSw); go_simp; try with_reducible rfl)); try simp only [Act.put, List.setIfInBounds_toArray, List.set_cons_zero, List.set_cons_succ])
 refine Plan.done ?_
 refine wpAnyH_ready (rs := [4]) (by kernel_rfl) (by simp) ?_
 refine AllReadyH.cons (sd (some 19) rfl) (fun Kx hK => ?_) AllReadyH.nil
 go_simp
 refine (KX.out _ HB2.out).mono ?_
 rintro e w3 ⟨rfl, hb⟩
 have HB3 := Lib.hid ((HB2.out).trans (hb.mono (HB2.out).size))
 clear hb
 go_wp2_with fail
 refine hK.out _ _ (HBX.out _ HB3.out) (fun hHeld => ?_)
 clear hK Kx
 try simp only [Act.put, List.setIfInBounds_toArray, List.set_cons_zero, List.set_cons_succ]
 refine wpAnyH_ready (rs := [6]) (by kernel_rfl) (by simp) ?_
 refine AllReadyH.cons (sd (some 21) rfl) (fun Kx hK => ?_) AllReadyH.nil
 go_simp
 refine (KY.out _ HB3.out).mono ?_
 rintro e w4 ⟨rfl, hb⟩
 have HB4 := Lib.hid ((HB3.out).trans (hb.mono (HB3.out).size))
 clear hb
 go_wp2_with fail
 refine hK.out _ _ (HBX.out _ HB4.out) (fun hHeld => ?_)
 clear hK Kx
 try simp only [Act.put, List.setIfInBounds_toArray, List.set_cons_zero, List.set_cons_succ]
 refine wpAnyH_take (i := 7) (v := ?_) (sd (some 22) rfl) (by kernel_rfl) (by kernel_rfl) (by kernel_rfl) (fun _ _ _ h => h) (Or.inl ⟨by rfl, ?_⟩) hHeld ?_
 rotate_left
 ·intro w' hSw
  (try dsimp only at hSw)
  go_simp
  try with_reducible rfl
 try simp only [Act.put, List.setIfInBounds_toArray, List.set_cons_zero, List.set_cons_succ]
 refine wpAnyH_ready (rs := [9]) (by kernel_rfl) (by simp) ?_
 refine AllReadyH.cons (sd (some 24) rfl) (fun Kx hK => ?_) AllReadyH.nil
 go_simp
 refine (KZ.out _ HB4.out).mono ?_
 rintro e w5 ⟨rfl, hb⟩
 have HB5 := Lib.hid ((HB4.out).trans (hb.mono (HB4.out).size))
 clear hb
 go_wp2_with fail
 refine hK.out _ _ (HBX.out _ HB5.out) (fun hHeld => ?_)
 clear hK Kx
 try simp only [Act.put, List.setIfInBounds_toArray, List.set_cons_zero, List.set_cons_succ]
 refine Plan.start [10, 11, 12, 13, 14] ?_
 iterate 5 ((refine Plan.take (v := ?_) (so rfl) (by kernel_rfl) (by kernel_rfl) (by kernel_rfl) (fun _ _ _ h => h) (Or.inl ⟨by rfl, ?_⟩) hHeld ?_; rotate_left; focus (intro w' hSw; (try dsimp only at hSw); go_simp; try with_reducible rfl)); try simp only [Act.put, List.setIfInBounds_toArray, List.set_cons_zero, List.set_cons_succ])
 refine Plan.done ?_
 refine wpAnyH_ready (rs := [15]) (by kernel_rfl) (by simp) ?_
 refine AllReadyH.cons (sd (some 30) rfl) (fun Kx hK => ?_) AllReadyH.nil
 go_simp
 refine (KFa.out _ HB5.out).mono ?_
 rintro e w6 ⟨rfl, hb⟩
 have HB6 := Lib.hid ((HB5.out).trans (hb.mono (HB5.out).size))
 clear hb
 go_wp2_with fail
 refine hK.out _ _ (HBX.out _ HB6.out) (fun hHeld => ?_)
 clear hK Kx
 try simp only [Act.put, List.setIfInBounds_toArray, List.set_cons_zero, List.set_cons_succ]
 refine Plan.start [16, 17, 18, 19] ?_
 iterate 4 ((refine Plan.take (v := ?_) (so rfl) (by kernel_rfl) (by kernel_rfl) (by kernel_rfl) (fun _ _ _ h => h) (Or.inl ⟨by rfl, ?_⟩) hHeld ?_; rotate_left; focus (intro w' hSw; (try dsimp only at hSw); go_simp; try with_reducible rfl)); try simp only [Act.put, List.setIfInBounds_toArray, List.set_cons_zero, List.set_cons_succ])
 refine Plan.done ?_
 refine wpAnyH_ready (rs := [20]) (by kernel_rfl) (by simp) ?_
 refine AllReadyH.cons (sd (some 35) rfl) (fun Kx hK => ?_) AllReadyH.nil
 go_simp
 refine (KFb.out _ HB6.out).mono ?_
 rintro e w7 ⟨rfl, hb⟩
 have HB7 := Lib.hid ((HB6.out).trans (hb.mono (HB6.out).size))
 clear hb
 go_wp2_with fail
 refine hK.out _ _ (HBX.out _ HB7.out) (fun hHeld => ?_)
 clear hK Kx
 try simp only [Act.put, List.setIfInBounds_toArray, List.set_cons_zero, List.set_cons_succ]
 refine Plan.start [21, 22, 23, 24] ?_
 iterate 4 ((refine Plan.take (v := ?_) (so rfl) (by kernel_rfl) (by kernel_rfl) (by kernel_rfl) (fun _ _ _ h => h) (Or.inl ⟨by rfl, ?_⟩) hHeld ?_; rotate_left; focus (intro w' hSw; (try dsimp only at hSw); go_simp; try with_reducible rfl)); try simp only [Act.put, List.setIfInBounds_toArray, List.set_cons_zero, List.set_cons_succ])
 refine Plan.done ?_
 refine wpAnyH_ready (rs := [25]) (by kernel_rfl) (by simp) ?_
 refine AllReadyH.cons (sd (some 40) rfl) (fun Kx hK => ?_) AllReadyH.nil
 go_simp
 refine (KFk.out _ HB7.out).mono ?_
 rintro e w8 ⟨rfl, hb⟩
 have HB8 := Lib.hid ((HB7.out).trans (hb.mono (HB7.out).size))
 clear hb
 go_wp2_with fail
 refine hK.out _ _ (HBX.out _ HB8.out) (fun hHeld => ?_)
 clear hK Kx
 try simp only [Act.put, List.setIfInBounds_toArray, List.set_cons_zero, List.set_cons_succ]
 refine Plan.start [26, 27] ?_
 iterate 2 ((refine Plan.take (v := ?_) (so rfl) (by kernel_rfl) (by kernel_rfl) (by kernel_rfl) (fun _ _ _ h => h) (Or.inl ⟨by rfl, ?_⟩) hHeld ?_; rotate_left; focus (intro w' hSw; (try dsimp only at hSw); go_simp; try with_reducible rfl)); try simp only [Act.put, List.setIfInBounds_toArray, List.set_cons_zero, List.set_cons_succ])
 refine Plan.done ?_
 refine wpAnyH_done (by kernel_rfl) ?_ _
 clear hHeld
 have HBY : Hid (∀ wx, Below w1.heap.size w1 wx → (wx.cell? ⟨w.heap.size, 0, none⟩ = some (.int .i64 k) ∧ wx.cell? ⟨w.heap.size, 1, none⟩ = some (.string s) ∧ wx.cell? ⟨w.heap.size, 2, none⟩ = some (.int .i64 n) ∧ wx.cell? ⟨w.heap.size, 3, none⟩ = some (.slice A ps.length c) ∧ wx.cell? ⟨w.heap.size, 4, none⟩ = some (.slice A' fs.length c') ∧ wx.cell? ⟨w.heap.size, 5, none⟩ = some (.slice A'' vs.length c'')) ∧ (wx.cell? ⟨w.heap.size + 1, 0, none⟩ = some (.int .i64 k3) ∧ wx.cell? ⟨w.heap.size + 1, 1, none⟩ = some (.string s3) ∧ wx.cell? ⟨w.heap.size + 1, 2, none⟩ = some (.int .i64 n3) ∧ wx.cell? ⟨w.heap.size + 1, 3, none⟩ = some (.slice A3 ps3.length c3) ∧ wx.cell? ⟨w.heap.size + 1, 4, none⟩ = some (.slice B3 fs3.length d3) ∧ wx.cell? ⟨w.heap.size + 1, 5, none⟩ = some (.slice C3 vs3.length e3)) ∧ (wx.cell? ⟨w.heap.size + 1 + 1, 0, none⟩ = some (.int .i64 k9) ∧ wx.cell? ⟨w.heap.size + 1 + 1, 1, none⟩ = some (.string s9) ∧ wx.cell? ⟨w.heap.size + 1 + 1, 2, none⟩ = some (.int .i64 n9) ∧ wx.cell? ⟨w.heap.size + 1 + 1, 3, none⟩ = some (.slice A9 ps9.length c9) ∧ wx.cell? ⟨w.heap.size + 1 + 1, 4, none⟩ = some (.slice B9 fs9.length d9) ∧ wx.cell? ⟨w.heap.size + 1 + 1, 5, none⟩ = some (.slice C9 vs9.length e9))) := Lib.hid fun wx hx => HBX.out wx hx
 obtain ⟨⟨x0, x1, x2, x3, x4, x5⟩, ⟨y0, y1, y2, y3, y4, y5⟩, ⟨u0, u1, u2, u3, u4, u5⟩⟩ := HBX.out _ HB8.out
 have HBr := Lib.hid (HB8.out)
 go_wp2_with fail
 refine (KU.out _ HBr.out).mono ?_
 rintro e w10 ⟨rs, rfl, hru, hb⟩
 obtain ⟨ku, su, nu, pu, fu, vu⟩ := un
 obtain ⟨Au, cu, Bu, du, Cu, eu, rfl, -⟩ := hru.inv
 simp only [cells6T] at hru ⊢
 have HB10 := Lib.hid (HBr.out.trans (hb.mono HBr.out.size))
 have HRU := Lib.hid hru
 clear x0 x1 x2 x3 x4 x5 y0 y1 y2 y3 y4 y5 u0 u1 u2 u3 u4 u5
 clear hb hru
 go_upto_region 6 with fail
 generalize hW : w10.alloc (.cells #[.int .i64 ku, .string su, .int .i64 nu, .slice Au pu.length cu, .slice Bu fu.length du, .slice Cu vu.length eu] 26) = w11
 have hbn : Below w10.heap.size w10 w11 := by rw [← hW]; exact (Below.refl _ _).alloc (Nat.le_refl _) _
 have rs : w11.heap[w10.heap.size]? = some (.cells #[.int .i64 ku, .string su, .int .i64 nu, .slice Au pu.length cu, .slice Bu fu.length du, .slice Cu vu.length eu] 26 (0, 0)) := by rw [← hW]; exact heap_alloc_new w10 _
 have hrn := HRU.out.later hbn
 clear hW
 have HB11 := Lib.hid (HB10.out.trans (hbn.mono HB10.out.size))
 have HXU : Hid (∀ wx, Below w11.heap.size w11 wx → wx.cell? ⟨w10.heap.size, 0, none⟩ = some (.int .i64 ku) ∧ wx.cell? ⟨w10.heap.size, 1, none⟩ = some (.string su) ∧ wx.cell? ⟨w10.heap.size, 2, none⟩ = some (.int .i64 nu) ∧ wx.cell? ⟨w10.heap.size, 3, none⟩ = some (.slice Au pu.length cu) ∧ wx.cell? ⟨w10.heap.size, 4, none⟩ = some (.slice Bu fu.length du) ∧ wx.cell? ⟨w10.heap.size, 5, none⟩ = some (.slice Cu vu.length eu)) := Lib.hid fun wx hx => by
  have h := box_up hx (Array.getElem?_eq_some_iff.1 rs).1 rs
  exact ⟨Lib.cell_of_heap h 0, Lib.cell_of_heap h 1, Lib.cell_of_heap h 2, Lib.cell_of_heap h 3, Lib.cell_of_heap h 4, Lib.cell_of_heap h 5⟩
 have HRU2 := Lib.hid (RepT.low _ _ hrn)
 have kat := evalat_ok (RepT.low _ _ HRU2.out) (RepT.low _ _ (HU.out.later (HB1.out.trans (HB11.out.mono HB1.out.size)))) (fun b h => h) HFDU.out HFK.out
 have htie := HTIE.out
 clear HTIE
 generalize htx : atT (.mk ku su nu pu fu vu) (.mk k9 s9 n9 ps9 fs9 vs9) = tx at kat htie
 have HTIE := Lib.hid htie
 clear htie
 have KX1 := Lib.hid kat
 clear rs hbn hrn kat htx
 obtain ⟨⟨x0, x1, x2, x3, x4, x5⟩, ⟨y0, y1, y2, y3, y4, y5⟩, ⟨u0, u1, u2, u3, u4, u5⟩⟩ := HBY.out _ HB11.out
 obtain ⟨r0, r1, r2, r3, r4, r5⟩ := HXU.out _ (Below.refl _ _)
 go_wp2_with fail
 refine KX1.out.mono ?_
 rintro e w12 ⟨rs, rfl, hrx, hb⟩
 obtain ⟨kx, sx, nx, px, fx, vx⟩ := tx
 obtain ⟨Ax, cx, Bx, dx, Cx, ex, rfl, -⟩ := hrx.inv
 simp only [cells6T] at hrx ⊢
 have HB12 := Lib.hid (HB11.out.trans (hb.mono HB11.out.size))
 have HST := Lib.hid hb
 have HRX := Lib.hid (RepT.low _ _ hrx)
 clear x0 x1 x2 x3 x4 x5 y0 y1 y2 y3 y4 y5 u0 u1 u2 u3 u4 u5 r0 r1 r2 r3 r4 r5
 clear hb hrx
 go_upto_region 7 with fail
 generalize hW : w12.alloc (.cells #[.int .i64 kx, .string sx, .int .i64 nx, .slice Ax px.length cx, .slice Bx fx.length dx, .slice Cx vx.length ex] 26) = w13
 have hbn : Below w12.heap.size w12 w13 := by rw [← hW]; exact (Below.refl _ _).alloc (Nat.le_refl _) _
 have rs : w13.heap[w12.heap.size]? = some (.cells #[.int .i64 kx, .string sx, .int .i64 nx, .slice Ax px.length cx, .slice Bx fx.length dx, .slice Cx vx.length ex] 26 (0, 0)) := by rw [← hW]; exact heap_alloc_new w12 _
 have hrn := HRX.out.later hbn
 clear hW
 have HB13 := Lib.hid (HB12.out.trans (hbn.mono HB12.out.size))
 have HST13 := Lib.hid (HST.out.trans (hbn.mono HST.out.size))
 have HXx := Lib.hid rs
 have HRx := Lib.hid (RepT.low _ _ hrn)
 clear rs hbn hrn HRX HST
 obtain ⟨⟨x0, x1, x2, x3, x4, x5⟩, ⟨y0, y1, y2, y3, y4, y5⟩, ⟨u0, u1, u2, u3, u4, u5⟩⟩ := HBY.out _ HB13.out
 go_wp2_with fail
 refine (KA.out _ HB13.out).mono ?_
 rintro e w14 ⟨rs, rfl, hrx, hb⟩
 obtain ⟨ky, sy, ny, py, fy, vy⟩ := ta
 obtain ⟨Ay, cy, By, dy, Cy, ey, rfl, -⟩ := hrx.inv
 simp only [cells6T] at hrx ⊢
 have HB14 := Lib.hid (HB13.out.trans (hb.mono HB13.out.size))
 have HST := Lib.hid hb
 have HRX := Lib.hid (RepT.low _ _ hrx)
 clear x0 x1 x2 x3 x4 x5 y0 y1 y2 y3 y4 y5 u0 u1 u2 u3 u4 u5
 clear hb hrx
 go_upto_region 8 with fail
 generalize hW : w14.alloc (.cells #[.int .i64 ky, .string sy, .int .i64 ny, .slice Ay py.length cy, .slice By fy.length dy, .slice Cy vy.length ey] 26) = w15
 have hbn : Below w14.heap.size w14 w15 := by rw [← hW]; exact (Below.refl _ _).alloc (Nat.le_refl _) _
 have rs : w15.heap[w14.heap.size]? = some (.cells #[.int .i64 ky, .string sy, .int .i64 ny, .slice Ay py.length cy, .slice By fy.length dy, .slice Cy vy.length ey] 26 (0, 0)) := by rw [← hW]; exact heap_alloc_new w14 _
 have hrn := HRX.out.later hbn
 clear hW
 have HB15 := Lib.hid (HB14.out.trans (hbn.mono HB14.out.size))
 have HST15 := Lib.hid (HST.out.trans (hbn.mono HST.out.size))
 have HXy := Lib.hid rs
 have HRy := Lib.hid (RepT.low _ _ hrn)
 clear rs hbn hrn HRX HST
 obtain ⟨⟨x0, x1, x2, x3, x4, x5⟩, ⟨y0, y1, y2, y3, y4, y5⟩, ⟨u0, u1, u2, u3, u4, u5⟩⟩ := HBY.out _ HB15.out
 go_wp2_with fail
 refine (KB.out _ HB15.out).mono ?_
 rintro e w16 ⟨rs, rfl, hrx, hb⟩
 obtain ⟨kz, sz, nz, pz, fz, vz⟩ := tb
 obtain ⟨Az, cz, Bz, dz, Cz, ez, rfl, -⟩ := hrx.inv
 simp only [cells6T] at hrx ⊢
 have HB16 := Lib.hid (HB15.out.trans (hb.mono HB15.out.size))
 have HST := Lib.hid hb
 have HRX := Lib.hid (RepT.low _ _ hrx)
 clear x0 x1 x2 x3 x4 x5 y0 y1 y2 y3 y4 y5 u0 u1 u2 u3 u4 u5
 clear hb hrx
 go_upto_region 9 with fail
 generalize hW : w16.alloc (.cells #[.int .i64 kz, .string sz, .int .i64 nz, .slice Az pz.length cz, .slice Bz fz.length dz, .slice Cz vz.length ez] 26) = w17
 have hbn : Below w16.heap.size w16 w17 := by rw [← hW]; exact (Below.refl _ _).alloc (Nat.le_refl _) _
 have rs : w17.heap[w16.heap.size]? = some (.cells #[.int .i64 kz, .string sz, .int .i64 nz, .slice Az pz.length cz, .slice Bz fz.length dz, .slice Cz vz.length ez] 26 (0, 0)) := by rw [← hW]; exact heap_alloc_new w16 _
 have hrn := HRX.out.later hbn
 clear hW
 have HB17 := Lib.hid (HB16.out.trans (hbn.mono HB16.out.size))
 have HST17 := Lib.hid (HST.out.trans (hbn.mono HST.out.size))
 have HXz := Lib.hid rs
 have HRz := Lib.hid (RepT.low _ _ hrn)
 clear rs hbn hrn HRX HST
 have B17 := Lib.hid (HST13.out.trans ((HST15.out.trans (HST17.out.mono HST15.out.size)).mono HST13.out.size))
 have BY17 := Lib.hid (HST15.out.trans (HST17.out.mono HST15.out.size))
 have HALL : Hid (∀ wx, Below w17.heap.size w17 wx → (wx.cell? ⟨w10.heap.size, 0, none⟩ = some (.int .i64 ku) ∧ wx.cell? ⟨w10.heap.size, 1, none⟩ = some (.string su) ∧ wx.cell? ⟨w10.heap.size, 2, none⟩ = some (.int .i64 nu) ∧ wx.cell? ⟨w10.heap.size, 3, none⟩ = some (.slice Au pu.length cu) ∧ wx.cell? ⟨w10.heap.size, 4, none⟩ = some (.slice Bu fu.length du) ∧ wx.cell? ⟨w10.heap.size, 5, none⟩ = some (.slice Cu vu.length eu)) ∧ (wx.cell? ⟨w12.heap.size, 0, none⟩ = some (.int .i64 kx) ∧ wx.cell? ⟨w12.heap.size, 1, none⟩ = some (.string sx) ∧ wx.cell? ⟨w12.heap.size, 2, none⟩ = some (.int .i64 nx) ∧ wx.cell? ⟨w12.heap.size, 3, none⟩ = some (.slice Ax px.length cx) ∧ wx.cell? ⟨w12.heap.size, 4, none⟩ = some (.slice Bx fx.length dx) ∧ wx.cell? ⟨w12.heap.size, 5, none⟩ = some (.slice Cx vx.length ex)) ∧ (wx.cell? ⟨w14.heap.size, 0, none⟩ = some (.int .i64 ky) ∧ wx.cell? ⟨w14.heap.size, 1, none⟩ = some (.string sy) ∧ wx.cell? ⟨w14.heap.size, 2, none⟩ = some (.int .i64 ny) ∧ wx.cell? ⟨w14.heap.size, 3, none⟩ = some (.slice Ay py.length cy) ∧ wx.cell? ⟨w14.heap.size, 4, none⟩ = some (.slice By fy.length dy) ∧ wx.cell? ⟨w14.heap.size, 5, none⟩ = some (.slice Cy vy.length ey)) ∧ (wx.cell? ⟨w16.heap.size, 0, none⟩ = some (.int .i64 kz) ∧ wx.cell? ⟨w16.heap.size, 1, none⟩ = some (.string sz) ∧ wx.cell? ⟨w16.heap.size, 2, none⟩ = some (.int .i64 nz) ∧ wx.cell? ⟨w16.heap.size, 3, none⟩ = some (.slice Az pz.length cz) ∧ wx.cell? ⟨w16.heap.size, 4, none⟩ = some (.slice Bz fz.length dz) ∧ wx.cell? ⟨w16.heap.size, 5, none⟩ = some (.slice Cz vz.length ez))) := Lib.hid fun wx hx => by
  have h1 := box_up (BY17.out.trans (hx.mono BY17.out.size)) (Array.getElem?_eq_some_iff.1 HXx.out).1 HXx.out
  have h2 := box_up (HST17.out.trans (hx.mono HST17.out.size)) (Array.getElem?_eq_some_iff.1 HXy.out).1 HXy.out
  have h3 := box_up hx (Array.getElem?_eq_some_iff.1 HXz.out).1 HXz.out
  exact ⟨HXU.out wx (B17.out.trans (hx.mono B17.out.size)), ⟨Lib.cell_of_heap h1 0, Lib.cell_of_heap h1 1, Lib.cell_of_heap h1 2, Lib.cell_of_heap h1 3, Lib.cell_of_heap h1 4, Lib.cell_of_heap h1 5⟩, ⟨Lib.cell_of_heap h2 0, Lib.cell_of_heap h2 1, Lib.cell_of_heap h2 2, Lib.cell_of_heap h2 3, Lib.cell_of_heap h2 4, Lib.cell_of_heap h2 5⟩, ⟨Lib.cell_of_heap h3 0, Lib.cell_of_heap h3 1, Lib.cell_of_heap h3 2, Lib.cell_of_heap h3 3, Lib.cell_of_heap h3 4, Lib.cell_of_heap h3 5⟩⟩
 have hpl : (Ty.ps (.mk ku su nu pu fu vu)).length ≤ 1099511627776 := by have h1 := lenP (.mk ku su nu pu fu vu); have h2 := HCU.out; omega
 have kpu := fun (wx : World) (hx : Below w17.heap.size w17 wx) => eparts_any (RepT.low _ _ (HRU2.out.later (B17.out.trans (hx.mono B17.out.size)))) (fun b h => h) hpl
 have klo := fun (wx : World) (hx : Below w17.heap.size w17 wx) => lost13 (HR.out.later (HB1.out.trans ((HB17.out.trans (hx.mono HB17.out.size)).mono HB1.out.size))) (HP.out.later (HB1.out.trans ((HB17.out.trans (hx.mono HB17.out.size)).mono HB1.out.size))) (HRU2.out.later (B17.out.trans (hx.mono B17.out.size))) HPA.out HPB.out hpl
 have hpf : ∀ p ∈ prtsT (.mk ku su nu pu fu vu), formT p = true ∧ cntT p ≤ 10000 := fun p hp => ⟨form_parts HFU.out p hp, by have h1 := cnt_prts hp; have h2 := HCU.out; omega⟩
 have htie := HTIE.out
 clear HTIE
 generalize prtsT (.mk ku su nu pu fu vu) = lu at kpu klo hpf htie
 generalize (losB (prtsT (.mk k s n ps fs vs)) lu || losB (prtsT (.mk k3 s3 n3 ps3 fs3 vs3)) lu) = z at klo htie
 have KPU := Lib.hid kpu
 have KLO := Lib.hid klo
 have HPF := Lib.hid hpf
 have HTIE := Lib.hid htie
 have HRXX := Lib.hid fun (wx : World) (hx : Below w17.heap.size w17 wx) => RepT.low _ _ (HRx.out.later (BY17.out.trans (hx.mono BY17.out.size)))
 have HRYY := Lib.hid fun (wx : World) (hx : Below w17.heap.size w17 wx) => RepT.low _ _ (HRy.out.later (HST17.out.trans (hx.mono HST17.out.size)))
 have HRZZ := Lib.hid fun (wx : World) (hx : Below w17.heap.size w17 wx) => RepT.low _ _ (HRz.out.later hx)
 clear hpl kpu klo hpf htie
 go_wp2_with fail
 go_loopw [14] (fun v wr => ∃ (i : Nat), i ≤ lu.length ∧ v = .int .i64 i ∧ Below w17.heap.size w17 wr) (fun v _ => lu.length - (intOf v).toNat)
 case atStart => exact ⟨0, by omega, rfl, Below.refl _ _⟩
 case round =>
  obtain ⟨i, hi, rfl, hb⟩ := hrel
  have HB := Lib.hid hb
  have HI := Lib.hid hi
  clear hb hi
  obtain ⟨⟨u0, u1, u2, u3, u4, u5⟩, -, -, -⟩ := HALL.out _ HB.out
  go_wp2_with fail
  refine (KPU.out _ HB.out).mono ?_
  rintro e w18 ⟨A5, c5, rfl, hl5, hb⟩
  have hll := hl5.short
  have HB18 := Lib.hid (HB.out.trans (hb.mono HB.out.size))
  clear hl5 hb
  clear u0 u1 u2 u3 u4 u5
  obtain ⟨⟨u0, u1, u2, u3, u4, u5⟩, -, -, -⟩ := HALL.out _ HB18.out
  by_cases hin : i < lu.length
  ·have t1 : decide ((i : Int) < (lu.length : Int)) = true := by simp; omega
   have wr2 : wrap64 ((i : Int) + 1) = ((i + 1 : Nat) : Int) := wrap_one (by omega)
   have HM := Lib.hid (measI hin)
   have HIn : Hid (i + 1 ≤ lu.length) := Lib.hid hin
   have HN : Hid (i < lu.length) := Lib.hid hin
   have i1 : (0 : Int) ≤ (i : Int) := by omega
   have i2 : (i : Int) < (lu.length : Int) := by omega
   obtain ⟨hfp, hcp⟩ := HPF.out _ (List.getElem_mem hin)
   obtain ⟨k4, s4, n4, ps4, fs4, vs4, hpe⟩ : ∃ a b c d e f, lu[i]'hin = .mk a b c d e f := by
    cases lu[i]'hin with
    | mk a b c d e f => exact ⟨a, b, c, d, e, f, rfl⟩
   rw [hpe] at hfp hcp
   have HSELF := Lib.hid (union_self hfp)
   have HFP := Lib.hid hfp
   have HCP := Lib.hid hcp
   have HPE := Lib.hid hpe
   have HB19 := Lib.hid HB18.out.drew
   clear hfp hcp hpe
   go_upto_region 14 with fail
   clear u0 u1 u2 u3 u4 u5
   refine wp_region_held_drew (S := (fun w' => (w'.cell? ⟨w10.heap.size, 0, none⟩ = some (.int .i64 ku) ∧ w'.cell? ⟨w10.heap.size, 1, none⟩ = some (.string su) ∧ w'.cell? ⟨w10.heap.size, 2, none⟩ = some (.int .i64 nu) ∧ w'.cell? ⟨w10.heap.size, 3, none⟩ = some (.slice Au pu.length cu) ∧ w'.cell? ⟨w10.heap.size, 4, none⟩ = some (.slice Bu fu.length du) ∧ w'.cell? ⟨w10.heap.size, 5, none⟩ = some (.slice Cu vu.length eu)))) (by kernel_rfl) (HALL.out _ HB19.out).1 (fun hHeld => ?_)
   refine Plan.start [0, 2, 5, 7] ?_
   iterate 4 ((refine Plan.take (v := ?_) (so rfl) (by kernel_rfl) (by kernel_rfl) (by kernel_rfl) (fun _ _ _ h => h) (Or.inl ⟨by rfl, ?_⟩) hHeld ?_; rotate_left; focus (intro w' hSw; (try dsimp only at hSw); go_simp; try with_reducible rfl)); try simp only [Act.put, List.setIfInBounds_toArray, List.set_cons_zero, List.set_cons_succ])
   refine Plan.done ?_
   refine wpAnyH_ready (rs := [1]) (by kernel_rfl) (by simp) ?_
   refine AllReadyH.cons (sd (some 102) rfl) (fun Kx hK => ?_) AllReadyH.nil
   go_simp
   refine (KPU.out _ HB19.out).mono ?_
   rintro e w20 ⟨A6, c6, rfl, hl6, hb⟩
   obtain ⟨b4, o4, hA, _, hat⟩ := hl6.at (by have := HN.out; omega)
   subst hA
   obtain ⟨dq, hdq, hrq⟩ := hat i HN.out
   rw [HPE.out] at hrq
   obtain ⟨A4, c4, B4, d4, C4, e4, rfl, -⟩ := hrq.inv
   simp only [cells6T] at hdq hrq
   have HB20 := Lib.hid (HB19.out.trans (hb.mono HB19.out.size))
   have HELa : Hid (∀ wx, Below w20.heap.size w20 wx → wx.cell? ⟨b4, o4 + i * 6, none⟩ = some (.int .i64 k4) ∧ wx.cell? ⟨b4, o4 + i * 6 + 1, none⟩ = some (.string s4) ∧ wx.cell? ⟨b4, o4 + i * 6 + 2, none⟩ = some (.int .i64 n4) ∧ wx.cell? ⟨b4, o4 + i * 6 + 3, none⟩ = some (.slice A4 ps4.length c4) ∧ wx.cell? ⟨b4, o4 + i * 6 + 4, none⟩ = some (.slice B4 fs4.length d4) ∧ wx.cell? ⟨b4, o4 + i * 6 + 5, none⟩ = some (.slice C4 vs4.length e4)) := Lib.hid fun wx hx => ⟨cell_stays hx (hdq 0 _ rfl), cell_stays hx (hdq 1 _ rfl), cell_stays hx (hdq 2 _ rfl), cell_stays hx (hdq 3 _ rfl), cell_stays hx (hdq 4 _ rfl), cell_stays hx (hdq 5 _ rfl)⟩
   have HRa := Lib.hid fun (wx : World) (hx : Below w20.heap.size w20 wx) => RepT.low _ _ (hrq.later hx)
   have Ha20 := Lib.hid (Below.refl w20.heap.size w20)
   clear hb hl6 hat hdq hrq
   go_wp2_with fail
   refine hK.out _ _ ((HALL.out _ HB20.out).1) (fun hHeld => ?_)
   clear hK Kx
   try simp only [Act.put, List.setIfInBounds_toArray, List.set_cons_zero, List.set_cons_succ]
   refine wpAnyH_more (fun w' => ((w'.cell? ⟨w10.heap.size, 0, none⟩ = some (.int .i64 ku) ∧ w'.cell? ⟨w10.heap.size, 1, none⟩ = some (.string su) ∧ w'.cell? ⟨w10.heap.size, 2, none⟩ = some (.int .i64 nu) ∧ w'.cell? ⟨w10.heap.size, 3, none⟩ = some (.slice Au pu.length cu) ∧ w'.cell? ⟨w10.heap.size, 4, none⟩ = some (.slice Bu fu.length du) ∧ w'.cell? ⟨w10.heap.size, 5, none⟩ = some (.slice Cu vu.length eu)) ∧ (w'.cell? ⟨b4, o4 + i * 6, none⟩ = some (.int .i64 k4) ∧ w'.cell? ⟨b4, o4 + i * 6 + 1, none⟩ = some (.string s4) ∧ w'.cell? ⟨b4, o4 + i * 6 + 2, none⟩ = some (.int .i64 n4) ∧ w'.cell? ⟨b4, o4 + i * 6 + 3, none⟩ = some (.slice A4 ps4.length c4) ∧ w'.cell? ⟨b4, o4 + i * 6 + 4, none⟩ = some (.slice B4 fs4.length d4) ∧ w'.cell? ⟨b4, o4 + i * 6 + 5, none⟩ = some (.slice C4 vs4.length e4)))) (fun _ h => h.1) ?_
   replace hHeld := And.intro hHeld (HELa.out _ Ha20.out)
   refine Plan.start [3, 4] ?_
   iterate 2 ((refine Plan.take (v := ?_) (so rfl) (by kernel_rfl) (by kernel_rfl) (by kernel_rfl) (fun _ _ _ h => h) (Or.inl ⟨by rfl, ?_⟩) hHeld ?_; rotate_left; focus (intro w' hSw; (try dsimp only at hSw); go_simp; try with_reducible rfl)); try simp only [Act.put, List.setIfInBounds_toArray, List.set_cons_zero, List.set_cons_succ])
   refine Plan.done ?_
   refine wpAnyH_ready (rs := [6]) (by kernel_rfl) (by simp) ?_
   refine AllReadyH.cons (sd (some 107) rfl) (fun Kx hK => ?_) AllReadyH.nil
   go_simp
   refine (KPU.out _ HB20.out).mono ?_
   rintro e w21 ⟨A6, c6, rfl, hl6, hb⟩
   obtain ⟨b7, o7, hA, _, hat⟩ := hl6.at (by have := HN.out; omega)
   subst hA
   obtain ⟨dq, hdq, hrq⟩ := hat i HN.out
   rw [HPE.out] at hrq
   obtain ⟨A7, c7, B7, d7, C7, e7, rfl, -⟩ := hrq.inv
   simp only [cells6T] at hdq hrq
   have HB21 := Lib.hid (HB20.out.trans (hb.mono HB20.out.size))
   have Ha21 := Lib.hid (Ha20.out.trans (hb.mono Ha20.out.size))
   have HELb : Hid (∀ wx, Below w21.heap.size w21 wx → wx.cell? ⟨b7, o7 + i * 6, none⟩ = some (.int .i64 k4) ∧ wx.cell? ⟨b7, o7 + i * 6 + 1, none⟩ = some (.string s4) ∧ wx.cell? ⟨b7, o7 + i * 6 + 2, none⟩ = some (.int .i64 n4) ∧ wx.cell? ⟨b7, o7 + i * 6 + 3, none⟩ = some (.slice A7 ps4.length c7) ∧ wx.cell? ⟨b7, o7 + i * 6 + 4, none⟩ = some (.slice B7 fs4.length d7) ∧ wx.cell? ⟨b7, o7 + i * 6 + 5, none⟩ = some (.slice C7 vs4.length e7)) := Lib.hid fun wx hx => ⟨cell_stays hx (hdq 0 _ rfl), cell_stays hx (hdq 1 _ rfl), cell_stays hx (hdq 2 _ rfl), cell_stays hx (hdq 3 _ rfl), cell_stays hx (hdq 4 _ rfl), cell_stays hx (hdq 5 _ rfl)⟩
   have HRb := Lib.hid fun (wx : World) (hx : Below w21.heap.size w21 wx) => RepT.low _ _ (hrq.later hx)
   have Hb21 := Lib.hid (Below.refl w21.heap.size w21)
   clear hb hl6 hat hdq hrq
   go_wp2_with fail
   refine hK.out _ _ (⟨(HALL.out _ HB21.out).1, HELa.out _ Ha21.out⟩) (fun hHeld => ?_)
   clear hK Kx
   try simp only [Act.put, List.setIfInBounds_toArray, List.set_cons_zero, List.set_cons_succ]
   refine wpAnyH_more (fun w' => (((w'.cell? ⟨w10.heap.size, 0, none⟩ = some (.int .i64 ku) ∧ w'.cell? ⟨w10.heap.size, 1, none⟩ = some (.string su) ∧ w'.cell? ⟨w10.heap.size, 2, none⟩ = some (.int .i64 nu) ∧ w'.cell? ⟨w10.heap.size, 3, none⟩ = some (.slice Au pu.length cu) ∧ w'.cell? ⟨w10.heap.size, 4, none⟩ = some (.slice Bu fu.length du) ∧ w'.cell? ⟨w10.heap.size, 5, none⟩ = some (.slice Cu vu.length eu)) ∧ (w'.cell? ⟨b4, o4 + i * 6, none⟩ = some (.int .i64 k4) ∧ w'.cell? ⟨b4, o4 + i * 6 + 1, none⟩ = some (.string s4) ∧ w'.cell? ⟨b4, o4 + i * 6 + 2, none⟩ = some (.int .i64 n4) ∧ w'.cell? ⟨b4, o4 + i * 6 + 3, none⟩ = some (.slice A4 ps4.length c4) ∧ w'.cell? ⟨b4, o4 + i * 6 + 4, none⟩ = some (.slice B4 fs4.length d4) ∧ w'.cell? ⟨b4, o4 + i * 6 + 5, none⟩ = some (.slice C4 vs4.length e4))) ∧ (w'.cell? ⟨b7, o7 + i * 6, none⟩ = some (.int .i64 k4) ∧ w'.cell? ⟨b7, o7 + i * 6 + 1, none⟩ = some (.string s4) ∧ w'.cell? ⟨b7, o7 + i * 6 + 2, none⟩ = some (.int .i64 n4) ∧ w'.cell? ⟨b7, o7 + i * 6 + 3, none⟩ = some (.slice A7 ps4.length c7) ∧ w'.cell? ⟨b7, o7 + i * 6 + 4, none⟩ = some (.slice B7 fs4.length d7) ∧ w'.cell? ⟨b7, o7 + i * 6 + 5, none⟩ = some (.slice C7 vs4.length e7)))) (fun _ h => h.1) ?_
   replace hHeld := And.intro hHeld (HELb.out _ Hb21.out)
   refine Plan.start [8, 9] ?_
   iterate 2 ((refine Plan.take (v := ?_) (so rfl) (by kernel_rfl) (by kernel_rfl) (by kernel_rfl) (fun _ _ _ h => h) (Or.inl ⟨by rfl, ?_⟩) hHeld ?_; rotate_left; focus (intro w' hSw; (try dsimp only at hSw); go_simp; try with_reducible rfl)); try simp only [Act.put, List.setIfInBounds_toArray, List.set_cons_zero, List.set_cons_succ])
   refine Plan.done ?_
   refine wpAnyH_ready (rs := [10]) (by kernel_rfl) (by simp) ?_
   refine AllReadyH.cons (sd (some 111) rfl) (fun Kx hK => ?_) AllReadyH.nil
   go_simp
   generalize hW : w21.alloc (.cells #[.int .i64 k4, .string s4, .int .i64 n4, .slice A7 ps4.length c7, .slice B7 fs4.length d7, .slice C7 vs4.length e7] 26) = w22
   have hb : Below w21.heap.size w21 w22 := by rw [← hW]; exact (Below.refl _ _).alloc (Nat.le_refl _) _
   have rs : w22.heap[w21.heap.size]? = some (.cells #[.int .i64 k4, .string s4, .int .i64 n4, .slice A7 ps4.length c7, .slice B7 fs4.length d7, .slice C7 vs4.length e7] 26 (0, 0)) := by rw [← hW]; exact heap_alloc_new w21 _
   have HB22 := Lib.hid (HB21.out.trans (hb.mono HB21.out.size))
   have Ha22 := Lib.hid (Ha21.out.trans (hb.mono Ha21.out.size))
   have Hb22 := Lib.hid (Hb21.out.trans (hb.mono Hb21.out.size))
   have HG := Lib.hid fun (wx : World) (hx : Below w22.heap.size w22 wx) => box_up hx (Array.getElem?_eq_some_iff.1 rs).1 rs
   have Hg22 := Lib.hid (Below.refl w22.heap.size w22)
   clear hW rs hb
   refine hK.out _ _ (⟨⟨(HALL.out _ HB22.out).1, HELa.out _ Ha22.out⟩, HELb.out _ Hb22.out⟩) (fun hHeld => ?_)
   clear hK Kx
   try simp only [Act.put, List.setIfInBounds_toArray, List.set_cons_zero, List.set_cons_succ]
   refine wpAnyH_ready (rs := [11]) (by kernel_rfl) (by simp) ?_
   refine AllReadyH.cons (sd (some 112) rfl) (fun Kx hK => ?_) AllReadyH.nil
   go_simp
   refine (uni1_ref (HRb.out _ Hb22.out) (fun b h => h) (HG.out _ Hg22.out) HFP.out HCP.out).mono ?_
   rintro e w23 ⟨rs, rfl, hru, hb⟩
   rw [HSELF.out] at hru
   have HB23 := Lib.hid (HB22.out.trans (hb.mono HB22.out.size))
   have Ha23 := Lib.hid (Ha22.out.trans (hb.mono Ha22.out.size))
   have Hb23 := Lib.hid (Hb22.out.trans (hb.mono Hb22.out.size))
   have Hg23 := Lib.hid (Hg22.out.trans (hb.mono Hg22.out.size))
   have HRs := Lib.hid fun (wx : World) (hx : Below w23.heap.size w23 wx) => RepT.low _ _ (hru.later hx)
   have Hs23 := Lib.hid (Below.refl w23.heap.size w23)
   clear hb hru
   go_wp2_with fail
   refine hK.out _ _ (⟨⟨(HALL.out _ HB23.out).1, HELa.out _ Ha23.out⟩, HELb.out _ Hb23.out⟩) (fun hHeld => ?_)
   clear hK Kx
   try simp only [Act.put, List.setIfInBounds_toArray, List.set_cons_zero, List.set_cons_succ]
   refine wpAnyH_ready (rs := [12]) (by kernel_rfl) (by simp) ?_
   refine AllReadyH.cons (sd (some 113) rfl) (fun Kx hK => ?_) AllReadyH.nil
   go_simp
   refine (order_ref _ _ _ _ _ _ _ (HRa.out _ Ha23.out) (HRs.out _ Hs23.out)).mono ?_
   rintro e w24 ⟨he, hg⟩
   rw [ordT_zero.2 rfl] at he
   subst he
   have hb := hg.below
   have HB24 := Lib.hid (HB23.out.trans (hb.mono HB23.out.size))
   have Ha24 := Lib.hid (Ha23.out.trans (hb.mono Ha23.out.size))
   have Hb24 := Lib.hid (Hb23.out.trans (hb.mono Hb23.out.size))
   have Hg24 := Lib.hid (Hg23.out.trans (hb.mono Hg23.out.size))
   have Hs24 := Lib.hid (Hs23.out.trans (hb.mono Hs23.out.size))
   clear hb hg
   go_wp2_with fail
   refine hK.out _ _ (⟨⟨(HALL.out _ HB24.out).1, HELa.out _ Ha24.out⟩, HELb.out _ Hb24.out⟩) (fun hHeld => ?_)
   clear hK Kx
   try simp only [Act.put, List.setIfInBounds_toArray, List.set_cons_zero, List.set_cons_succ]
   refine wpAnyH_take (i := 13) (v := ?_) (sd (some 114) rfl) (by kernel_rfl) (by kernel_rfl) (by kernel_rfl) (fun _ _ _ h => h) (Or.inl ⟨by rfl, ?_⟩) hHeld ?_
   rotate_left
   ·intro w' hSw
    (try dsimp only at hSw)
    go_simp
    try with_reducible rfl
   try simp only [Act.put, List.setIfInBounds_toArray, List.set_cons_zero, List.set_cons_succ]
   refine wpAnyH_done (by kernel_rfl) ?_ _
   clear hHeld
   go_wp2_with fail
   refine ⟨⟨i + 1, HIn.out, by first | rfl | rw [wr2], HB24.out⟩, ?_⟩
   first | exact HM.out | (rw [wr2]; exact HM.out)
  ·have t1 : decide ((i : Int) < (lu.length : Int)) = false := by simp; omega
   have HB19 := Lib.hid HB18.out.drew
   have HSS : Hid (∀ wx, Below w17.heap.size w17 wx → ((wx.cell? ⟨w.heap.size, 0, none⟩ = some (.int .i64 k) ∧ wx.cell? ⟨w.heap.size, 1, none⟩ = some (.string s) ∧ wx.cell? ⟨w.heap.size, 2, none⟩ = some (.int .i64 n) ∧ wx.cell? ⟨w.heap.size, 3, none⟩ = some (.slice A ps.length c) ∧ wx.cell? ⟨w.heap.size, 4, none⟩ = some (.slice A' fs.length c') ∧ wx.cell? ⟨w.heap.size, 5, none⟩ = some (.slice A'' vs.length c'')) ∧ (wx.cell? ⟨w.heap.size + 1, 0, none⟩ = some (.int .i64 k3) ∧ wx.cell? ⟨w.heap.size + 1, 1, none⟩ = some (.string s3) ∧ wx.cell? ⟨w.heap.size + 1, 2, none⟩ = some (.int .i64 n3) ∧ wx.cell? ⟨w.heap.size + 1, 3, none⟩ = some (.slice A3 ps3.length c3) ∧ wx.cell? ⟨w.heap.size + 1, 4, none⟩ = some (.slice B3 fs3.length d3) ∧ wx.cell? ⟨w.heap.size + 1, 5, none⟩ = some (.slice C3 vs3.length e3)) ∧ (wx.cell? ⟨w.heap.size + 1 + 1, 0, none⟩ = some (.int .i64 k9) ∧ wx.cell? ⟨w.heap.size + 1 + 1, 1, none⟩ = some (.string s9) ∧ wx.cell? ⟨w.heap.size + 1 + 1, 2, none⟩ = some (.int .i64 n9) ∧ wx.cell? ⟨w.heap.size + 1 + 1, 3, none⟩ = some (.slice A9 ps9.length c9) ∧ wx.cell? ⟨w.heap.size + 1 + 1, 4, none⟩ = some (.slice B9 fs9.length d9) ∧ wx.cell? ⟨w.heap.size + 1 + 1, 5, none⟩ = some (.slice C9 vs9.length e9))) ∧ (wx.cell? ⟨w10.heap.size, 0, none⟩ = some (.int .i64 ku) ∧ wx.cell? ⟨w10.heap.size, 1, none⟩ = some (.string su) ∧ wx.cell? ⟨w10.heap.size, 2, none⟩ = some (.int .i64 nu) ∧ wx.cell? ⟨w10.heap.size, 3, none⟩ = some (.slice Au pu.length cu) ∧ wx.cell? ⟨w10.heap.size, 4, none⟩ = some (.slice Bu fu.length du) ∧ wx.cell? ⟨w10.heap.size, 5, none⟩ = some (.slice Cu vu.length eu)) ∧ (wx.cell? ⟨w12.heap.size, 0, none⟩ = some (.int .i64 kx) ∧ wx.cell? ⟨w12.heap.size, 1, none⟩ = some (.string sx) ∧ wx.cell? ⟨w12.heap.size, 2, none⟩ = some (.int .i64 nx) ∧ wx.cell? ⟨w12.heap.size, 3, none⟩ = some (.slice Ax px.length cx) ∧ wx.cell? ⟨w12.heap.size, 4, none⟩ = some (.slice Bx fx.length dx) ∧ wx.cell? ⟨w12.heap.size, 5, none⟩ = some (.slice Cx vx.length ex)) ∧ (wx.cell? ⟨w14.heap.size, 0, none⟩ = some (.int .i64 ky) ∧ wx.cell? ⟨w14.heap.size, 1, none⟩ = some (.string sy) ∧ wx.cell? ⟨w14.heap.size, 2, none⟩ = some (.int .i64 ny) ∧ wx.cell? ⟨w14.heap.size, 3, none⟩ = some (.slice Ay py.length cy) ∧ wx.cell? ⟨w14.heap.size, 4, none⟩ = some (.slice By fy.length dy) ∧ wx.cell? ⟨w14.heap.size, 5, none⟩ = some (.slice Cy vy.length ey)) ∧ (wx.cell? ⟨w16.heap.size, 0, none⟩ = some (.int .i64 kz) ∧ wx.cell? ⟨w16.heap.size, 1, none⟩ = some (.string sz) ∧ wx.cell? ⟨w16.heap.size, 2, none⟩ = some (.int .i64 nz) ∧ wx.cell? ⟨w16.heap.size, 3, none⟩ = some (.slice Az pz.length cz) ∧ wx.cell? ⟨w16.heap.size, 4, none⟩ = some (.slice Bz fz.length dz) ∧ wx.cell? ⟨w16.heap.size, 5, none⟩ = some (.slice Cz vz.length ez))) := Lib.hid fun wx hx => ⟨HBX.out wx (HB17.out.trans (hx.mono HB17.out.size)), HALL.out wx hx⟩
   clear HI
   clear u0 u1 u2 u3 u4 u5
   go_upto_region 16 with fail
   cases z with
   | true =>
    refine wp_region_held_drew (S := (fun w' => ((w'.cell? ⟨w.heap.size, 0, none⟩ = some (.int .i64 k) ∧ w'.cell? ⟨w.heap.size, 1, none⟩ = some (.string s) ∧ w'.cell? ⟨w.heap.size, 2, none⟩ = some (.int .i64 n) ∧ w'.cell? ⟨w.heap.size, 3, none⟩ = some (.slice A ps.length c) ∧ w'.cell? ⟨w.heap.size, 4, none⟩ = some (.slice A' fs.length c') ∧ w'.cell? ⟨w.heap.size, 5, none⟩ = some (.slice A'' vs.length c'')) ∧ (w'.cell? ⟨w.heap.size + 1, 0, none⟩ = some (.int .i64 k3) ∧ w'.cell? ⟨w.heap.size + 1, 1, none⟩ = some (.string s3) ∧ w'.cell? ⟨w.heap.size + 1, 2, none⟩ = some (.int .i64 n3) ∧ w'.cell? ⟨w.heap.size + 1, 3, none⟩ = some (.slice A3 ps3.length c3) ∧ w'.cell? ⟨w.heap.size + 1, 4, none⟩ = some (.slice B3 fs3.length d3) ∧ w'.cell? ⟨w.heap.size + 1, 5, none⟩ = some (.slice C3 vs3.length e3)) ∧ (w'.cell? ⟨w.heap.size + 1 + 1, 0, none⟩ = some (.int .i64 k9) ∧ w'.cell? ⟨w.heap.size + 1 + 1, 1, none⟩ = some (.string s9) ∧ w'.cell? ⟨w.heap.size + 1 + 1, 2, none⟩ = some (.int .i64 n9) ∧ w'.cell? ⟨w.heap.size + 1 + 1, 3, none⟩ = some (.slice A9 ps9.length c9) ∧ w'.cell? ⟨w.heap.size + 1 + 1, 4, none⟩ = some (.slice B9 fs9.length d9) ∧ w'.cell? ⟨w.heap.size + 1 + 1, 5, none⟩ = some (.slice C9 vs9.length e9))) ∧ (w'.cell? ⟨w10.heap.size, 0, none⟩ = some (.int .i64 ku) ∧ w'.cell? ⟨w10.heap.size, 1, none⟩ = some (.string su) ∧ w'.cell? ⟨w10.heap.size, 2, none⟩ = some (.int .i64 nu) ∧ w'.cell? ⟨w10.heap.size, 3, none⟩ = some (.slice Au pu.length cu) ∧ w'.cell? ⟨w10.heap.size, 4, none⟩ = some (.slice Bu fu.length du) ∧ w'.cell? ⟨w10.heap.size, 5, none⟩ = some (.slice Cu vu.length eu)) ∧ (w'.cell? ⟨w12.heap.size, 0, none⟩ = some (.int .i64 kx) ∧ w'.cell? ⟨w12.heap.size, 1, none⟩ = some (.string sx) ∧ w'.cell? ⟨w12.heap.size, 2, none⟩ = some (.int .i64 nx) ∧ w'.cell? ⟨w12.heap.size, 3, none⟩ = some (.slice Ax px.length cx) ∧ w'.cell? ⟨w12.heap.size, 4, none⟩ = some (.slice Bx fx.length dx) ∧ w'.cell? ⟨w12.heap.size, 5, none⟩ = some (.slice Cx vx.length ex)) ∧ (w'.cell? ⟨w14.heap.size, 0, none⟩ = some (.int .i64 ky) ∧ w'.cell? ⟨w14.heap.size, 1, none⟩ = some (.string sy) ∧ w'.cell? ⟨w14.heap.size, 2, none⟩ = some (.int .i64 ny) ∧ w'.cell? ⟨w14.heap.size, 3, none⟩ = some (.slice Ay py.length cy) ∧ w'.cell? ⟨w14.heap.size, 4, none⟩ = some (.slice By fy.length dy) ∧ w'.cell? ⟨w14.heap.size, 5, none⟩ = some (.slice Cy vy.length ey)) ∧ (w'.cell? ⟨w16.heap.size, 0, none⟩ = some (.int .i64 kz) ∧ w'.cell? ⟨w16.heap.size, 1, none⟩ = some (.string sz) ∧ w'.cell? ⟨w16.heap.size, 2, none⟩ = some (.int .i64 nz) ∧ w'.cell? ⟨w16.heap.size, 3, none⟩ = some (.slice Az pz.length cz) ∧ w'.cell? ⟨w16.heap.size, 4, none⟩ = some (.slice Bz fz.length dz) ∧ w'.cell? ⟨w16.heap.size, 5, none⟩ = some (.slice Cz vz.length ez)))) (by kernel_rfl) (HSS.out _ HB19.out) (fun hHeld => ?_)
    refine Plan.start [0, 1, 2] ?_
    iterate 3 ((refine Plan.take (v := ?_) (so rfl) (by kernel_rfl) (by kernel_rfl) (by kernel_rfl) (fun _ _ _ h => h) (Or.inl ⟨by rfl, ?_⟩) hHeld ?_; rotate_left; focus (intro w' hSw; (try dsimp only at hSw); go_simp; try with_reducible rfl)); try simp only [Act.put, List.setIfInBounds_toArray, List.set_cons_zero, List.set_cons_succ])
    refine Plan.done ?_
    refine wpAnyH_ready (rs := [3]) (by kernel_rfl) (by simp) ?_
    refine AllReadyH.cons (sd (some 118) rfl) (fun Kx hK => ?_) AllReadyH.nil
    go_simp
    refine (KLO.out _ HB19.out).mono ?_
    rintro e w20 ⟨rfl, hb⟩
    have HB20 := Lib.hid (HB19.out.trans (hb.mono HB19.out.size))
    clear hb
    go_wp2_with fail
    refine hK.out _ _ (HSS.out _ HB20.out) (fun hHeld => ?_)
    clear hK Kx
    try simp only [Act.put, List.setIfInBounds_toArray, List.set_cons_zero, List.set_cons_succ]
    refine wpAnyH_take (i := 4) (v := ?_) (sd (some 119) rfl) (by kernel_rfl) (by kernel_rfl) (by kernel_rfl) (fun _ _ _ h => h) (Or.inl ⟨by rfl, ?_⟩) hHeld ?_
    rotate_left
    ·intro w' hSw
     (try dsimp only at hSw)
     go_simp
     try with_reducible rfl
    try simp only [Act.put, List.setIfInBounds_toArray, List.set_cons_zero, List.set_cons_succ]
    refine Plan.start [5, 6, 7, 8, 9, 10] ?_
    iterate 6 (refine Plan.take (v := undef) (so rfl) (by kernel_rfl) (by kernel_rfl) (by kernel_rfl) (fun _ _ _ h => h) (Or.inr ⟨by rfl, rfl⟩) hHeld ?_; try simp only [Act.put, List.setIfInBounds_toArray, List.set_cons_zero, List.set_cons_succ])
    refine Plan.done ?_
    refine Plan.start [11, 12] ?_
    iterate 2 ((refine Plan.take (v := ?_) (so rfl) (by kernel_rfl) (by kernel_rfl) (by kernel_rfl) (fun _ _ _ h => h) (Or.inl ⟨by rfl, ?_⟩) hHeld ?_; rotate_left; focus (intro w' hSw; (try dsimp only at hSw); go_simp; try with_reducible rfl)); try simp only [Act.put, List.setIfInBounds_toArray, List.set_cons_zero, List.set_cons_succ])
    refine Plan.done ?_
    refine wpAnyH_done (by kernel_rfl) ?_ _
    clear hHeld
    go_wp2_with fail
    go_ret
    exact ⟨rfl, HB1.out.trans ((HB17.out.trans (HB20.out.mono HB17.out.size)).mono HB1.out.size)⟩
   | false =>
    refine wp_region_held_drew (S := (fun w' => ((w'.cell? ⟨w.heap.size, 0, none⟩ = some (.int .i64 k) ∧ w'.cell? ⟨w.heap.size, 1, none⟩ = some (.string s) ∧ w'.cell? ⟨w.heap.size, 2, none⟩ = some (.int .i64 n) ∧ w'.cell? ⟨w.heap.size, 3, none⟩ = some (.slice A ps.length c) ∧ w'.cell? ⟨w.heap.size, 4, none⟩ = some (.slice A' fs.length c') ∧ w'.cell? ⟨w.heap.size, 5, none⟩ = some (.slice A'' vs.length c'')) ∧ (w'.cell? ⟨w.heap.size + 1, 0, none⟩ = some (.int .i64 k3) ∧ w'.cell? ⟨w.heap.size + 1, 1, none⟩ = some (.string s3) ∧ w'.cell? ⟨w.heap.size + 1, 2, none⟩ = some (.int .i64 n3) ∧ w'.cell? ⟨w.heap.size + 1, 3, none⟩ = some (.slice A3 ps3.length c3) ∧ w'.cell? ⟨w.heap.size + 1, 4, none⟩ = some (.slice B3 fs3.length d3) ∧ w'.cell? ⟨w.heap.size + 1, 5, none⟩ = some (.slice C3 vs3.length e3)) ∧ (w'.cell? ⟨w.heap.size + 1 + 1, 0, none⟩ = some (.int .i64 k9) ∧ w'.cell? ⟨w.heap.size + 1 + 1, 1, none⟩ = some (.string s9) ∧ w'.cell? ⟨w.heap.size + 1 + 1, 2, none⟩ = some (.int .i64 n9) ∧ w'.cell? ⟨w.heap.size + 1 + 1, 3, none⟩ = some (.slice A9 ps9.length c9) ∧ w'.cell? ⟨w.heap.size + 1 + 1, 4, none⟩ = some (.slice B9 fs9.length d9) ∧ w'.cell? ⟨w.heap.size + 1 + 1, 5, none⟩ = some (.slice C9 vs9.length e9))) ∧ (w'.cell? ⟨w10.heap.size, 0, none⟩ = some (.int .i64 ku) ∧ w'.cell? ⟨w10.heap.size, 1, none⟩ = some (.string su) ∧ w'.cell? ⟨w10.heap.size, 2, none⟩ = some (.int .i64 nu) ∧ w'.cell? ⟨w10.heap.size, 3, none⟩ = some (.slice Au pu.length cu) ∧ w'.cell? ⟨w10.heap.size, 4, none⟩ = some (.slice Bu fu.length du) ∧ w'.cell? ⟨w10.heap.size, 5, none⟩ = some (.slice Cu vu.length eu)) ∧ (w'.cell? ⟨w12.heap.size, 0, none⟩ = some (.int .i64 kx) ∧ w'.cell? ⟨w12.heap.size, 1, none⟩ = some (.string sx) ∧ w'.cell? ⟨w12.heap.size, 2, none⟩ = some (.int .i64 nx) ∧ w'.cell? ⟨w12.heap.size, 3, none⟩ = some (.slice Ax px.length cx) ∧ w'.cell? ⟨w12.heap.size, 4, none⟩ = some (.slice Bx fx.length dx) ∧ w'.cell? ⟨w12.heap.size, 5, none⟩ = some (.slice Cx vx.length ex)) ∧ (w'.cell? ⟨w14.heap.size, 0, none⟩ = some (.int .i64 ky) ∧ w'.cell? ⟨w14.heap.size, 1, none⟩ = some (.string sy) ∧ w'.cell? ⟨w14.heap.size, 2, none⟩ = some (.int .i64 ny) ∧ w'.cell? ⟨w14.heap.size, 3, none⟩ = some (.slice Ay py.length cy) ∧ w'.cell? ⟨w14.heap.size, 4, none⟩ = some (.slice By fy.length dy) ∧ w'.cell? ⟨w14.heap.size, 5, none⟩ = some (.slice Cy vy.length ey)) ∧ (w'.cell? ⟨w16.heap.size, 0, none⟩ = some (.int .i64 kz) ∧ w'.cell? ⟨w16.heap.size, 1, none⟩ = some (.string sz) ∧ w'.cell? ⟨w16.heap.size, 2, none⟩ = some (.int .i64 nz) ∧ w'.cell? ⟨w16.heap.size, 3, none⟩ = some (.slice Az pz.length cz) ∧ w'.cell? ⟨w16.heap.size, 4, none⟩ = some (.slice Bz fz.length dz) ∧ w'.cell? ⟨w16.heap.size, 5, none⟩ = some (.slice Cz vz.length ez)))) (by kernel_rfl) (HSS.out _ HB19.out) (fun hHeld => ?_)
    refine Plan.start [0, 1, 2] ?_
    iterate 3 ((refine Plan.take (v := ?_) (so rfl) (by kernel_rfl) (by kernel_rfl) (by kernel_rfl) (fun _ _ _ h => h) (Or.inl ⟨by rfl, ?_⟩) hHeld ?_; rotate_left; focus (intro w' hSw; (try dsimp only at hSw); go_simp; try with_reducible rfl)); try simp only [Act.put, List.setIfInBounds_toArray, List.set_cons_zero, List.set_cons_succ])
    refine Plan.done ?_
    refine wpAnyH_ready (rs := [3]) (by kernel_rfl) (by simp) ?_
    refine AllReadyH.cons (sd (some 118) rfl) (fun Kx hK => ?_) AllReadyH.nil
    go_simp
    refine (KLO.out _ HB19.out).mono ?_
    rintro e w20 ⟨rfl, hb⟩
    have HB20 := Lib.hid (HB19.out.trans (hb.mono HB19.out.size))
    clear hb
    go_wp2_with fail
    refine hK.out _ _ (HSS.out _ HB20.out) (fun hHeld => ?_)
    clear hK Kx
    try simp only [Act.put, List.setIfInBounds_toArray, List.set_cons_zero, List.set_cons_succ]
    refine Plan.start [4, 5, 6, 7] ?_
    iterate 4 ((refine Plan.take (v := ?_) (so rfl) (by kernel_rfl) (by kernel_rfl) (by kernel_rfl) (fun _ _ _ h => h) (Or.inl ⟨by rfl, ?_⟩) hHeld ?_; rotate_left; focus (intro w' hSw; (try dsimp only at hSw); go_simp; try with_reducible rfl)); try simp only [Act.put, List.setIfInBounds_toArray, List.set_cons_zero, List.set_cons_succ])
    refine Plan.done ?_
    refine wpAnyH_ready (rs := [8]) (by kernel_rfl) (by simp) ?_
    refine AllReadyH.cons (sd (some 123) rfl) (fun Kx hK => ?_) AllReadyH.nil
    go_simp
    generalize hW : w20.alloc (.cells #[.int .i64 ky, .string sy, .int .i64 ny, .slice Ay py.length cy, .slice By fy.length dy, .slice Cy vy.length ey, .int .i64 kz, .string sz, .int .i64 nz, .slice Az pz.length cz, .slice Bz fz.length dz, .slice Cz vz.length ez] 26) = w21
    have hb : Below w20.heap.size w20 w21 := by rw [← hW]; exact (Below.refl _ _).alloc (Nat.le_refl _) _
    have rs : w21.heap[w20.heap.size]? = some (.cells #[.int .i64 ky, .string sy, .int .i64 ny, .slice Ay py.length cy, .slice By fy.length dy, .slice Cy vy.length ey, .int .i64 kz, .string sz, .int .i64 nz, .slice Az pz.length cz, .slice Bz fz.length dz, .slice Cz vz.length ez] 26 (0, 0)) := by rw [← hW]; exact heap_alloc_new w20 _
    have HB21 := Lib.hid (HB20.out.trans (hb.mono HB20.out.size))
    have HG := Lib.hid rs
    clear hW rs hb
    refine hK.out _ _ (HSS.out _ HB21.out) (fun hHeld => ?_)
    clear hK Kx
    try simp only [Act.put, List.setIfInBounds_toArray, List.set_cons_zero, List.set_cons_succ]
    refine wpAnyH_ready (rs := [9]) (by kernel_rfl) (by simp) ?_
    refine AllReadyH.cons (sd (some 124) rfl) (fun Kx hK => ?_) AllReadyH.nil
    go_simp
    refine (uni2_ref (HRYY.out _ HB21.out) (HRZZ.out _ HB21.out) HG.out HFTA.out HFTB.out HCTA.out HCTB.out).mono ?_
    rintro e w22 ⟨rs, rfl, hru, hb⟩
    rw [← HTIE.out trivial] at hru
    have HB22 := Lib.hid (HB21.out.trans (hb.mono HB21.out.size))
    have HRs := Lib.hid hru
    clear hb hru
    go_wp2_with fail
    refine hK.out _ _ (HSS.out _ HB22.out) (fun hHeld => ?_)
    clear hK Kx
    try simp only [Act.put, List.setIfInBounds_toArray, List.set_cons_zero, List.set_cons_succ]
    refine wpAnyH_ready (rs := [10]) (by kernel_rfl) (by simp) ?_
    refine AllReadyH.cons (sd (some 125) rfl) (fun Kx hK => ?_) AllReadyH.nil
    go_simp
    refine (same13 (HRXX.out _ HB22.out) HRs.out).mono ?_
    rintro e w23 ⟨he, hb⟩
    rw [ordT_zero.2 rfl] at he
    subst he
    have HB23 := Lib.hid (HB22.out.trans (hb.mono HB22.out.size))
    clear hb
    go_wp2_with fail
    refine hK.out _ _ (HSS.out _ HB23.out) (fun hHeld => ?_)
    clear hK Kx
    try simp only [Act.put, List.setIfInBounds_toArray, List.set_cons_zero, List.set_cons_succ]
    refine Plan.start [11, 12] ?_
    iterate 2 ((refine Plan.take (v := ?_) (so rfl) (by kernel_rfl) (by kernel_rfl) (by kernel_rfl) (fun _ _ _ h => h) (Or.inl ⟨by rfl, ?_⟩) hHeld ?_; rotate_left; focus (intro w' hSw; (try dsimp only at hSw); go_simp; try with_reducible rfl)); try simp only [Act.put, List.setIfInBounds_toArray, List.set_cons_zero, List.set_cons_succ])
    refine Plan.done ?_
    refine wpAnyH_done (by kernel_rfl) ?_ _
    clear hHeld
    go_wp2_with fail
    go_ret
    exact ⟨rfl, HB1.out.trans ((HB17.out.trans (HB23.out.mono HB17.out.size)).mono HB1.out.size)⟩
end Go.Proofs.YtllhfnpchplibaaGreatDoor
