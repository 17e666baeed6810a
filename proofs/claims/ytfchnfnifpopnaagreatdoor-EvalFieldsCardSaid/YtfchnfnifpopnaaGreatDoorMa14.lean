import Derived.Test.YtfchnfnifpopnaaGreatDoorMa0
import Derived.Test.YtfchnfnifpopnaaGreatDoorMa13
namespace Go.Proofs.YtfchnfnifpopnaaGreatDoor
open Go.RowKit
set_option maxRecDepth 100000 in
set_option maxHeartbeats 32000000 in
theorem formedFields_any {K : Nat → Prop} {w : World} {fs : List (ByteArray × Int × Ty)} {A : Option Addr} {c : Nat} {fv : Ty → Bool} (hF : ListF K w fs A c) (hf : ∀ f ∈ fs, FormIs f.2.2 (fv f.2.2)) :
  Calls Tryz.prog 67 #[.slice A fs.length c] w fun e w' => e = .returned (.bool (fieldsB (fieldsT fs fv))) ∧ Below w.heap.size w w' := by
 have HF := Lib.hid hF
 have HI := Lib.hid hf
 have hlf := hF.shortF
 clear hF hf
 go_enter Tryz.func67, Tryz.ntmps67
 go_wp2_with fail
 go_loopw [7] (fun v wr => ∃ i : Nat, i ≤ fs.length ∧ v = .int .i64 (i : Int) ∧ (∀ j, j < i → okF (fieldsT fs fv) j = true) ∧ Below w.heap.size w wr) (fun v _ => fs.length - (intOf v).toNat)
 case atStart => exact ⟨0, by omega, rfl, fun j hj => absurd hj (by omega), Below.refl _ _⟩
 case round =>
  obtain ⟨i, hle, rfl, hok, hbr⟩ := hrel
  have HOK := Lib.hid hok
  have HBr := Lib.hid hbr
  clear hok
  by_cases hlt : i < fs.length
  ·have t1 : decide ((i : Int) < (fs.length : Int)) = true := by simp; omega
   have wr2 : wrap64 ((i : Int) + 1) = ((i + 1 : Nat) : Int) := wrap_one (by omega)
   have HM := Lib.hid (measI hlt)
   have HLE : Hid (i + 1 ≤ fs.length) := Lib.hid hlt
   obtain ⟨b, o, hA, _, hat⟩ := HF.out.at (by omega)
   subst hA
   obtain ⟨hc0, hc1, hsz, hAt⟩ := hat i hlt
   have hNO : okF (fieldsT fs fv) i = false → fieldsB (fieldsT fs fv) = false := fun h => allB_no (by rw [fieldsT_len]; exact hlt) h
   have hFm := HI.out _ (List.getElem_mem hlt)
   have KF := Lib.hid fun wx (hx : Below w.heap.size w wx) => hFm K wx b (o + i * 8 + 2) (hAt.later hx)
   have hokE : (i = 0 ∧ okF (fieldsT fs fv) i = (nameT fs[i].1 && decide (0 ≤ fs[i].2.1) && decide (fs[i].2.1 ≤ 3) && fv fs[i].2.2)) ∨ (∃ j pn, i = j + 1 ∧ w.cell? ⟨b, o + j * 8, none⟩ = some (.string pn) ∧ okF (fieldsT fs fv) i = (nameT fs[i].1 && decide (0 ≤ fs[i].2.1) && decide (fs[i].2.1 ≤ 3) && fv fs[i].2.2 && Go.Op.bytesLess pn.toList fs[i].1.toList)) := by
    match i, hlt with
    | 0, h => exact .inl ⟨rfl, okF_zero h⟩
    | j + 1, h => exact .inr ⟨j, _, rfl, (hat j (by omega)).1, okF_succ h⟩
   generalize hnm : fs[i].1 = nm at hc0 hsz hokE
   generalize hfl : fs[i].2.1 = fl at hc1 hokE
   generalize hty : fv fs[i].2.2 = r at KF hokE
   have hokN : (nameT nm && decide (0 ≤ fl) && decide (fl ≤ 3)) = false → okF (fieldsT fs fv) i = false := fun h => by
    rcases hokE with ⟨_, e⟩ | ⟨_, _, _, _, e⟩ <;> rw [e, h] <;> rfl
   have hcw0 := cell_stays (w := w) (w' := wr) hbr hc0
   have hcw1 := cell_stays (w := w) (w' := wr) hbr hc1
   have KN := Lib.hid fun wx => name_prog nm wx hsz
   have HCC : Hid (∀ wx, Below wr.heap.size wr wx → wx.cell? ⟨b, o + i * 8, none⟩ = some (.string nm) ∧ wx.cell? ⟨b, o + i * 8 + 1, none⟩ = some (.int .i64 fl)) := Lib.hid fun wx hx => ⟨cell_stays hx hcw0, cell_stays hx hcw1⟩
   clear hat hc0 hc1 hnm hfl hty hFm hAt hcw0 hcw1 hle
   cases hq : nameT nm with
   | false =>
    have HNO : Hid (fieldsB (fieldsT fs fv) = false) := Lib.hid (hNO (hokN (by rw [hq]; rfl)))
    rw [hq] at KN
    clear hNO hokN hokE hq hbr KF
    go_wp2_with fail
    refine wp_region_held_drew (S := (fun w' => w'.cell? ⟨b, o + i * 8, none⟩ = some (.string nm) ∧ w'.cell? ⟨b, o + i * 8 + 1, none⟩ = some (.int .i64 fl))) (by kernel_rfl) (HCC.out _ (Below.refl _ _).drew) (fun hHeld => ?_)
    refine Plan.start [0, 1, 2, 3] ?_
    iterate 4 ((refine Plan.take (v := ?_) (so rfl) (by kernel_rfl) (by kernel_rfl) (by kernel_rfl) (fun _ _ _ h => h) (Or.inl ⟨by rfl, ?_⟩) hHeld ?_; rotate_left; focus (intro w' hSw; (try dsimp only at hSw); go_simp; try with_reducible rfl)); try simp only [Act.put, List.setIfInBounds_toArray, List.set_cons_zero, List.set_cons_succ])
    refine Plan.done ?_
    refine wpAnyH_ready (rs := [4]) (by kernel_rfl) (by simp) ?_
    refine AllReadyH.cons (sd (some 17) rfl) (fun K hK => ?_) AllReadyH.nil
    go_simp
    refine (KN.out _).mono ?_
    rintro e w2 ⟨rfl, hb2⟩
    have HB2 := Lib.hid ((Below.refl wr.heap.size wr).drew.trans hb2)
    clear hb2
    go_wp2_with fail
    refine hK.out _ _ (HCC.out _ HB2.out) (fun hHeld => ?_)
    clear hK K
    try simp only [Act.put, List.setIfInBounds_toArray, List.set_cons_zero, List.set_cons_succ]
    refine Plan.start [5, 6] ?_
    iterate 2 ((refine Plan.take (v := ?_) (so rfl) (by kernel_rfl) (by kernel_rfl) (by kernel_rfl) (fun _ _ _ h => h) (Or.inl ⟨by rfl, ?_⟩) hHeld ?_; rotate_left; focus (intro w' hSw; (try dsimp only at hSw); go_simp; try with_reducible rfl)); try simp only [Act.put, List.setIfInBounds_toArray, List.set_cons_zero, List.set_cons_succ])
    refine Plan.done ?_
    refine Plan.start [7, 8, 9, 10, 11] ?_
    iterate 5 (refine Plan.take (v := undef) (so rfl) (by kernel_rfl) (by kernel_rfl) (by kernel_rfl) (fun _ _ _ h => h) (Or.inr ⟨by rfl, rfl⟩) hHeld ?_; try simp only [Act.put, List.setIfInBounds_toArray, List.set_cons_zero, List.set_cons_succ])
    refine Plan.done ?_
    refine Plan.start [12, 13] ?_
    iterate 2 ((refine Plan.take (v := ?_) (so rfl) (by kernel_rfl) (by kernel_rfl) (by kernel_rfl) (fun _ _ _ h => h) (Or.inl ⟨by rfl, ?_⟩) hHeld ?_; rotate_left; focus (intro w' hSw; (try dsimp only at hSw); go_simp; try with_reducible rfl)); try simp only [Act.put, List.setIfInBounds_toArray, List.set_cons_zero, List.set_cons_succ])
    refine Plan.done ?_
    refine Plan.start [14, 15, 16, 17, 18] ?_
    iterate 5 (refine Plan.take (v := undef) (so rfl) (by kernel_rfl) (by kernel_rfl) (by kernel_rfl) (fun _ _ _ h => h) (Or.inr ⟨by rfl, rfl⟩) hHeld ?_; try simp only [Act.put, List.setIfInBounds_toArray, List.set_cons_zero, List.set_cons_succ])
    refine Plan.done ?_
    refine Plan.start [19, 20] ?_
    iterate 2 ((refine Plan.take (v := ?_) (so rfl) (by kernel_rfl) (by kernel_rfl) (by kernel_rfl) (fun _ _ _ h => h) (Or.inl ⟨by rfl, ?_⟩) hHeld ?_; rotate_left; focus (intro w' hSw; (try dsimp only at hSw); go_simp; try with_reducible rfl)); try simp only [Act.put, List.setIfInBounds_toArray, List.set_cons_zero, List.set_cons_succ])
    refine Plan.done ?_
    refine Plan.start [21, 22, 23, 24, 25, 26, 27, 28, 29, 30, 31, 32, 33, 34, 35] ?_
    iterate 15 (refine Plan.take (v := undef) (so rfl) (by kernel_rfl) (by kernel_rfl) (by kernel_rfl) (fun _ _ _ h => h) (Or.inr ⟨by rfl, rfl⟩) hHeld ?_; try simp only [Act.put, List.setIfInBounds_toArray, List.set_cons_zero, List.set_cons_succ])
    refine Plan.done ?_
    refine Plan.start [36, 37] ?_
    iterate 2 ((refine Plan.take (v := ?_) (so rfl) (by kernel_rfl) (by kernel_rfl) (by kernel_rfl) (fun _ _ _ h => h) (Or.inl ⟨by rfl, ?_⟩) hHeld ?_; rotate_left; focus (intro w' hSw; (try dsimp only at hSw); go_simp; try with_reducible rfl)); try simp only [Act.put, List.setIfInBounds_toArray, List.set_cons_zero, List.set_cons_succ])
    refine Plan.done ?_
    refine Plan.start [38, 39, 40, 41, 42] ?_
    iterate 5 (refine Plan.take (v := undef) (so rfl) (by kernel_rfl) (by kernel_rfl) (by kernel_rfl) (fun _ _ _ h => h) (Or.inr ⟨by rfl, rfl⟩) hHeld ?_; try simp only [Act.put, List.setIfInBounds_toArray, List.set_cons_zero, List.set_cons_succ])
    refine Plan.done ?_
    refine wpAnyH_take (i := 43) (v := ?_) (sd (some 56) rfl) (by kernel_rfl) (by kernel_rfl) (by kernel_rfl) (fun _ _ _ h => h) (Or.inl ⟨by rfl, ?_⟩) hHeld ?_
    rotate_left
    ·intro w' hSw
     (try dsimp only at hSw)
     go_simp
     try with_reducible rfl
    try simp only [Act.put, List.setIfInBounds_toArray, List.set_cons_zero, List.set_cons_succ]
    refine wpAnyH_done (by kernel_rfl) ?_ _
    clear hHeld
    go_wp2_with fail
    go_ret
    exact ⟨by rw [HNO.out]; rfl, HBr.out.trans (HB2.out.mono HBr.out.size)⟩
   | true =>
    rw [hq] at KN
    by_cases hfl0 : 0 ≤ fl
    ·by_cases hfl3 : fl ≤ 3
     ·have f0 : decide (fl < 0) = false := by simp; omega
      have f3 : decide ((3 : Int) < fl) = false := by simp; omega
      rcases hokE with ⟨rfl, he⟩ | ⟨i, pn, rfl, hpn, he⟩
      ·have HE : Hid (okF (fieldsT fs fv) 0 = r) := Lib.hid (by rw [he, hq]; simp [hfl0, hfl3])
       simp only [Nat.zero_mul, Nat.add_zero] at HCC KF
       clear hNO hokN he hq hbr
       go_wp2_with fail
       refine wp_region_held_drew (S := (fun w' => w'.cell? ⟨b, o, none⟩ = some (.string nm) ∧ w'.cell? ⟨b, o + 1, none⟩ = some (.int .i64 fl))) (by kernel_rfl) (HCC.out _ (Below.refl _ _).drew) (fun hHeld => ?_)
       refine Plan.start [0, 1, 2, 3] ?_
       iterate 4 ((refine Plan.take (v := ?_) (so rfl) (by kernel_rfl) (by kernel_rfl) (by kernel_rfl) (fun _ _ _ h => h) (Or.inl ⟨by rfl, ?_⟩) hHeld ?_; rotate_left; focus (intro w' hSw; (try dsimp only at hSw); go_simp; try with_reducible rfl)); try simp only [Act.put, List.setIfInBounds_toArray, List.set_cons_zero, List.set_cons_succ])
       refine Plan.done ?_
       refine wpAnyH_ready (rs := [4]) (by kernel_rfl) (by simp) ?_
       refine AllReadyH.cons (sd (some 17) rfl) (fun K hK => ?_) AllReadyH.nil
       go_simp
       refine (KN.out _).mono ?_
       rintro e w2 ⟨rfl, hb2⟩
       have HB2 := Lib.hid ((Below.refl wr.heap.size wr).drew.trans hb2)
       clear hb2
       go_wp2_with fail
       refine hK.out _ _ (HCC.out _ HB2.out) (fun hHeld => ?_)
       clear hK K
       try simp only [Act.put, List.setIfInBounds_toArray, List.set_cons_zero, List.set_cons_succ]
       refine Plan.start [5, 6, 7, 8, 9, 10, 11, 12, 13, 14, 15, 16, 17, 18, 19, 20, 21, 22, 23] ?_
       iterate 19 ((refine Plan.take (v := ?_) (so rfl) (by kernel_rfl) (by kernel_rfl) (by kernel_rfl) (fun _ _ _ h => h) (Or.inl ⟨by rfl, ?_⟩) hHeld ?_; rotate_left; focus (intro w' hSw; (try dsimp only at hSw); go_simp; try with_reducible rfl)); try simp only [Act.put, List.setIfInBounds_toArray, List.set_cons_zero, List.set_cons_succ])
       refine Plan.done ?_
       refine Plan.start [24, 25, 26, 27, 28, 29, 30, 31, 32, 33, 34] ?_
       iterate 11 (refine Plan.take (v := undef) (so rfl) (by kernel_rfl) (by kernel_rfl) (by kernel_rfl) (fun _ _ _ h => h) (Or.inr ⟨by rfl, rfl⟩) hHeld ?_; try simp only [Act.put, List.setIfInBounds_toArray, List.set_cons_zero, List.set_cons_succ])
       refine Plan.done ?_
       refine Plan.start [35, 36, 37, 38, 39, 40] ?_
       iterate 6 ((refine Plan.take (v := ?_) (so rfl) (by kernel_rfl) (by kernel_rfl) (by kernel_rfl) (fun _ _ _ h => h) (Or.inl ⟨by rfl, ?_⟩) hHeld ?_; rotate_left; focus (intro w' hSw; (try dsimp only at hSw); go_simp; try with_reducible rfl)); try simp only [Act.put, List.setIfInBounds_toArray, List.set_cons_zero, List.set_cons_succ])
       refine Plan.done ?_
       refine wpAnyH_ready (rs := [41]) (by kernel_rfl) (by simp) ?_
       refine AllReadyH.cons (sd (some 54) rfl) (fun K hK => ?_) AllReadyH.nil
       go_simp
       refine (KF.out _ (HBr.out.trans (HB2.out.mono HBr.out.size))).mono ?_
       rintro e w3 ⟨rfl, hb3⟩
       have HB3 := Lib.hid (HB2.out.trans (hb3.mono HB2.out.size))
       clear hb3
       go_wp2_with fail
       refine hK.out _ _ (HCC.out _ HB3.out) (fun hHeld => ?_)
       clear hK K
       try simp only [Act.put, List.setIfInBounds_toArray, List.set_cons_zero, List.set_cons_succ]
       refine Plan.start [42, 43] ?_
       iterate 2 ((refine Plan.take (v := ?_) (so rfl) (by kernel_rfl) (by kernel_rfl) (by kernel_rfl) (fun _ _ _ h => h) (Or.inl ⟨by rfl, ?_⟩) hHeld ?_; rotate_left; focus (intro w' hSw; (try dsimp only at hSw); go_simp; try with_reducible rfl)); try simp only [Act.put, List.setIfInBounds_toArray, List.set_cons_zero, List.set_cons_succ])
       refine Plan.done ?_
       refine wpAnyH_done (by kernel_rfl) ?_ _
       clear hHeld
       cases r with
       | false =>
        have HNO : Hid (fieldsB (fieldsT fs fv) = false) := Lib.hid (allB_no (by rw [fieldsT_len]; exact HLE.out) HE.out)
        go_wp2_with fail
        go_ret
        exact ⟨by rw [HNO.out]; rfl, HBr.out.trans (HB3.out.mono HBr.out.size)⟩
       | true =>
        go_wp2_with fail
        refine ⟨⟨0 + 1, HLE.out, by first | rfl | rw [wr2], okU_more HOK.out HE.out, HBr.out.trans (HB3.out.mono HBr.out.size)⟩, ?_⟩
        first | exact HM.out | (rw [wr2]; exact HM.out)
      ·have hpw := cell_stays (w := w) (w' := wr) hbr hpn
       have HCD : Hid (∀ wx, Below wr.heap.size wr wx → wx.cell? ⟨b, o + i * 8, none⟩ = some (.string pn)) := Lib.hid fun wx hx => cell_stays hx hpw
       have wr1 : wrap64 (((i + 1 : Nat) : Int) - 1) = ((i : Nat) : Int) := by rw [wrap_in (by omega) (by omega)]; omega
       have wr1' : IntKind.i64.wrap (((i + 1 : Nat) : Int) - 1) = ((i : Nat) : Int) := by
        have e : IntKind.i64.wrap (((i + 1 : Nat) : Int) - 1) = wrap64 (((i + 1 : Nat) : Int) - 1) := by unfold wrap64; exact IntKind.wrap_i64 _
        rw [e, wr1]
       have wr3 : wrap64 (i : Int) = (i : Int) := wrap_in (by omega) (by omega)
       have wr3' : IntKind.i64.wrap (i : Int) = (i : Int) := by
        have e : IntKind.i64.wrap (i : Int) = wrap64 (i : Int) := by unfold wrap64; exact IntKind.wrap_i64 _
        rw [e, wr3]
       have i2 : (0 : Int) ≤ (i : Int) := by omega
       have i3 : (i : Int) < (fs.length : Int) := by omega
       have i4 : (0 : Int) < (i : Int) + 1 := by omega
       cases hbl : Go.Op.bytesLess pn.toList nm.toList with
       | true =>
        have HE : Hid (okF (fieldsT fs fv) (i + 1) = r) := Lib.hid (by rw [he, hq, hbl]; simp [hfl0, hfl3])
        clear hNO hokN he hq hbr hpn hpw
        go_wp2_with fail
        refine wp_region_held_drew (S := (fun w' => (w'.cell? ⟨b, o + (i + 1) * 8, none⟩ = some (.string nm) ∧ w'.cell? ⟨b, o + (i + 1) * 8 + 1, none⟩ = some (.int .i64 fl)) ∧ w'.cell? ⟨b, o + i * 8, none⟩ = some (.string pn))) (by kernel_rfl) (⟨HCC.out _ (Below.refl _ _).drew, HCD.out _ (Below.refl _ _).drew⟩) (fun hHeld => ?_)
        refine Plan.start [0, 1, 2, 3] ?_
        iterate 4 ((refine Plan.take (v := ?_) (so rfl) (by kernel_rfl) (by kernel_rfl) (by kernel_rfl) (fun _ _ _ h => h) (Or.inl ⟨by rfl, ?_⟩) hHeld ?_; rotate_left; focus (intro w' hSw; (try dsimp only at hSw); go_simp; try with_reducible rfl)); try simp only [Act.put, List.setIfInBounds_toArray, List.set_cons_zero, List.set_cons_succ])
        refine Plan.done ?_
        refine wpAnyH_ready (rs := [4]) (by kernel_rfl) (by simp) ?_
        refine AllReadyH.cons (sd (some 17) rfl) (fun K hK => ?_) AllReadyH.nil
        go_simp
        refine (KN.out _).mono ?_
        rintro e w2 ⟨rfl, hb2⟩
        have HB2 := Lib.hid ((Below.refl wr.heap.size wr).drew.trans hb2)
        clear hb2
        go_wp2_with fail
        refine hK.out _ _ (⟨HCC.out _ HB2.out, HCD.out _ HB2.out⟩) (fun hHeld => ?_)
        clear hK K
        try simp only [Act.put, List.setIfInBounds_toArray, List.set_cons_zero, List.set_cons_succ]
        refine Plan.start [5, 6, 7, 8, 9, 10, 11, 12, 13, 14, 15, 16, 17, 18, 19, 20, 21, 22, 23, 24, 25, 26, 27, 28, 29, 30, 31, 32, 33, 34, 35, 36, 37, 38, 39, 40] ?_
        iterate 36 ((refine Plan.take (v := ?_) (so rfl) (by kernel_rfl) (by kernel_rfl) (by kernel_rfl) (fun _ _ _ h => h) (Or.inl ⟨by rfl, ?_⟩) hHeld ?_; rotate_left; focus (intro w' hSw; (try dsimp only at hSw); go_simp; try with_reducible rfl)); try simp only [Act.put, List.setIfInBounds_toArray, List.set_cons_zero, List.set_cons_succ])
        refine Plan.done ?_
        refine wpAnyH_ready (rs := [41]) (by kernel_rfl) (by simp) ?_
        refine AllReadyH.cons (sd (some 54) rfl) (fun K hK => ?_) AllReadyH.nil
        go_simp
        refine (KF.out _ (HBr.out.trans (HB2.out.mono HBr.out.size))).mono ?_
        rintro e w3 ⟨rfl, hb3⟩
        have HB3 := Lib.hid (HB2.out.trans (hb3.mono HB2.out.size))
        clear hb3
        go_wp2_with fail
        refine hK.out _ _ (⟨HCC.out _ HB3.out, HCD.out _ HB3.out⟩) (fun hHeld => ?_)
        clear hK K
        try simp only [Act.put, List.setIfInBounds_toArray, List.set_cons_zero, List.set_cons_succ]
        refine Plan.start [42, 43] ?_
        iterate 2 ((refine Plan.take (v := ?_) (so rfl) (by kernel_rfl) (by kernel_rfl) (by kernel_rfl) (fun _ _ _ h => h) (Or.inl ⟨by rfl, ?_⟩) hHeld ?_; rotate_left; focus (intro w' hSw; (try dsimp only at hSw); go_simp; try with_reducible rfl)); try simp only [Act.put, List.setIfInBounds_toArray, List.set_cons_zero, List.set_cons_succ])
        refine Plan.done ?_
        refine wpAnyH_done (by kernel_rfl) ?_ _
        clear hHeld
        cases r with
        | false =>
         have HNO : Hid (fieldsB (fieldsT fs fv) = false) := Lib.hid (allB_no (by rw [fieldsT_len]; exact HLE.out) HE.out)
         go_wp2_with fail
         go_ret
         exact ⟨by rw [HNO.out]; rfl, HBr.out.trans (HB3.out.mono HBr.out.size)⟩
        | true =>
         go_wp2_with fail
         refine ⟨⟨(i + 1) + 1, HLE.out, by first | rfl | rw [wr2], okU_more HOK.out HE.out, HBr.out.trans (HB3.out.mono HBr.out.size)⟩, ?_⟩
         first | exact HM.out | (rw [wr2]; exact HM.out)
       | false =>
        have HNO : Hid (fieldsB (fieldsT fs fv) = false) := Lib.hid (hNO (by rw [he, hbl]; simp))
        clear hNO hokN he hq hbr hpn hpw KF
        go_wp2_with fail
        refine wp_region_held_drew (S := (fun w' => (w'.cell? ⟨b, o + (i + 1) * 8, none⟩ = some (.string nm) ∧ w'.cell? ⟨b, o + (i + 1) * 8 + 1, none⟩ = some (.int .i64 fl)) ∧ w'.cell? ⟨b, o + i * 8, none⟩ = some (.string pn))) (by kernel_rfl) (⟨HCC.out _ (Below.refl _ _).drew, HCD.out _ (Below.refl _ _).drew⟩) (fun hHeld => ?_)
        refine Plan.start [0, 1, 2, 3] ?_
        iterate 4 ((refine Plan.take (v := ?_) (so rfl) (by kernel_rfl) (by kernel_rfl) (by kernel_rfl) (fun _ _ _ h => h) (Or.inl ⟨by rfl, ?_⟩) hHeld ?_; rotate_left; focus (intro w' hSw; (try dsimp only at hSw); go_simp; try with_reducible rfl)); try simp only [Act.put, List.setIfInBounds_toArray, List.set_cons_zero, List.set_cons_succ])
        refine Plan.done ?_
        refine wpAnyH_ready (rs := [4]) (by kernel_rfl) (by simp) ?_
        refine AllReadyH.cons (sd (some 17) rfl) (fun K hK => ?_) AllReadyH.nil
        go_simp
        refine (KN.out _).mono ?_
        rintro e w2 ⟨rfl, hb2⟩
        have HB2 := Lib.hid ((Below.refl wr.heap.size wr).drew.trans hb2)
        clear hb2
        go_wp2_with fail
        refine hK.out _ _ (⟨HCC.out _ HB2.out, HCD.out _ HB2.out⟩) (fun hHeld => ?_)
        clear hK K
        try simp only [Act.put, List.setIfInBounds_toArray, List.set_cons_zero, List.set_cons_succ]
        refine Plan.start [5, 6, 7, 8, 9, 10, 11, 12, 13, 14, 15, 16, 17, 18, 19, 20, 21, 22, 23, 24, 25, 26, 27, 28, 29, 30, 31, 32, 33, 34, 35, 36, 37] ?_
        iterate 33 ((refine Plan.take (v := ?_) (so rfl) (by kernel_rfl) (by kernel_rfl) (by kernel_rfl) (fun _ _ _ h => h) (Or.inl ⟨by rfl, ?_⟩) hHeld ?_; rotate_left; focus (intro w' hSw; (try dsimp only at hSw); go_simp; try with_reducible rfl)); try simp only [Act.put, List.setIfInBounds_toArray, List.set_cons_zero, List.set_cons_succ])
        refine Plan.done ?_
        refine Plan.start [38, 39, 40, 41, 42] ?_
        iterate 5 (refine Plan.take (v := undef) (so rfl) (by kernel_rfl) (by kernel_rfl) (by kernel_rfl) (fun _ _ _ h => h) (Or.inr ⟨by rfl, rfl⟩) hHeld ?_; try simp only [Act.put, List.setIfInBounds_toArray, List.set_cons_zero, List.set_cons_succ])
        refine Plan.done ?_
        refine wpAnyH_take (i := 43) (v := ?_) (sd (some 56) rfl) (by kernel_rfl) (by kernel_rfl) (by kernel_rfl) (fun _ _ _ h => h) (Or.inl ⟨by rfl, ?_⟩) hHeld ?_
        rotate_left
        ·intro w' hSw
         (try dsimp only at hSw)
         go_simp
         try with_reducible rfl
        try simp only [Act.put, List.setIfInBounds_toArray, List.set_cons_zero, List.set_cons_succ]
        refine wpAnyH_done (by kernel_rfl) ?_ _
        clear hHeld
        go_wp2_with fail
        go_ret
        exact ⟨by rw [HNO.out]; rfl, HBr.out.trans (HB2.out.mono HBr.out.size)⟩
     ·have HNO : Hid (fieldsB (fieldsT fs fv) = false) := Lib.hid (hNO (hokN (by simp [hfl3])))
      have f0 : decide (fl < 0) = false := by simp; omega
      have f3 : decide ((3 : Int) < fl) = true := by simp; omega
      clear hNO hokN hokE hq hbr KF
      go_wp2_with fail
      refine wp_region_held_drew (S := (fun w' => w'.cell? ⟨b, o + i * 8, none⟩ = some (.string nm) ∧ w'.cell? ⟨b, o + i * 8 + 1, none⟩ = some (.int .i64 fl))) (by kernel_rfl) (HCC.out _ (Below.refl _ _).drew) (fun hHeld => ?_)
      refine Plan.start [0, 1, 2, 3] ?_
      iterate 4 ((refine Plan.take (v := ?_) (so rfl) (by kernel_rfl) (by kernel_rfl) (by kernel_rfl) (fun _ _ _ h => h) (Or.inl ⟨by rfl, ?_⟩) hHeld ?_; rotate_left; focus (intro w' hSw; (try dsimp only at hSw); go_simp; try with_reducible rfl)); try simp only [Act.put, List.setIfInBounds_toArray, List.set_cons_zero, List.set_cons_succ])
      refine Plan.done ?_
      refine wpAnyH_ready (rs := [4]) (by kernel_rfl) (by simp) ?_
      refine AllReadyH.cons (sd (some 17) rfl) (fun K hK => ?_) AllReadyH.nil
      go_simp
      refine (KN.out _).mono ?_
      rintro e w2 ⟨rfl, hb2⟩
      have HB2 := Lib.hid ((Below.refl wr.heap.size wr).drew.trans hb2)
      clear hb2
      go_wp2_with fail
      refine hK.out _ _ (HCC.out _ HB2.out) (fun hHeld => ?_)
      clear hK K
      try simp only [Act.put, List.setIfInBounds_toArray, List.set_cons_zero, List.set_cons_succ]
      refine Plan.start [5, 6, 7, 8, 9, 10, 11, 12, 13, 14, 15, 16, 17, 18, 19, 20] ?_
      iterate 16 ((refine Plan.take (v := ?_) (so rfl) (by kernel_rfl) (by kernel_rfl) (by kernel_rfl) (fun _ _ _ h => h) (Or.inl ⟨by rfl, ?_⟩) hHeld ?_; rotate_left; focus (intro w' hSw; (try dsimp only at hSw); go_simp; try with_reducible rfl)); try simp only [Act.put, List.setIfInBounds_toArray, List.set_cons_zero, List.set_cons_succ])
      refine Plan.done ?_
      refine Plan.start [21, 22, 23, 24, 25, 26, 27, 28, 29, 30, 31, 32, 33, 34, 35] ?_
      iterate 15 (refine Plan.take (v := undef) (so rfl) (by kernel_rfl) (by kernel_rfl) (by kernel_rfl) (fun _ _ _ h => h) (Or.inr ⟨by rfl, rfl⟩) hHeld ?_; try simp only [Act.put, List.setIfInBounds_toArray, List.set_cons_zero, List.set_cons_succ])
      refine Plan.done ?_
      refine Plan.start [36, 37] ?_
      iterate 2 ((refine Plan.take (v := ?_) (so rfl) (by kernel_rfl) (by kernel_rfl) (by kernel_rfl) (fun _ _ _ h => h) (Or.inl ⟨by rfl, ?_⟩) hHeld ?_; rotate_left; focus (intro w' hSw; (try dsimp only at hSw); go_simp; try with_reducible rfl)); try simp only [Act.put, List.setIfInBounds_toArray, List.set_cons_zero, List.set_cons_succ])
      refine Plan.done ?_
      refine Plan.start [38, 39, 40, 41, 42] ?_
      iterate 5 (refine Plan.take (v := undef) (so rfl) (by kernel_rfl) (by kernel_rfl) (by kernel_rfl) (fun _ _ _ h => h) (Or.inr ⟨by rfl, rfl⟩) hHeld ?_; try simp only [Act.put, List.setIfInBounds_toArray, List.set_cons_zero, List.set_cons_succ])
      refine Plan.done ?_
      refine wpAnyH_take (i := 43) (v := ?_) (sd (some 56) rfl) (by kernel_rfl) (by kernel_rfl) (by kernel_rfl) (fun _ _ _ h => h) (Or.inl ⟨by rfl, ?_⟩) hHeld ?_
      rotate_left
      ·intro w' hSw
       (try dsimp only at hSw)
       go_simp
       try with_reducible rfl
      try simp only [Act.put, List.setIfInBounds_toArray, List.set_cons_zero, List.set_cons_succ]
      refine wpAnyH_done (by kernel_rfl) ?_ _
      clear hHeld
      go_wp2_with fail
      go_ret
      exact ⟨by rw [HNO.out]; rfl, HBr.out.trans (HB2.out.mono HBr.out.size)⟩
    ·have HNO : Hid (fieldsB (fieldsT fs fv) = false) := Lib.hid (hNO (hokN (by simp [hfl0])))
     have f0 : decide (fl < 0) = true := by simp; omega
     clear hNO hokN hokE hq hbr KF
     go_wp2_with fail
     refine wp_region_held_drew (S := (fun w' => w'.cell? ⟨b, o + i * 8, none⟩ = some (.string nm) ∧ w'.cell? ⟨b, o + i * 8 + 1, none⟩ = some (.int .i64 fl))) (by kernel_rfl) (HCC.out _ (Below.refl _ _).drew) (fun hHeld => ?_)
     refine Plan.start [0, 1, 2, 3] ?_
     iterate 4 ((refine Plan.take (v := ?_) (so rfl) (by kernel_rfl) (by kernel_rfl) (by kernel_rfl) (fun _ _ _ h => h) (Or.inl ⟨by rfl, ?_⟩) hHeld ?_; rotate_left; focus (intro w' hSw; (try dsimp only at hSw); go_simp; try with_reducible rfl)); try simp only [Act.put, List.setIfInBounds_toArray, List.set_cons_zero, List.set_cons_succ])
     refine Plan.done ?_
     refine wpAnyH_ready (rs := [4]) (by kernel_rfl) (by simp) ?_
     refine AllReadyH.cons (sd (some 17) rfl) (fun K hK => ?_) AllReadyH.nil
     go_simp
     refine (KN.out _).mono ?_
     rintro e w2 ⟨rfl, hb2⟩
     have HB2 := Lib.hid ((Below.refl wr.heap.size wr).drew.trans hb2)
     clear hb2
     go_wp2_with fail
     refine hK.out _ _ (HCC.out _ HB2.out) (fun hHeld => ?_)
     clear hK K
     try simp only [Act.put, List.setIfInBounds_toArray, List.set_cons_zero, List.set_cons_succ]
     refine Plan.start [5, 6, 7, 8, 9, 10, 11, 12, 13] ?_
     iterate 9 ((refine Plan.take (v := ?_) (so rfl) (by kernel_rfl) (by kernel_rfl) (by kernel_rfl) (fun _ _ _ h => h) (Or.inl ⟨by rfl, ?_⟩) hHeld ?_; rotate_left; focus (intro w' hSw; (try dsimp only at hSw); go_simp; try with_reducible rfl)); try simp only [Act.put, List.setIfInBounds_toArray, List.set_cons_zero, List.set_cons_succ])
     refine Plan.done ?_
     refine Plan.start [14, 15, 16, 17, 18] ?_
     iterate 5 (refine Plan.take (v := undef) (so rfl) (by kernel_rfl) (by kernel_rfl) (by kernel_rfl) (fun _ _ _ h => h) (Or.inr ⟨by rfl, rfl⟩) hHeld ?_; try simp only [Act.put, List.setIfInBounds_toArray, List.set_cons_zero, List.set_cons_succ])
     refine Plan.done ?_
     refine Plan.start [19, 20] ?_
     iterate 2 ((refine Plan.take (v := ?_) (so rfl) (by kernel_rfl) (by kernel_rfl) (by kernel_rfl) (fun _ _ _ h => h) (Or.inl ⟨by rfl, ?_⟩) hHeld ?_; rotate_left; focus (intro w' hSw; (try dsimp only at hSw); go_simp; try with_reducible rfl)); try simp only [Act.put, List.setIfInBounds_toArray, List.set_cons_zero, List.set_cons_succ])
     refine Plan.done ?_
     refine Plan.start [21, 22, 23, 24, 25, 26, 27, 28, 29, 30, 31, 32, 33, 34, 35] ?_
     iterate 15 (refine Plan.take (v := undef) (so rfl) (by kernel_rfl) (by kernel_rfl) (by kernel_rfl) (fun _ _ _ h => h) (Or.inr ⟨by rfl, rfl⟩) hHeld ?_; try simp only [Act.put, List.setIfInBounds_toArray, List.set_cons_zero, List.set_cons_succ])
     refine Plan.done ?_
     refine Plan.start [36, 37] ?_
     iterate 2 ((refine Plan.take (v := ?_) (so rfl) (by kernel_rfl) (by kernel_rfl) (by kernel_rfl) (fun _ _ _ h => h) (Or.inl ⟨by rfl, ?_⟩) hHeld ?_; rotate_left; focus (intro w' hSw; (try dsimp only at hSw); go_simp; try with_reducible rfl)); try simp only [Act.put, List.setIfInBounds_toArray, List.set_cons_zero, List.set_cons_succ])
     refine Plan.done ?_
     refine Plan.start [38, 39, 40, 41, 42] ?_
     iterate 5 (refine Plan.take (v := undef) (so rfl) (by kernel_rfl) (by kernel_rfl) (by kernel_rfl) (fun _ _ _ h => h) (Or.inr ⟨by rfl, rfl⟩) hHeld ?_; try simp only [Act.put, List.setIfInBounds_toArray, List.set_cons_zero, List.set_cons_succ])
     refine Plan.done ?_
     refine wpAnyH_take (i := 43) (v := ?_) (sd (some 56) rfl) (by kernel_rfl) (by kernel_rfl) (by kernel_rfl) (fun _ _ _ h => h) (Or.inl ⟨by rfl, ?_⟩) hHeld ?_
     rotate_left
     ·intro w' hSw
      (try dsimp only at hSw)
      go_simp
      try with_reducible rfl
     try simp only [Act.put, List.setIfInBounds_toArray, List.set_cons_zero, List.set_cons_succ]
     refine wpAnyH_done (by kernel_rfl) ?_ _
     clear hHeld
     go_wp2_with fail
     go_ret
     exact ⟨by rw [HNO.out]; rfl, HBr.out.trans (HB2.out.mono HBr.out.size)⟩
  ·have t1 : decide ((i : Int) < (fs.length : Int)) = false := by simp; omega
   have HYES : Hid (fieldsB (fieldsT fs fv) = true) := Lib.hid (range_all.2 fun j hj => HOK.out j (by rw [fieldsT_len] at hj; omega))
   clear hle hbr
   go_wp2_with fail
   go_ret
   exact ⟨by rw [HYES.out]; rfl, HBr.out⟩
set_option maxRecDepth 100000 in
set_option maxHeartbeats 8000000 in
theorem formed_val {K : Nat → Prop} {w : World} {t : Ty} {cs : List Value} {r : Bool} (h : RepT K w t cs) (hf : FormIs t r) :
  Calls Tryz.prog 16 #[.agg cs.toArray] w fun e w' => e = .returned (.bool (decide (cntT t ≤ 4096) && r)) ∧ Below w.heap.size w w' := by
 have hb1 : Below w.heap.size w (w.alloc (.cells cs.toArray 26)) := (Below.refl _ _).alloc (Nat.le_refl _) _
 have KN := Lib.hid (nodes_any (h.later hb1))
 have KF := Lib.hid fun wx hx => hf K wx w.heap.size 0 ((AtT.box 26 h).later hx)
 have HB1 := Lib.hid hb1
 have HC : Hid (decide (((capN (cntT t) : Nat) : Int) ≤ 4096) = decide (cntT t ≤ 4096)) := Lib.hid (by unfold capN; congr 1; rw [eq_iff_iff]; omega)
 obtain ⟨k, s, n, ps, fs, vs⟩ := t
 obtain ⟨A, c, A', c', A'', c'', rfl, _⟩ := h.inv
 generalize capN (cntT (.mk k s n ps fs vs)) = q at KN HC
 generalize decide (cntT (.mk k s n ps fs vs) ≤ 4096) = d at HC ⊢
 simp only [cells6T] at KN KF HB1 ⊢
 clear h hf hb1
 cases d with
 | false =>
  have hq : ¬ ((q : Int) ≤ 4096) := by have h := HC.out; simpa using h
  have hq2 : ¬ (q ≤ 4096) := by omega
  go_enter Tryz.func16, Tryz.ntmps16
  go_wp2_with fail
  refine KN.out.mono ?_
  rintro e w1 ⟨rfl, hb1⟩
  have HB2 := Lib.hid (below_then HB1.out hb1)
  clear hb1 KN
  go_wp2_with fail
  go_ret
  exact ⟨rfl, HB2.out⟩
 | true =>
  have hq : ((q : Int) ≤ 4096) := by have h := HC.out; simpa using h
  have hq2 : (q ≤ 4096) := by omega
  go_enter Tryz.func16, Tryz.ntmps16
  go_wp2_with fail
  refine KN.out.mono ?_
  rintro e w1 ⟨rfl, hb1⟩
  have HB2 := Lib.hid (below_then HB1.out hb1)
  have KF2 := Lib.hid (KF.out _ hb1)
  clear hb1 KN KF
  go_wp2_with fail
  refine KF2.out.mono ?_
  rintro e w2 ⟨rfl, hb2⟩
  have HB3 := Lib.hid (below_then HB2.out hb2)
  clear hb2
  go_wp2_with fail
  go_ret
  exact ⟨rfl, HB3.out⟩
set_option maxRecDepth 100000 in
set_option maxHeartbeats 8000000 in
theorem self_15 (t : ByteArray) (n : Int) (ps : List Ty) (fs : List (ByteArray × Int × Ty)) (vs : List (ByteArray × List Ty)) : SelfIs (.mk 15 t n ps fs vs) (isUB ps) := by
 intro K w b o h
 obtain ⟨A, c, _, _, _, _, ⟨x0, -, -, x3, -, -⟩, -, hP, -⟩ := h.six
 have KU := Lib.hid (isU_any hP)
 clear h hP
 generalize isUB ps = r at KU ⊢
 go_enter Tryz.func49, Tryz.ntmps49
 go_wp2_with fail
 refine KU.out.mono ?_
 rintro e w2 ⟨rfl, hb2⟩
 have HB2 := Lib.hid hb2
 clear hb2
 go_wp2_with fail
 go_ret
 exact ⟨rfl, HB2.out⟩
end Go.Proofs.YtfchnfnifpopnaaGreatDoor
