import Derived.Test.YtlooadichhpgeaaGreatDoorMe14
import Derived.Test.YtlooadichhpgeaaGreatDoorMe16
namespace Go.Proofs.YtlooadichhpgeaaGreatDoor
open Go.RowKit
set_option maxRecDepth 100000 in
set_option maxHeartbeats 32000000 in
theorem formedFields_any {K : Nat → Prop} {w : World} {fs : List (ByteArray × Int × Ty)} {A : Option Addr} {c : Nat} {fv : Ty → Bool} (hF : ListF K w fs A c) (hf : ∀ f ∈ fs, FormIs f.2.2 (fv f.2.2)) :
  Calls Tryz.prog 72 #[.slice A fs.length c] w fun e w' => e = .returned (.bool (fieldsB (fieldsT fs fv))) ∧ Below w.heap.size w w' := by
 have HF := Lib.hid hF
 have HI := Lib.hid hf
 have hlf := hF.shortF
 clear hF hf
 go_enter Tryz.func72, Tryz.ntmps72
 go_wp2_with fail
 go_loopw [7] (fun v wr => ∃ i : Nat, i ≤ fs.length ∧ v = .int .i64 (i : Int) ∧ (∀ j, j < i → okF (fieldsT fs fv) j = true) ∧ Below w.heap.size w wr) (fun v _ => fs.length - (intOf v).toNat)
 case atStart => exact ⟨0, by omega, rfl, fun j hj => absurd hj (by omega), Below.refl _ _⟩
 case round =>
  obtain ⟨i, hle, rfl, hok, hbr⟩ := hrel
  have HOK := Lib.hid hok
  have HBr := Lib.hid hbr
  clear hok
  by_cases hlt : i < fs.length
  ·have t1 : decide ((i : Int) < (fs.length : Int)) = true := by simp; omega
   have wr2 : wrap64 ((i : Int) + 1) = ((i + 1 : Nat) : Int) := wrap_one (by omega)
   have HM := Lib.hid (measI hlt)
   have HLE : Hid (i + 1 ≤ fs.length) := Lib.hid hlt
   obtain ⟨b, o, hA, _, hat⟩ := HF.out.at (by omega)
   subst hA
   obtain ⟨hc0, hc1, hsz, hAt⟩ := hat i hlt
   have hNO : okF (fieldsT fs fv) i = false → fieldsB (fieldsT fs fv) = false := fun h => allB_no (by rw [fieldsT_len]; exact hlt) h
   have hFm := HI.out _ (List.getElem_mem hlt)
   have KF := Lib.hid fun wx (hx : Below w.heap.size w wx) => hFm K wx b (o + i * 8 + 2) (hAt.later hx)
   have hokE : (i = 0 ∧ okF (fieldsT fs fv) i = (nameT fs[i].1 && decide (0 ≤ fs[i].2.1) && decide (fs[i].2.1 ≤ 3) && fv fs[i].2.2)) ∨ (∃ j pn, i = j + 1 ∧ w.cell? ⟨b, o + j * 8, none⟩ = some (.string pn) ∧ okF (fieldsT fs fv) i = (nameT fs[i].1 && decide (0 ≤ fs[i].2.1) && decide (fs[i].2.1 ≤ 3) && fv fs[i].2.2 && Go.Op.bytesLess pn.toList fs[i].1.toList)) := by
    match i, hlt with
    | 0, h => exact .inl ⟨rfl, okF_zero h⟩
    | j + 1, h => exact .inr ⟨j, _, rfl, (hat j (by omega)).1, okF_succ h⟩
   generalize hnm : fs[i].1 = nm at hc0 hsz hokE
   generalize hfl : fs[i].2.1 = fl at hc1 hokE
   generalize hty : fv fs[i].2.2 = r at KF hokE
   have hokN : (nameT nm && decide (0 ≤ fl) && decide (fl ≤ 3)) = false → okF (fieldsT fs fv) i = false := fun h => by
    rcases hokE with ⟨_, e⟩ | ⟨_, _, _, _, e⟩ <;> rw [e, h] <;> rfl
   have hcw0 := cell_stays (w := w) (w' := wr) hbr hc0
   have hcw1 := cell_stays (w := w) (w' := wr) hbr hc1
   have KN := Lib.hid fun wx => name_prog nm wx hsz
   have HCC : Hid (∀ wx, Below wr.heap.size wr wx → wx.cell? ⟨b, o + i * 8, none⟩ = some (.string nm) ∧ wx.cell? ⟨b, o + i * 8 + 1, none⟩ = some (.int .i64 fl)) := Lib.hid fun wx hx => ⟨cell_stays hx hcw0, cell_stays hx hcw1⟩
   clear hat hc0 hc1 hnm hfl hty hFm hAt hcw0 hcw1 hle
   cases hq : nameT nm with
   | false =>
    have HNO : Hid (fieldsB (fieldsT fs fv) = false) := Lib.hid (hNO (hokN (by rw [hq]; rfl)))
    rw [hq] at KN
    clear hNO hokN hokE hq hbr KF
    go_wp2_with fail
    refine wp_region_held_drew (S := (fun w' => w'.cell? ⟨b, o + i * 8, none⟩ = some (.string nm) ∧ w'.cell? ⟨b, o + i * 8 + 1, none⟩ = some (.int .i64 fl))) (by kernel_rfl) (HCC.out _ (Below.refl _ _).drew) (fun hHeld => ?_)
    refine Plan.start [0, 1, 2, 3] ?_
    iterate 4 ((refine Plan.take (v := ?_) (so rfl) (by kernel_rfl) (by kernel_rfl) (by kernel_rfl) (fun _ _ _ h => h) (Or.inl ⟨by rfl, ?_⟩) hHeld ?_; rotate_left; focus (intro w' hSw; (try dsimp only at hSw); go_simp; try with_reducible rfl)); try simp only [Act.put, List.setIfInBounds_toArray, List.set_cons_zero, List.set_cons_succ])
    refine Plan.done ?_
    refine wpAnyH_ready (rs := [4]) (by kernel_rfl) (by simp) ?_
    refine AllReadyH.cons (sd (some 17) rfl) (fun K hK => ?_) AllReadyH.nil
    go_simp
    refine (KN.out _).mono ?_
    rintro e w2 ⟨rfl, hb2⟩
    have HB2 := Lib.hid ((Below.refl wr.heap.size wr).drew.trans hb2)
    clear hb2
    go_wp2_with fail
    refine hK.out _ _ (HCC.out _ HB2.out) (fun hHeld => ?_)
    clear hK K
    try simp only [Act.put, List.setIfInBounds_toArray, List.set_cons_zero, List.set_cons_succ]
    refine Plan.start [5, 6] ?_
    iterate 2 ((refine Plan.take (v := ?_) (so rfl) (by kernel_rfl) (by kernel_rfl) (by kernel_rfl) (fun _ _ _ h => h) (Or.inl ⟨by rfl, ?_⟩) hHeld ?_; rotate_left; focus (intro w' hSw; (try dsimp only at hSw); go_simp; try with_reducible rfl)); try simp only [Act.put, List.setIfInBounds_toArray, List.set_cons_zero, List.set_cons_succ])
    refine Plan.done ?_
    refine Plan.start [7, 8, 9, 10, 11] ?_
    iterate 5 (refine Plan.take (v := undef) (so rfl) (by kernel_rfl) (by kernel_rfl) (by kernel_rfl) (fun _ _ _ h => h) (Or.inr ⟨by rfl, rfl⟩) hHeld ?_; try simp only [Act.put, List.setIfInBounds_toArray, List.set_cons_zero, List.set_cons_succ])
    refine Plan.done ?_
    refine Plan.start [12, 13] ?_
    iterate 2 ((refine Plan.take (v := ?_) (so rfl) (by kernel_rfl) (by kernel_rfl) (by kernel_rfl) (fun _ _ _ h => h) (Or.inl ⟨by rfl, ?_⟩) hHeld ?_; rotate_left; focus (intro w' hSw; (try dsimp only at hSw); go_simp; try with_reducible rfl)); try simp only [Act.put, List.setIfInBounds_toArray, List.set_cons_zero, List.set_cons_succ])
    refine Plan.done ?_
    refine Plan.start [14, 15, 16, 17, 18] ?_
    iterate 5 (refine Plan.take (v := undef) (so rfl) (by kernel_rfl) (by kernel_rfl) (by kernel_rfl) (fun _ _ _ h => h) (Or.inr ⟨by rfl, rfl⟩) hHeld ?_; try simp only [Act.put, List.setIfInBounds_toArray, List.set_cons_zero, List.set_cons_succ])
    refine Plan.done ?_
    refine Plan.start [19, 20] ?_
    iterate 2 ((refine Plan.take (v := ?_) (so rfl) (by kernel_rfl) (by kernel_rfl) (by kernel_rfl) (fun _ _ _ h => h) (Or.inl ⟨by rfl, ?_⟩) hHeld ?_; rotate_left; focus (intro w' hSw; (try dsimp only at hSw); go_simp; try with_reducible rfl)); try simp only [Act.put, List.setIfInBounds_toArray, List.set_cons_zero, List.set_cons_succ])
    refine Plan.done ?_
    refine Plan.start [21, 22, 23, 24, 25, 26, 27, 28, 29, 30, 31, 32, 33, 34, 35] ?_
    iterate 15 (refine Plan.take (v := undef) (so rfl) (by kernel_rfl) (by kernel_rfl) (by kernel_rfl) (fun _ _ _ h => h) (Or.inr ⟨by rfl, rfl⟩) hHeld ?_; try simp only [Act.put, List.setIfInBounds_toArray, List.set_cons_zero, List.set_cons_succ])
    refine Plan.done ?_
    refine Plan.start [36, 37] ?_
    iterate 2 ((refine Plan.take (v := ?_) (so rfl) (by kernel_rfl) (by kernel_rfl) (by kernel_rfl) (fun _ _ _ h => h) (Or.inl ⟨by rfl, ?_⟩) hHeld ?_; rotate_left; focus (intro w' hSw; (try dsimp only at hSw); go_simp; try with_reducible rfl)); try simp only [Act.put, List.setIfInBounds_toArray, List.set_cons_zero, List.set_cons_succ])
    refine Plan.done ?_
    refine Plan.start [38, 39, 40, 41, 42] ?_
    iterate 5 (refine Plan.take (v := undef) (so rfl) (by kernel_rfl) (by kernel_rfl) (by kernel_rfl) (fun _ _ _ h => h) (Or.inr ⟨by rfl, rfl⟩) hHeld ?_; try simp only [Act.put, List.setIfInBounds_toArray, List.set_cons_zero, List.set_cons_succ])
    refine Plan.done ?_
    refine wpAnyH_take (i := 43) (v := ?_) (sd (some 56) rfl) (by kernel_rfl) (by kernel_rfl) (by kernel_rfl) (fun _ _ _ h => h) (Or.inl ⟨by rfl, ?_⟩) hHeld ?_
    rotate_left
    ·intro w' hSw
     (try dsimp only at hSw)
     go_simp
     try with_reducible rfl
    try simp only [Act.put, List.setIfInBounds_toArray, List.set_cons_zero, List.set_cons_succ]
    refine wpAnyH_done (by kernel_rfl) ?_ _
    clear hHeld
    go_wp2_with fail
    go_ret
    exact ⟨by rw [HNO.out]; rfl, HBr.out.trans (HB2.out.mono HBr.out.size)⟩
   | true =>
    rw [hq] at KN
    by_cases hfl0 : 0 ≤ fl
    ·by_cases hfl3 : fl ≤ 3
     ·have f0 : decide (fl < 0) = false := by simp; omega
      have f3 : decide ((3 : Int) < fl) = false := by simp; omega
      rcases hokE with ⟨rfl, he⟩ | ⟨i, pn, rfl, hpn, he⟩
      ·have HE : Hid (okF (fieldsT fs fv) 0 = r) := Lib.hid (by rw [he, hq]; simp [hfl0, hfl3])
       simp only [Nat.zero_mul, Nat.add_zero] at HCC KF
       clear hNO hokN he hq hbr
       go_wp2_with fail
       refine wp_region_held_drew (S := (fun w' => w'.cell? ⟨b, o, none⟩ = some (.string nm) ∧ w'.cell? ⟨b, o + 1, none⟩ = some (.int .i64 fl))) (by kernel_rfl) (HCC.out _ (Below.refl _ _).drew) (fun hHeld => ?_)
       refine Plan.start [0, 1, 2, 3] ?_
       iterate 4 ((refine Plan.take (v := ?_) (so rfl) (by kernel_rfl) (by kernel_rfl) (by kernel_rfl) (fun _ _ _ h => h) (Or.inl ⟨by rfl, ?_⟩) hHeld ?_; rotate_left; focus (intro w' hSw; (try dsimp only at hSw); go_simp; try with_reducible rfl)); try simp only [Act.put, List.setIfInBounds_toArray, List.set_cons_zero, List.set_cons_succ])
       refine Plan.done ?_
       refine wpAnyH_ready (rs := [4]) (by kernel_rfl) (by simp) ?_
       refine AllReadyH.cons (sd (some 17) rfl) (fun K hK => ?_) AllReadyH.nil
       go_simp
       refine (KN.out _).mono ?_
       rintro e w2 ⟨rfl, hb2⟩
       have HB2 := Lib.hid ((Below.refl wr.heap.size wr).drew.trans hb2)
       clear hb2
       go_wp2_with fail
       refine hK.out _ _ (HCC.out _ HB2.out) (fun hHeld => ?_)
       clear hK K
       try simp only [Act.put, List.setIfInBounds_toArray, List.set_cons_zero, List.set_cons_succ]
       refine Plan.start [5, 6, 7, 8, 9, 10, 11, 12, 13, 14, 15, 16, 17, 18, 19, 20, 21, 22, 23] ?_
       iterate 19 ((refine Plan.take (v := ?_) (so rfl) (by kernel_rfl) (by kernel_rfl) (by kernel_rfl) (fun _ _ _ h => h) (Or.inl ⟨by rfl, ?_⟩) hHeld ?_; rotate_left; focus (intro w' hSw; (try dsimp only at hSw); go_simp; try with_reducible rfl)); try simp only [Act.put, List.setIfInBounds_toArray, List.set_cons_zero, List.set_cons_succ])
       refine Plan.done ?_
       refine Plan.start [24, 25, 26, 27, 28, 29, 30, 31, 32, 33, 34] ?_
       iterate 11 (refine Plan.take (v := undef) (so rfl) (by kernel_rfl) (by kernel_rfl) (by kernel_rfl) (fun _ _ _ h => h) (Or.inr ⟨by rfl, rfl⟩) hHeld ?_; try simp only [Act.put, List.setIfInBounds_toArray, List.set_cons_zero, List.set_cons_succ])
       refine Plan.done ?_
       refine Plan.start [35, 36, 37, 38, 39, 40] ?_
       iterate 6 ((refine Plan.take (v := ?_) (so rfl) (by kernel_rfl) (by kernel_rfl) (by kernel_rfl) (fun _ _ _ h => h) (Or.inl ⟨by rfl, ?_⟩) hHeld ?_; rotate_left; focus (intro w' hSw; (try dsimp only at hSw); go_simp; try with_reducible rfl)); try simp only [Act.put, List.setIfInBounds_toArray, List.set_cons_zero, List.set_cons_succ])
       refine Plan.done ?_
       refine wpAnyH_ready (rs := [41]) (by kernel_rfl) (by simp) ?_
       refine AllReadyH.cons (sd (some 54) rfl) (fun K hK => ?_) AllReadyH.nil
       go_simp
       refine (KF.out _ (HBr.out.trans (HB2.out.mono HBr.out.size))).mono ?_
       rintro e w3 ⟨rfl, hb3⟩
       have HB3 := Lib.hid (HB2.out.trans (hb3.mono HB2.out.size))
       clear hb3
       go_wp2_with fail
       refine hK.out _ _ (HCC.out _ HB3.out) (fun hHeld => ?_)
       clear hK K
       try simp only [Act.put, List.setIfInBounds_toArray, List.set_cons_zero, List.set_cons_succ]
       refine Plan.start [42, 43] ?_
       iterate 2 ((refine Plan.take (v := ?_) (so rfl) (by kernel_rfl) (by kernel_rfl) (by kernel_rfl) (fun _ _ _ h => h) (Or.inl ⟨by rfl, ?_⟩) hHeld ?_; rotate_left; focus (intro w' hSw; (try dsimp only at hSw); go_simp; try with_reducible rfl)); try simp only [Act.put, List.setIfInBounds_toArray, List.set_cons_zero, List.set_cons_succ])
       refine Plan.done ?_
       refine wpAnyH_done (by kernel_rfl) ?_ _
       clear hHeld
       cases r with
       | false =>
        have HNO : Hid (fieldsB (fieldsT fs fv) = false) := Lib.hid (allB_no (by rw [fieldsT_len]; exact HLE.out) HE.out)
        go_wp2_with fail
        go_ret
        exact ⟨by rw [HNO.out]; rfl, HBr.out.trans (HB3.out.mono HBr.out.size)⟩
       | true =>
        go_wp2_with fail
        refine ⟨⟨0 + 1, HLE.out, by first | rfl | rw [wr2], okU_more HOK.out HE.out, HBr.out.trans (HB3.out.mono HBr.out.size)⟩, ?_⟩
        first | exact HM.out | (rw [wr2]; exact HM.out)
      ·have hpw := cell_stays (w := w) (w' := wr) hbr hpn
       have HCD : Hid (∀ wx, Below wr.heap.size wr wx → wx.cell? ⟨b, o + i * 8, none⟩ = some (.string pn)) := Lib.hid fun wx hx => cell_stays hx hpw
       have wr1 : wrap64 (((i + 1 : Nat) : Int) - 1) = ((i : Nat) : Int) := by rw [wrap_in (by omega) (by omega)]; omega
       have wr1' : IntKind.i64.wrap (((i + 1 : Nat) : Int) - 1) = ((i : Nat) : Int) := by
        have e : IntKind.i64.wrap (((i + 1 : Nat) : Int) - 1) = wrap64 (((i + 1 : Nat) : Int) - 1) := by unfold wrap64; exact IntKind.wrap_i64 _
        rw [e, wr1]
       have wr3 : wrap64 (i : Int) = (i : Int) := wrap_in (by omega) (by omega)
       have wr3' : IntKind.i64.wrap (i : Int) = (i : Int) := by
        have e : IntKind.i64.wrap (i : Int) = wrap64 (i : Int) := by unfold wrap64; exact IntKind.wrap_i64 _
        rw [e, wr3]
       have i2 : (0 : Int) ≤ (i : Int) := by omega
       have i3 : (i : Int) < (fs.length : Int) := by omega
       have i4 : (0 : Int) < (i : Int) + 1 := by omega
       cases hbl : Go.Op.bytesLess pn.toList nm.toList with
       | true =>
        have HE : Hid (okF (fieldsT fs fv) (i + 1) = r) := Lib.hid (by rw [he, hq, hbl]; simp [hfl0, hfl3])
        clear hNO hokN he hq hbr hpn hpw
        go_wp2_with fail
        refine wp_region_held_drew (S := (fun w' => (w'.cell? ⟨b, o + (i + 1) * 8, none⟩ = some (.string nm) ∧ w'.cell? ⟨b, o + (i + 1) * 8 + 1, none⟩ = some (.int .i64 fl)) ∧ w'.cell? ⟨b, o + i * 8, none⟩ = some (.string pn))) (by kernel_rfl) (⟨HCC.out _ (Below.refl _ _).drew, HCD.out _ (Below.refl _ _).drew⟩) (fun hHeld => ?_)
        refine Plan.start [0, 1, 2, 3] ?_
        iterate 4 ((refine Plan.take (v := ?_) (so rfl) (by kernel_rfl) (by kernel_rfl) (by kernel_rfl) (fun _ _ _ h => h) (Or.inl ⟨by rfl, ?_⟩) hHeld ?_; rotate_left; focus (intro w' hSw; (try dsimp only at hSw); go_simp; try with_reducible rfl)); try simp only [Act.put, List.setIfInBounds_toArray, List.set_cons_zero, List.set_cons_succ])
        refine Plan.done ?_
        refine wpAnyH_ready (rs := [4]) (by kernel_rfl) (by simp) ?_
        refine AllReadyH.cons (sd (some 17) rfl) (fun K hK => ?_) AllReadyH.nil
        go_simp
        refine (KN.out _).mono ?_
        rintro e w2 ⟨rfl, hb2⟩
        have HB2 := Lib.hid ((Below.refl wr.heap.size wr).drew.trans hb2)
        clear hb2
        go_wp2_with fail
        refine hK.out _ _ (⟨HCC.out _ HB2.out, HCD.out _ HB2.out⟩) (fun hHeld => ?_)
        clear hK K
        try simp only [Act.put, List.setIfInBounds_toArray, List.set_cons_zero, List.set_cons_succ]
        refine Plan.start [5, 6, 7, 8, 9, 10, 11, 12, 13, 14, 15, 16, 17, 18, 19, 20, 21, 22, 23, 24, 25, 26, 27, 28, 29, 30, 31, 32, 33, 34, 35, 36, 37, 38, 39, 40] ?_
        iterate 36 ((refine Plan.take (v := ?_) (so rfl) (by kernel_rfl) (by kernel_rfl) (by kernel_rfl) (fun _ _ _ h => h) (Or.inl ⟨by rfl, ?_⟩) hHeld ?_; rotate_left; focus (intro w' hSw; (try dsimp only at hSw); go_simp; try with_reducible rfl)); try simp only [Act.put, List.setIfInBounds_toArray, List.set_cons_zero, List.set_cons_succ])
        refine Plan.done ?_
        refine wpAnyH_ready (rs := [41]) (by kernel_rfl) (by simp) ?_
        refine AllReadyH.cons (sd (some 54) rfl) (fun K hK => ?_) AllReadyH.nil
        go_simp
        refine (KF.out _ (HBr.out.trans (HB2.out.mono HBr.out.size))).mono ?_
        rintro e w3 ⟨rfl, hb3⟩
        have HB3 := Lib.hid (HB2.out.trans (hb3.mono HB2.out.size))
        clear hb3
        go_wp2_with fail
        refine hK.out _ _ (⟨HCC.out _ HB3.out, HCD.out _ HB3.out⟩) (fun hHeld => ?_)
        clear hK K
        try simp only [Act.put, List.setIfInBounds_toArray, List.set_cons_zero, List.set_cons_succ]
        refine Plan.start [42, 43] ?_
        iterate 2 ((refine Plan.take (v := ?_) (so rfl) (by kernel_rfl) (by kernel_rfl) (by kernel_rfl) (fun _ _ _ h => h) (Or.inl ⟨by rfl, ?_⟩) hHeld ?_; rotate_left; focus (intro w' hSw; (try dsimp only at hSw); go_simp; try with_reducible rfl)); try simp only [Act.put, List.setIfInBounds_toArray, List.set_cons_zero, List.set_cons_succ])
        refine Plan.done ?_
        refine wpAnyH_done (by kernel_rfl) ?_ _
        clear hHeld
        cases r with
        | false =>
         have HNO : Hid (fieldsB (fieldsT fs fv) = false) := Lib.hid (allB_no (by rw [fieldsT_len]; exact HLE.out) HE.out)
         go_wp2_with fail
         go_ret
         exact ⟨by rw [HNO.out]; rfl, HBr.out.trans (HB3.out.mono HBr.out.size)⟩
        | true =>
         go_wp2_with fail
         refine ⟨⟨(i + 1) + 1, HLE.out, by first | rfl | rw [wr2], okU_more HOK.out HE.out, HBr.out.trans (HB3.out.mono HBr.out.size)⟩, ?_⟩
         first | exact HM.out | (rw [wr2]; exact HM.out)
       | false =>
        have HNO : Hid (fieldsB (fieldsT fs fv) = false) := Lib.hid (hNO (by rw [he, hbl]; simp))
        clear hNO hokN he hq hbr hpn hpw KF
        go_wp2_with fail
        refine wp_region_held_drew (S := (fun w' => (w'.cell? ⟨b, o + (i + 1) * 8, none⟩ = some (.string nm) ∧ w'.cell? ⟨b, o + (i + 1) * 8 + 1, none⟩ = some (.int .i64 fl)) ∧ w'.cell? ⟨b, o + i * 8, none⟩ = some (.string pn))) (by kernel_rfl) (⟨HCC.out _ (Below.refl _ _).drew, HCD.out _ (Below.refl _ _).drew⟩) (fun hHeld => ?_)
        refine Plan.start [0, 1, 2, 3] ?_
        iterate 4 ((refine Plan.take (v := ?_) (so rfl) (by kernel_rfl) (by kernel_rfl) (by kernel_rfl) (fun _ _ _ h => h) (Or.inl ⟨by rfl, ?_⟩) hHeld ?_; rotate_left; focus (intro w' hSw; (try dsimp only at hSw); go_simp; try with_reducible rfl)); try simp only [Act.put, List.setIfInBounds_toArray, List.set_cons_zero, List.set_cons_succ])
        refine Plan.done ?_
        refine wpAnyH_ready (rs := [4]) (by kernel_rfl) (by simp) ?_
        refine AllReadyH.cons (sd (some 17) rfl) (fun K hK => ?_) AllReadyH.nil
        go_simp
        refine (KN.out _).mono ?_
        rintro e w2 ⟨rfl, hb2⟩
        have HB2 := Lib.hid ((Below.refl wr.heap.size wr).drew.trans hb2)
        clear hb2
        go_wp2_with fail
        refine hK.out _ _ (⟨HCC.out _ HB2.out, HCD.out _ HB2.out⟩) (fun hHeld => ?_)
        clear hK K
        try simp only [Act.put, List.setIfInBounds_toArray, List.set_cons_zero, List.set_cons_succ]
        refine Plan.start [5, 6, 7, 8, 9, 10, 11, 12, 13, 14, 15, 16, 17, 18, 19, 20, 21, 22, 23, 24, 25, 26, 27, 28, 29, 30, 31, 32, 33, 34, 35, 36, 37] ?_
        iterate 33 ((refine Plan.take (v := ?_) (so rfl) (by kernel_rfl) (by kernel_rfl) (by kernel_rfl) (fun _ _ _ h => h) (Or.inl ⟨by rfl, ?_⟩) hHeld ?_; rotate_left; focus (intro w' hSw; (try dsimp only at hSw); go_simp; try with_reducible rfl)); try simp only [Act.put, List.setIfInBounds_toArray, List.set_cons_zero, List.set_cons_succ])
        refine Plan.done ?_
        refine Plan.start [38, 39, 40, 41, 42] ?_
        iterate 5 (refine Plan.take (v := undef) (so rfl) (by kernel_rfl) (by kernel_rfl) (by kernel_rfl) (fun _ _ _ h => h) (Or.inr ⟨by rfl, rfl⟩) hHeld ?_; try simp only [Act.put, List.setIfInBounds_toArray, List.set_cons_zero, List.set_cons_succ])
        refine Plan.done ?_
        refine wpAnyH_take (i := 43) (v := ?_) (sd (some 56) rfl) (by kernel_rfl) (by kernel_rfl) (by kernel_rfl) (fun _ _ _ h => h) (Or.inl ⟨by rfl, ?_⟩) hHeld ?_
        rotate_left
        ·intro w' hSw
         (try dsimp only at hSw)
         go_simp
         try with_reducible rfl
        try simp only [Act.put, List.setIfInBounds_toArray, List.set_cons_zero, List.set_cons_succ]
        refine wpAnyH_done (by kernel_rfl) ?_ _
        clear hHeld
        go_wp2_with fail
        go_ret
        exact ⟨by rw [HNO.out]; rfl, HBr.out.trans (HB2.out.mono HBr.out.size)⟩
     ·have HNO : Hid (fieldsB (fieldsT fs fv) = false) := Lib.hid (hNO (hokN (by simp [hfl3])))
      have f0 : decide (fl < 0) = false := by simp; omega
      have f3 : decide ((3 : Int) < fl) = true := by simp; omega
      clear hNO hokN hokE hq hbr KF
      go_wp2_with fail
      refine wp_region_held_drew (S := (fun w' => w'.cell? ⟨b, o + i * 8, none⟩ = some (.string nm) ∧ w'.cell? ⟨b, o + i * 8 + 1, none⟩ = some (.int .i64 fl))) (by kernel_rfl) (HCC.out _ (Below.refl _ _).drew) (fun hHeld => ?_)
      refine Plan.start [0, 1, 2, 3] ?_
      iterate 4 ((refine Plan.take (v := ?_) (so rfl) (by kernel_rfl) (by kernel_rfl) (by kernel_rfl) (fun _ _ _ h => h) (Or.inl ⟨by rfl, ?_⟩) hHeld ?_; rotate_left; focus (intro w' hSw; (try dsimp only at hSw); go_simp; try with_reducible rfl)); try simp only [Act.put, List.setIfInBounds_toArray, List.set_cons_zero, List.set_cons_succ])
      refine Plan.done ?_
      refine wpAnyH_ready (rs := [4]) (by kernel_rfl) (by simp) ?_
      refine AllReadyH.cons (sd (some 17) rfl) (fun K hK => ?_) AllReadyH.nil
      go_simp
      refine (KN.out _).mono ?_
      rintro e w2 ⟨rfl, hb2⟩
      have HB2 := Lib.hid ((Below.refl wr.heap.size wr).drew.trans hb2)
      clear hb2
      go_wp2_with fail
      refine hK.out _ _ (HCC.out _ HB2.out) (fun hHeld => ?_)
      clear hK K
      try simp only [Act.put, List.setIfInBounds_toArray, List.set_cons_zero, List.set_cons_succ]
      refine Plan.start [5, 6, 7, 8, 9, 10, 11, 12, 13, 14, 15, 16, 17, 18, 19, 20] ?_
      iterate 16 ((refine Plan.take (v := ?_) (so rfl) (by kernel_rfl) (by kernel_rfl) (by kernel_rfl) (fun _ _ _ h => h) (Or.inl ⟨by rfl, ?_⟩) hHeld ?_; rotate_left; focus (intro w' hSw; (try dsimp only at hSw); go_simp; try with_reducible rfl)); try simp only [Act.put, List.setIfInBounds_toArray, List.set_cons_zero, List.set_cons_succ])
      refine Plan.done ?_
      refine Plan.start [21, 22, 23, 24, 25, 26, 27, 28, 29, 30, 31, 32, 33, 34, 35] ?_
      iterate 15 (refine Plan.take (v := undef) (so rfl) (by kernel_rfl) (by kernel_rfl) (by kernel_rfl) (fun _ _ _ h => h) (Or.inr ⟨by rfl, rfl⟩) hHeld ?_; try simp only [Act.put, List.setIfInBounds_toArray, List.set_cons_zero, List.set_cons_succ])
      refine Plan.done ?_
      refine Plan.start [36, 37] ?_
      iterate 2 ((refine Plan.take (v := ?_) (so rfl) (by kernel_rfl) (by kernel_rfl) (by kernel_rfl) (fun _ _ _ h => h) (Or.inl ⟨by rfl, ?_⟩) hHeld ?_; rotate_left; focus (intro w' hSw; (try dsimp only at hSw); go_simp; try with_reducible rfl)); try simp only [Act.put, List.setIfInBounds_toArray, List.set_cons_zero, List.set_cons_succ])
      refine Plan.done ?_
      refine Plan.start [38, 39, 40, 41, 42] ?_
      iterate 5 (refine Plan.take (v := undef) (so rfl) (by kernel_rfl) (by kernel_rfl) (by kernel_rfl) (fun _ _ _ h => h) (Or.inr ⟨by rfl, rfl⟩) hHeld ?_; try simp only [Act.put, List.setIfInBounds_toArray, List.set_cons_zero, List.set_cons_succ])
      refine Plan.done ?_
      refine wpAnyH_take (i := 43) (v := ?_) (sd (some 56) rfl) (by kernel_rfl) (by kernel_rfl) (by kernel_rfl) (fun _ _ _ h => h) (Or.inl ⟨by rfl, ?_⟩) hHeld ?_
      rotate_left
      ·intro w' hSw
       (try dsimp only at hSw)
       go_simp
       try with_reducible rfl
      try simp only [Act.put, List.setIfInBounds_toArray, List.set_cons_zero, List.set_cons_succ]
      refine wpAnyH_done (by kernel_rfl) ?_ _
      clear hHeld
      go_wp2_with fail
      go_ret
      exact ⟨by rw [HNO.out]; rfl, HBr.out.trans (HB2.out.mono HBr.out.size)⟩
    ·have HNO : Hid (fieldsB (fieldsT fs fv) = false) := Lib.hid (hNO (hokN (by simp [hfl0])))
     have f0 : decide (fl < 0) = true := by simp; omega
     clear hNO hokN hokE hq hbr KF
     go_wp2_with fail
     refine wp_region_held_drew (S := (fun w' => w'.cell? ⟨b, o + i * 8, none⟩ = some (.string nm) ∧ w'.cell? ⟨b, o + i * 8 + 1, none⟩ = some (.int .i64 fl))) (by kernel_rfl) (HCC.out _ (Below.refl _ _).drew) (fun hHeld => ?_)
     refine Plan.start [0, 1, 2, 3] ?_
     iterate 4 ((refine Plan.take (v := ?_) (so rfl) (by kernel_rfl) (by kernel_rfl) (by kernel_rfl) (fun _ _ _ h => h) (Or.inl ⟨by rfl, ?_⟩) hHeld ?_; rotate_left; focus (intro w' hSw; (try dsimp only at hSw); go_simp; try with_reducible rfl)); try simp only [Act.put, List.setIfInBounds_toArray, List.set_cons_zero, List.set_cons_succ])
     refine Plan.done ?_
     refine wpAnyH_ready (rs := [4]) (by kernel_rfl) (by simp) ?_
     refine AllReadyH.cons (sd (some 17) rfl) (fun K hK => ?_) AllReadyH.nil
     go_simp
     refine (KN.out _).mono ?_
     rintro e w2 ⟨rfl, hb2⟩
     have HB2 := Lib.hid ((Below.refl wr.heap.size wr).drew.trans hb2)
     clear hb2
     go_wp2_with fail
     refine hK.out _ _ (HCC.out _ HB2.out) (fun hHeld => ?_)
     clear hK K
     try simp only [Act.put, List.setIfInBounds_toArray, List.set_cons_zero, List.set_cons_succ]
     refine Plan.start [5, 6, 7, 8, 9, 10, 11, 12, 13] ?_
     iterate 9 ((refine Plan.take (v := ?_) (so rfl) (by kernel_rfl) (by kernel_rfl) (by kernel_rfl) (fun _ _ _ h => h) (Or.inl ⟨by rfl, ?_⟩) hHeld ?_; rotate_left; focus (intro w' hSw; (try dsimp only at hSw); go_simp; try with_reducible rfl)); try simp only [Act.put, List.setIfInBounds_toArray, List.set_cons_zero, List.set_cons_succ])
     refine Plan.done ?_
     refine Plan.start [14, 15, 16, 17, 18] ?_
     iterate 5 (refine Plan.take (v := undef) (so rfl) (by kernel_rfl) (by kernel_rfl) (by kernel_rfl) (fun _ _ _ h => h) (Or.inr ⟨by rfl, rfl⟩) hHeld ?_; try simp only [Act.put, List.setIfInBounds_toArray, List.set_cons_zero, List.set_cons_succ])
     refine Plan.done ?_
     refine Plan.start [19, 20] ?_
     iterate 2 ((refine Plan.take (v := ?_) (so rfl) (by kernel_rfl) (by kernel_rfl) (by kernel_rfl) (fun _ _ _ h => h) (Or.inl ⟨by rfl, ?_⟩) hHeld ?_; rotate_left; focus (intro w' hSw; (try dsimp only at hSw); go_simp; try with_reducible rfl)); try simp only [Act.put, List.setIfInBounds_toArray, List.set_cons_zero, List.set_cons_succ])
     refine Plan.done ?_
     refine Plan.start [21, 22, 23, 24, 25, 26, 27, 28, 29, 30, 31, 32, 33, 34, 35] ?_
     iterate 15 (refine Plan.take (v := undef) (so rfl) (by kernel_rfl) (by kernel_rfl) (by kernel_rfl) (fun _ _ _ h => h) (Or.inr ⟨by rfl, rfl⟩) hHeld ?_; try simp only [Act.put, List.setIfInBounds_toArray, List.set_cons_zero, List.set_cons_succ])
     refine Plan.done ?_
     refine Plan.start [36, 37] ?_
     iterate 2 ((refine Plan.take (v := ?_) (so rfl) (by kernel_rfl) (by kernel_rfl) (by kernel_rfl) (fun _ _ _ h => h) (Or.inl ⟨by rfl, ?_⟩) hHeld ?_; rotate_left; focus (intro w' hSw; (try dsimp only at hSw); go_simp; try with_reducible rfl)); try simp only [Act.put, List.setIfInBounds_toArray, List.set_cons_zero, List.set_cons_succ])
     refine Plan.done ?_
     refine Plan.start [38, 39, 40, 41, 42] ?_
     iterate 5 (refine Plan.take (v := undef) (so rfl) (by kernel_rfl) (by kernel_rfl) (by kernel_rfl) (fun _ _ _ h => h) (Or.inr ⟨by rfl, rfl⟩) hHeld ?_; try simp only [Act.put, List.setIfInBounds_toArray, List.set_cons_zero, List.set_cons_succ])
     refine Plan.done ?_
     refine wpAnyH_take (i := 43) (v := ?_) (sd (some 56) rfl) (by kernel_rfl) (by kernel_rfl) (by kernel_rfl) (fun _ _ _ h => h) (Or.inl ⟨by rfl, ?_⟩) hHeld ?_
     rotate_left
     ·intro w' hSw
      (try dsimp only at hSw)
      go_simp
      try with_reducible rfl
     try simp only [Act.put, List.setIfInBounds_toArray, List.set_cons_zero, List.set_cons_succ]
     refine wpAnyH_done (by kernel_rfl) ?_ _
     clear hHeld
     go_wp2_with fail
     go_ret
     exact ⟨by rw [HNO.out]; rfl, HBr.out.trans (HB2.out.mono HBr.out.size)⟩
  ·have t1 : decide ((i : Int) < (fs.length : Int)) = false := by simp; omega
   have HYES : Hid (fieldsB (fieldsT fs fv) = true) := Lib.hid (range_all.2 fun j hj => HOK.out j (by rw [fieldsT_len] at hj; omega))
   clear hle hbr
   go_wp2_with fail
   go_ret
   exact ⟨by rw [HYES.out]; rfl, HBr.out⟩
theorem sgnZ (x y : Int) : sgn (decide (x < y)) (decide (y < x)) = cmpZ x y := by
 rcases cmpZ_cases x y with ⟨a, b, e⟩ | ⟨a, b, e⟩ | ⟨a, b, e⟩ <;> rw [e, sgn] <;> simp [a, b]
theorem sgnB (x y : ByteArray) : sgn (Op.bytesLess x.toList y.toList) (!Op.bytesLess x.toList y.toList && !(x.toList == y.toList)) = cmpB x y := by
 rcases cmpB_cases x y with ⟨a, b, e⟩ | ⟨a, b, e⟩ | ⟨a, b, e⟩ <;> rw [e, sgn, a, b] <;> rfl
set_option maxRecDepth 100000 in
set_option maxHeartbeats 32000000 in
theorem ordr_step (k : Int) (t : ByteArray) (n : Int) (ps : List Ty) (fs : List (ByteArray × Int × Ty)) (vs : List (ByteArray × List Ty)) (hp : ∀ p ∈ ps, OrdR p) (hf : ∀ f ∈ fs, OrdR f.2.2) (hv : ∀ v ∈ vs, ∀ b ∈ v.2, OrdR b) : OrdR (.mk k t n ps fs vs) := by
 intro K K' t' w cs cs' h h'
 obtain ⟨k', s', n', ps', fs', vs'⟩ := t'
 have hb2 : Gw w ((w.alloc (.cells cs.toArray 26)).alloc (.cells cs'.toArray 26)) := ((Gw.refl w).alloc _).alloc _
 have a1 := (AtT.box 26 h).later ((Below.refl _ _).alloc (Nat.le_refl _) (.cells cs'.toArray 26))
 have a2 : AtT K' ((w.alloc (.cells cs.toArray 26)).alloc (.cells cs'.toArray 26)) (.mk k' s' n' ps' fs' vs') (w.heap.size + 1) 0 := by
  have := AtT.box (w := w.alloc (.cells cs.toArray 26)) 26 (h'.later ((Below.refl _ _).alloc (Nat.le_refl _) _))
  rw [World.size_alloc] at this
  exact this
 have HB2 := Lib.hid hb2
 obtain ⟨A, c, A2, c2, A3, c3, rfl, -⟩ := h.inv
 obtain ⟨B, d, B2, d2, B3, d3, rfl, -⟩ := h'.inv
 simp only [cells6T] at a1 a2 HB2 ⊢
 generalize hw2 : (w.alloc (.cells #[.int .i64 k, .string t, .int .i64 n, .slice A ps.length c, .slice A2 fs.length c2, .slice A3 vs.length c3] 26)).alloc (.cells #[.int .i64 k', .string s', .int .i64 n', .slice B ps'.length d, .slice B2 fs'.length d2, .slice B3 vs'.length d3] 26) = w2 at a1 a2 HB2
 have HE2 := Lib.hid hw2
 obtain ⟨A', c', A2', c2', A3', c3', ⟨x0, x1, x2, x3, x4, x5⟩, -, hP, hF, hV⟩ := a1.six
 obtain ⟨B', d', B2', d2', B3', d3', ⟨y0, y1, y2, y3, y4, y5⟩, -, hP', hF', hV'⟩ := a2.six
 rw [Nat.zero_add] at x1 x2 x3 x4 x5 y1 y2 y3 y4 y5
 have HX : Hid (∀ wx, Gw w2 wx → (wx.cell? ⟨w.heap.size, 3, none⟩ = some (.slice A' ps.length c') ∧ wx.cell? ⟨w.heap.size, 4, none⟩ = some (.slice A2' fs.length c2') ∧ wx.cell? ⟨w.heap.size, 5, none⟩ = some (.slice A3' vs.length c3')) ∧ wx.cell? ⟨w.heap.size + 1, 3, none⟩ = some (.slice B' ps'.length d') ∧ wx.cell? ⟨w.heap.size + 1, 4, none⟩ = some (.slice B2' fs'.length d2') ∧ wx.cell? ⟨w.heap.size + 1, 5, none⟩ = some (.slice B3' vs'.length d3')) := Lib.hid fun wx hx => ⟨⟨cell_stays hx.below x3, cell_stays hx.below x4, cell_stays hx.below x5⟩, cell_stays hx.below y3, cell_stays hx.below y4, cell_stays hx.below y5⟩
 have K3 : Hid (∀ wx, Gw w2 wx → Calls Tryz.prog 44 #[.slice A' ps.length c', .slice B' ps'.length d'] wx fun e w' => e = .returned (.int .i64 (lexC (flatL ps) (flatL ps'))) ∧ Gw wx w') := Lib.hid fun wx hx => list_ref ps ps' hp (hP.later hx.below) (hP'.later hx.below)
 have K4 : Hid (∀ wx, Gw w2 wx → Calls Tryz.prog 45 #[.slice A2' fs.length c2', .slice B2' fs'.length d2'] wx fun e w' => e = .returned (.int .i64 (lexC (flatF fs) (flatF fs'))) ∧ Gw wx w') := Lib.hid fun wx hx => fields_ref fs fs' hf (hF.later hx.below) (hF'.later hx.below)
 have K5 : Hid (∀ wx, Gw w2 wx → Calls Tryz.prog 46 #[.slice A3' vs.length c3', .slice B3' vs'.length d3'] wx fun e w' => e = .returned (.int .i64 (lexC (flatV vs) (flatV vs'))) ∧ Gw wx w') := Lib.hid fun wx hx => vars_ref vs vs' hv (hV.later hx.below) (hV'.later hx.below)
 have HO := Lib.hid (ord_steps k t n ps fs vs k' s' n' ps' fs' vs')
 have Z0 := Lib.hid (sgnZ k k')
 have Z1 := Lib.hid (sgnB t s')
 have Z2 := Lib.hid (sgnZ n n')
 generalize ordT (.mk k t n ps fs vs) (.mk k' s' n' ps' fs' vs') = oo at HO ⊢
 generalize cmpZ k k' = q0 at HO Z0
 generalize cmpB t s' = q1 at HO Z1
 generalize cmpZ n n' = q2 at HO Z2
 generalize lexC (flatL ps) (flatL ps') = q3 at HO K3
 generalize lexC (flatF fs) (flatF fs') = q4 at HO K4
 generalize lexC (flatV vs) (flatV vs') = q5 at HO K5
 clear h h' hb2 a1 a2 hP hF hV hP' hF' hV' hp hf hv hw2 x3 x4 x5 y3 y4 y5
 go_enter Tryz.func23, Tryz.ntmps23
 go_wp2_with fail
 rw [HE2.out]
 refine (sign_any _ _ _).mono ?_
 rintro e w3 ⟨rfl, rfl⟩
 rw [Z0.out]
 by_cases z0 : q0 = 0
 ·have e0 : (q0 == 0) = true := by simpa using z0
  have Q0 := Lib.hid z0
  clear z0
  go_wp2_with fail
  refine (sign_any _ _ _).mono ?_
  rintro e w3 ⟨rfl, rfl⟩
  rw [Z1.out]
  by_cases z1 : q1 = 0
  ·have e1 : (q1 == 0) = true := by simpa using z1
   have Q1 := Lib.hid z1
   clear z1
   go_wp2_with fail
   refine (sign_any _ _ _).mono ?_
   rintro e w3 ⟨rfl, rfl⟩
   rw [Z2.out]
   by_cases z2 : q2 = 0
   ·have e2 : (q2 == 0) = true := by simpa using z2
    have Q2 := Lib.hid z2
    clear z2
    obtain ⟨⟨x3, x4, x5⟩, y3, y4, y5⟩ := HX.out _ (Gw.refl _)
    go_wp2_with fail
    clear x3 x4 x5 y3 y4 y5
    refine (K3.out _ (Gw.refl _)).mono ?_
    rintro e w3 ⟨rfl, hg⟩
    have HG3 := Lib.hid (hg)
    clear hg
    by_cases z3 : q3 = 0
    ·have e3 : (q3 == 0) = true := by simpa using z3
     have Q3 := Lib.hid z3
     clear z3
     obtain ⟨⟨x3, x4, x5⟩, y3, y4, y5⟩ := HX.out _ HG3.out
     go_wp2_with fail
     clear x3 x4 x5 y3 y4 y5
     refine (K4.out _ HG3.out).mono ?_
     rintro e w4 ⟨rfl, hg⟩
     have HG4 := Lib.hid (HG3.out.trans hg)
     clear hg
     by_cases z4 : q4 = 0
     ·have e4 : (q4 == 0) = true := by simpa using z4
      have Q4 := Lib.hid z4
      clear z4
      obtain ⟨⟨x3, x4, x5⟩, y3, y4, y5⟩ := HX.out _ HG4.out
      go_wp2_with fail
      clear x3 x4 x5 y3 y4 y5
      refine (K5.out _ HG4.out).mono ?_
      rintro e w5 ⟨rfl, hg⟩
      have HG5 := Lib.hid (HG4.out.trans hg)
      clear hg
      go_wp2_with fail
      go_ret
      exact ⟨by rw [HO.out, Q0.out, or2_zero, Q1.out, or2_zero, Q2.out, or2_zero, Q3.out, or2_zero, Q4.out, or2_zero]; rfl, HB2.out.trans HG5.out⟩
     ·have e4 : (q4 == 0) = false := by simpa using z4
      have Q4 := Lib.hid z4
      clear z4
      go_wp2_with fail
      go_ret
      exact ⟨by rw [HO.out, Q0.out, or2_zero, Q1.out, or2_zero, Q2.out, or2_zero, Q3.out, or2_zero, or2_ne Q4.out]; rfl, HB2.out.trans HG4.out⟩
    ·have e3 : (q3 == 0) = false := by simpa using z3
     have Q3 := Lib.hid z3
     clear z3
     go_wp2_with fail
     go_ret
     exact ⟨by rw [HO.out, Q0.out, or2_zero, Q1.out, or2_zero, Q2.out, or2_zero, or2_ne Q3.out]; rfl, HB2.out.trans HG3.out⟩
   ·have e2 : (q2 == 0) = false := by simpa using z2
    have Q2 := Lib.hid z2
    clear z2
    go_wp2_with fail
    go_ret
    exact ⟨by rw [HO.out, Q0.out, or2_zero, Q1.out, or2_zero, or2_ne Q2.out]; rfl, HB2.out⟩
  ·have e1 : (q1 == 0) = false := by simpa using z1
   have Q1 := Lib.hid z1
   clear z1
   go_wp2_with fail
   go_ret
   exact ⟨by rw [HO.out, Q0.out, or2_zero, or2_ne Q1.out]; rfl, HB2.out⟩
 ·have e0 : (q0 == 0) = false := by simpa using z0
  have Q0 := Lib.hid z0
  clear z0
  go_wp2_with fail
  go_ret
  exact ⟨by rw [HO.out, or2_ne Q0.out]; rfl, HB2.out⟩
theorem order_ref (t : Ty) : OrdR t := Ty.ind (C := OrdR) (fun k t n ps fs vs hp hf hv => ordr_step k t n ps fs vs hp hf hv) t
end Go.Proofs.YtlooadichhpgeaaGreatDoor
