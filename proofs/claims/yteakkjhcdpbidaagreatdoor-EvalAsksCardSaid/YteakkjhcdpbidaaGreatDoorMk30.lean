import Derived.Test.YteakkjhcdpbidaaGreatDoorMk27
import Derived.Test.YteakkjhcdpbidaaGreatDoorMk28
namespace Go.Proofs.YteakkjhcdpbidaaGreatDoor
set_option maxRecDepth 100000
set_option maxHeartbeats 64000000
open Go.RowKit
theorem cntF_mem : ∀ {l : FsT} {v : ByteArray × Int × Ty}, v ∈ l → cntT v.2.2 ≤ cntF l
 | a :: l, v, h => by
  have e : cntF (a :: l) = cntT a.2.2 + cntF l := by simp [cntF]
  rw [e]
  rcases List.mem_cons.1 h with rfl | h
  ·omega
  ·have := cntF_mem h; omega
def lastOk (l : FsT) (i : Nat) (nm : ByteArray) : Bool := match i with | 0 => true | j + 1 => match l[j]? with | none => true | some p => Go.Op.bytesLess p.1.toList nm.toList
theorem object_ref (l : FsT) (h : ∀ f ∈ l, FormR f.2.2) {K : Nat → Prop} {w : World} {A : Option Addr} {c : Nat} (hL : ListF K w l A c) (hc : cntF l ≤ 1000000) :
  Calls Tryz.prog 59 #[.slice A l.length c] w fun e w' => e = .returned (.bool (fieldsB (fieldsT l formT))) ∧ Below w.heap.size w w' := by
 have HL := Hd hL
 have HH := Hd h
 have HC := Hd hc
 have hll := hL.shortF
 clear hL h hc
 go_enter Tryz.func59, Tryz.ntmps59
 go_wp2_with fail
 go_loopw [3] (fun v wr => ∃ (i : Nat), i ≤ l.length ∧ v = .int .i64 i ∧ (∀ j, j < i → okF (fieldsT l formT) j = true) ∧ Below w.heap.size w wr) (fun v _ => l.length - (intOf v).toNat)
 case atStart => exact ⟨0, by omega, rfl, fun j hj => absurd hj (by omega), Below.refl _ _⟩
 case round =>
  obtain ⟨i, hi, rfl, he, hb⟩ := hrel
  have HE := Hd he
  have HB := Hd hb
  clear he hb
  by_cases hin : i < l.length
  ·have t1 : decide ((i : Int) < (l.length : Int)) = true := by simp; omega
   have wr2 : wrap64 ((i : Int) + 1) = ((i + 1 : Nat) : Int) := wrap_one (by omega)
   have HM := Hd (measI hin)
   obtain ⟨b, o, hA, _, hat⟩ := HL.out.at (by omega)
   obtain ⟨hc0, hc1, hsz, cs, hcs, hrep⟩ := hat i hin
   have HNO : Hid (okF (fieldsT l formT) i = false → fieldsB (fieldsT l formT) = false) := Hd fun e => by unfold fieldsB; exact allB_no (by rw [fieldsT_len]; exact hin) e
   have HCell : Hid (∀ k (h : k < l.length), ∃ q, q = l[k].1 ∧ w.cell? ⟨b, o + k * 8, none⟩ = some (.string q)) := Hd fun k h => ⟨_, rfl, (hat k h).1⟩
   have HOK : Hid (okF (fieldsT l formT) i = (nameT l[i].1 && decide (0 ≤ l[i].2.1) && decide (l[i].2.1 ≤ 3) && formT l[i].2.2 && lastOk l i l[i].1)) := Hd (by
    clear hc0 hc1 hsz hcs hrep HNO HCell
    rcases i with _ | j
    ·rw [okF_zero hin]; simp [lastOk]
    ·rw [okF_succ hin]; simp only [lastOk, List.getElem?_eq_getElem (show j < l.length by omega)])
   have KForm := Hd fun wx (hx : Below w.heap.size w wx) => HH.out _ (List.getElem_mem hin) K wx cs (hrep.later hx) (Nat.le_trans (cntF_mem (List.getElem_mem hin)) HC.out)
   subst hA
   generalize l[i].1 = nm at hc0 hsz HOK
   generalize l[i].2.1 = fl at hc1 HOK
   generalize l[i].2.2 = t at hrep HOK KForm
   obtain ⟨k2, s2, n2, ps2, fs2, vs2⟩ := t
   obtain ⟨Aq, cq, Ag, cg, Ah, ch, rfl, -⟩ := hrep.inv
   simp only [cells6T] at KForm
   have HX : Hid (∀ wx, Below w.heap.size w wx → wx.cell? ⟨b, o + i * 8, none⟩ = some (.string nm) ∧ wx.cell? ⟨b, o + i * 8 + 1, none⟩ = some (.int .i64 fl) ∧ wx.cell? ⟨b, o + i * 8 + 2, none⟩ = some (.int .i64 k2) ∧ wx.cell? ⟨b, o + i * 8 + 2 + 1, none⟩ = some (.string s2) ∧ wx.cell? ⟨b, o + i * 8 + 2 + 2, none⟩ = some (.int .i64 n2) ∧ wx.cell? ⟨b, o + i * 8 + 2 + 3, none⟩ = some (.slice Aq ps2.length cq) ∧ wx.cell? ⟨b, o + i * 8 + 2 + 4, none⟩ = some (.slice Ag fs2.length cg) ∧ wx.cell? ⟨b, o + i * 8 + 2 + 5, none⟩ = some (.slice Ah vs2.length ch)) := Hd fun wx hx =>
    ⟨cell_stays hx hc0, cell_stays hx hc1, cell_stays hx (hcs 0 _ rfl), cell_stays hx (hcs 1 _ rfl), cell_stays hx (hcs 2 _ rfl), cell_stays hx (hcs 3 _ rfl), cell_stays hx (hcs 4 _ rfl), cell_stays hx (hcs 5 _ rfl)⟩
   have KN := Hd fun wx => name_ref nm wx hsz
   have HIn : Hid (i + 1 ≤ l.length) := Hd hin
   have HCC : Hid (∀ wx, Below wr.heap.size wr wx → wx.cell? ⟨b, o + i * 8, none⟩ = some (.string nm) ∧ wx.cell? ⟨b, o + i * 8 + 1, none⟩ = some (.int .i64 fl) ∧ wx.cell? ⟨b, o + i * 8 + 2, none⟩ = some (.int .i64 k2) ∧ wx.cell? ⟨b, o + i * 8 + 2 + 1, none⟩ = some (.string s2) ∧ wx.cell? ⟨b, o + i * 8 + 2 + 2, none⟩ = some (.int .i64 n2) ∧ wx.cell? ⟨b, o + i * 8 + 2 + 3, none⟩ = some (.slice Aq ps2.length cq) ∧ wx.cell? ⟨b, o + i * 8 + 2 + 4, none⟩ = some (.slice Ag fs2.length cg) ∧ wx.cell? ⟨b, o + i * 8 + 2 + 5, none⟩ = some (.slice Ah vs2.length ch)) := Hd fun wx hx => HX.out wx (HB.out.trans (hx.mono HB.out.size))
   have hbr := HB.out
   clear hi hat hc0 hc1 hcs hrep hsz
   generalize formT (.mk k2 s2 n2 ps2 fs2 vs2) = qf at HOK KForm
   cases hn : nameT nm with
   | false =>
    have HF := Hd (HNO.out (by rw [HOK.out, hn]; simp))
    rw [hn] at KN
    clear hn hbr KForm HX HCell HOK
    go_wp2_with fail
    refine wp_region_held_drew (S := (fun w' => w'.cell? ⟨b, o + i * 8, none⟩ = some (.string nm) ∧ w'.cell? ⟨b, o + i * 8 + 1, none⟩ = some (.int .i64 fl) ∧ w'.cell? ⟨b, o + i * 8 + 2, none⟩ = some (.int .i64 k2) ∧ w'.cell? ⟨b, o + i * 8 + 2 + 1, none⟩ = some (.string s2) ∧ w'.cell? ⟨b, o + i * 8 + 2 + 2, none⟩ = some (.int .i64 n2) ∧ w'.cell? ⟨b, o + i * 8 + 2 + 3, none⟩ = some (.slice Aq ps2.length cq) ∧ w'.cell? ⟨b, o + i * 8 + 2 + 4, none⟩ = some (.slice Ag fs2.length cg) ∧ w'.cell? ⟨b, o + i * 8 + 2 + 5, none⟩ = some (.slice Ah vs2.length ch))) (by kernel_rfl) (HCC.out _ (Below.refl _ _).drew) (fun hHeld => ?_)
    refine Plan.start [0, 1, 2, 3, 4] ?_
    iterate 5 (refine Plan.tk (so rfl) hHeld ?_; try simp only [Act.put, pz1, pz2, pz3])
    refine Plan.done ?_
    refine wpAnyH_ready (rs := [5]) (by kernel_rfl) (by simp) ?_
    refine AllReadyH.cons (sd (some 15) rfl) (fun K hK => ?_) AllReadyH.nil
    go_simp
    refine (KN.out _).mono ?_
    rintro e w2 ⟨rfl, hb2⟩
    have HB2 := Hd ((Below.refl wr.heap.size wr).drew.trans hb2)
    clear hb2
    go_wp2_with fail
    refine hK.out _ _ (HCC.out _ HB2.out) (fun hHeld => ?_)
    clear hK K
    try simp only [Act.put, pz1, pz2, pz3]
    refine Plan.start [6, 7] ?_
    iterate 2 (refine Plan.tk (so rfl) hHeld ?_; try simp only [Act.put, pz1, pz2, pz3])
    refine Plan.done ?_
    refine Plan.start [8, 9, 10, 11, 12, 13] ?_
    iterate 6 (refine Plan.take (v := undef) (so rfl) (by kernel_rfl) (by kernel_rfl) (by kernel_rfl) (fun _ _ _ h => h) (Or.inr ⟨by rfl, rfl⟩) hHeld ?_; try simp only [Act.put, pz1, pz2, pz3])
    refine Plan.done ?_
    refine Plan.start [14, 15] ?_
    iterate 2 (refine Plan.tk (so rfl) hHeld ?_; try simp only [Act.put, pz1, pz2, pz3])
    refine Plan.done ?_
    refine Plan.start [16, 17, 18, 19, 20, 21] ?_
    iterate 6 (refine Plan.take (v := undef) (so rfl) (by kernel_rfl) (by kernel_rfl) (by kernel_rfl) (fun _ _ _ h => h) (Or.inr ⟨by rfl, rfl⟩) hHeld ?_; try simp only [Act.put, pz1, pz2, pz3])
    refine Plan.done ?_
    refine Plan.start [22, 23] ?_
    iterate 2 (refine Plan.tk (so rfl) hHeld ?_; try simp only [Act.put, pz1, pz2, pz3])
    refine Plan.done ?_
    refine Plan.start [24, 25, 26, 27, 28, 29, 30] ?_
    iterate 7 (refine Plan.take (v := undef) (so rfl) (by kernel_rfl) (by kernel_rfl) (by kernel_rfl) (fun _ _ _ h => h) (Or.inr ⟨by rfl, rfl⟩) hHeld ?_; try simp only [Act.put, pz1, pz2, pz3])
    refine Plan.done ?_
    refine Plan.start [31, 32] ?_
    iterate 2 (refine Plan.tk (so rfl) hHeld ?_; try simp only [Act.put, pz1, pz2, pz3])
    refine Plan.done ?_
    refine Plan.start [33, 34, 35, 36, 37, 38, 39, 40, 41, 42, 43, 44, 45, 46, 47, 48] ?_
    iterate 16 (refine Plan.take (v := undef) (so rfl) (by kernel_rfl) (by kernel_rfl) (by kernel_rfl) (fun _ _ _ h => h) (Or.inr ⟨by rfl, rfl⟩) hHeld ?_; try simp only [Act.put, pz1, pz2, pz3])
    refine Plan.done ?_
    refine Plan.start [49] ?_
    refine Plan.tk (so rfl) hHeld ?_
    try simp only [Act.put, pz1, pz2, pz3]
    refine Plan.done ?_
    refine wpAnyH_done (by kernel_rfl) ?_ _
    clear hHeld
    go_wp2_with fail
    go_ret
    exact ⟨by rw [HF.out]; rfl, HB.out.trans (HB2.out.mono HB.out.size)⟩
   | true =>
    rw [hn] at KN
    by_cases hf0 : fl < 0
    ·have f0 : decide (fl < 0) = true := decide_eq_true hf0
     have HF := Hd (HNO.out (by rw [HOK.out, hn, decide_eq_false (show ¬ 0 ≤ fl by omega)]; simp))
     clear hn hbr KForm HX HCell HOK
     go_wp2_with fail
     refine wp_region_held_drew (S := (fun w' => w'.cell? ⟨b, o + i * 8, none⟩ = some (.string nm) ∧ w'.cell? ⟨b, o + i * 8 + 1, none⟩ = some (.int .i64 fl) ∧ w'.cell? ⟨b, o + i * 8 + 2, none⟩ = some (.int .i64 k2) ∧ w'.cell? ⟨b, o + i * 8 + 2 + 1, none⟩ = some (.string s2) ∧ w'.cell? ⟨b, o + i * 8 + 2 + 2, none⟩ = some (.int .i64 n2) ∧ w'.cell? ⟨b, o + i * 8 + 2 + 3, none⟩ = some (.slice Aq ps2.length cq) ∧ w'.cell? ⟨b, o + i * 8 + 2 + 4, none⟩ = some (.slice Ag fs2.length cg) ∧ w'.cell? ⟨b, o + i * 8 + 2 + 5, none⟩ = some (.slice Ah vs2.length ch))) (by kernel_rfl) (HCC.out _ (Below.refl _ _).drew) (fun hHeld => ?_)
     refine Plan.start [0, 1, 2, 3, 4] ?_
     iterate 5 (refine Plan.tk (so rfl) hHeld ?_; try simp only [Act.put, pz1, pz2, pz3])
     refine Plan.done ?_
     refine wpAnyH_ready (rs := [5]) (by kernel_rfl) (by simp) ?_
     refine AllReadyH.cons (sd (some 15) rfl) (fun K hK => ?_) AllReadyH.nil
     go_simp
     refine (KN.out _).mono ?_
     rintro e w2 ⟨rfl, hb2⟩
     have HB2 := Hd ((Below.refl wr.heap.size wr).drew.trans hb2)
     clear hb2
     go_wp2_with fail
     refine hK.out _ _ (HCC.out _ HB2.out) (fun hHeld => ?_)
     clear hK K
     try simp only [Act.put, pz1, pz2, pz3]
     refine Plan.start [6, 7, 8, 9, 10, 11, 12, 13, 14, 15] ?_
     iterate 10 (refine Plan.tk (so rfl) hHeld ?_; try simp only [Act.put, pz1, pz2, pz3])
     refine Plan.done ?_
     refine Plan.start [16, 17, 18, 19, 20, 21] ?_
     iterate 6 (refine Plan.take (v := undef) (so rfl) (by kernel_rfl) (by kernel_rfl) (by kernel_rfl) (fun _ _ _ h => h) (Or.inr ⟨by rfl, rfl⟩) hHeld ?_; try simp only [Act.put, pz1, pz2, pz3])
     refine Plan.done ?_
     refine Plan.start [22, 23] ?_
     iterate 2 (refine Plan.tk (so rfl) hHeld ?_; try simp only [Act.put, pz1, pz2, pz3])
     refine Plan.done ?_
     refine Plan.start [24, 25, 26, 27, 28, 29, 30] ?_
     iterate 7 (refine Plan.take (v := undef) (so rfl) (by kernel_rfl) (by kernel_rfl) (by kernel_rfl) (fun _ _ _ h => h) (Or.inr ⟨by rfl, rfl⟩) hHeld ?_; try simp only [Act.put, pz1, pz2, pz3])
     refine Plan.done ?_
     refine Plan.start [31, 32] ?_
     iterate 2 (refine Plan.tk (so rfl) hHeld ?_; try simp only [Act.put, pz1, pz2, pz3])
     refine Plan.done ?_
     refine Plan.start [33, 34, 35, 36, 37, 38, 39, 40, 41, 42, 43, 44, 45, 46, 47, 48] ?_
     iterate 16 (refine Plan.take (v := undef) (so rfl) (by kernel_rfl) (by kernel_rfl) (by kernel_rfl) (fun _ _ _ h => h) (Or.inr ⟨by rfl, rfl⟩) hHeld ?_; try simp only [Act.put, pz1, pz2, pz3])
     refine Plan.done ?_
     refine Plan.start [49] ?_
     refine Plan.tk (so rfl) hHeld ?_
     try simp only [Act.put, pz1, pz2, pz3]
     refine Plan.done ?_
     refine wpAnyH_done (by kernel_rfl) ?_ _
     clear hHeld
     go_wp2_with fail
     go_ret
     exact ⟨by rw [HF.out]; rfl, HB.out.trans (HB2.out.mono HB.out.size)⟩
    ·have f0 : decide (fl < 0) = false := decide_eq_false hf0
     by_cases hf3 : 3 < fl
     ·have f3 : decide ((3 : Int) < fl) = true := decide_eq_true hf3
      have HF := Hd (HNO.out (by rw [HOK.out, hn, decide_eq_false (show ¬ fl ≤ 3 by omega)]; simp))
      clear hn hbr KForm HX HCell HOK
      go_wp2_with fail
      refine wp_region_held_drew (S := (fun w' => w'.cell? ⟨b, o + i * 8, none⟩ = some (.string nm) ∧ w'.cell? ⟨b, o + i * 8 + 1, none⟩ = some (.int .i64 fl) ∧ w'.cell? ⟨b, o + i * 8 + 2, none⟩ = some (.int .i64 k2) ∧ w'.cell? ⟨b, o + i * 8 + 2 + 1, none⟩ = some (.string s2) ∧ w'.cell? ⟨b, o + i * 8 + 2 + 2, none⟩ = some (.int .i64 n2) ∧ w'.cell? ⟨b, o + i * 8 + 2 + 3, none⟩ = some (.slice Aq ps2.length cq) ∧ w'.cell? ⟨b, o + i * 8 + 2 + 4, none⟩ = some (.slice Ag fs2.length cg) ∧ w'.cell? ⟨b, o + i * 8 + 2 + 5, none⟩ = some (.slice Ah vs2.length ch))) (by kernel_rfl) (HCC.out _ (Below.refl _ _).drew) (fun hHeld => ?_)
      refine Plan.start [0, 1, 2, 3, 4] ?_
      iterate 5 (refine Plan.tk (so rfl) hHeld ?_; try simp only [Act.put, pz1, pz2, pz3])
      refine Plan.done ?_
      refine wpAnyH_ready (rs := [5]) (by kernel_rfl) (by simp) ?_
      refine AllReadyH.cons (sd (some 15) rfl) (fun K hK => ?_) AllReadyH.nil
      go_simp
      refine (KN.out _).mono ?_
      rintro e w2 ⟨rfl, hb2⟩
      have HB2 := Hd ((Below.refl wr.heap.size wr).drew.trans hb2)
      clear hb2
      go_wp2_with fail
      refine hK.out _ _ (HCC.out _ HB2.out) (fun hHeld => ?_)
      clear hK K
      try simp only [Act.put, pz1, pz2, pz3]
      refine Plan.start [6, 7, 8, 9, 10, 11, 12, 13, 14, 15, 16, 17, 18, 19, 20, 21, 22, 23] ?_
      iterate 18 (refine Plan.tk (so rfl) hHeld ?_; try simp only [Act.put, pz1, pz2, pz3])
      refine Plan.done ?_
      refine Plan.start [24, 25, 26, 27, 28, 29, 30] ?_
      iterate 7 (refine Plan.take (v := undef) (so rfl) (by kernel_rfl) (by kernel_rfl) (by kernel_rfl) (fun _ _ _ h => h) (Or.inr ⟨by rfl, rfl⟩) hHeld ?_; try simp only [Act.put, pz1, pz2, pz3])
      refine Plan.done ?_
      refine Plan.start [31, 32] ?_
      iterate 2 (refine Plan.tk (so rfl) hHeld ?_; try simp only [Act.put, pz1, pz2, pz3])
      refine Plan.done ?_
      refine Plan.start [33, 34, 35, 36, 37, 38, 39, 40, 41, 42, 43, 44, 45, 46, 47, 48] ?_
      iterate 16 (refine Plan.take (v := undef) (so rfl) (by kernel_rfl) (by kernel_rfl) (by kernel_rfl) (fun _ _ _ h => h) (Or.inr ⟨by rfl, rfl⟩) hHeld ?_; try simp only [Act.put, pz1, pz2, pz3])
      refine Plan.done ?_
      refine Plan.start [49] ?_
      refine Plan.tk (so rfl) hHeld ?_
      try simp only [Act.put, pz1, pz2, pz3]
      refine Plan.done ?_
      refine wpAnyH_done (by kernel_rfl) ?_ _
      clear hHeld
      go_wp2_with fail
      go_ret
      exact ⟨by rw [HF.out]; rfl, HB.out.trans (HB2.out.mono HB.out.size)⟩
     ·have f3 : decide ((3 : Int) < fl) = false := decide_eq_false hf3
      have HFl : Hid (nameT nm = true ∧ decide (0 ≤ fl) = true ∧ decide (fl ≤ 3) = true) := Hd ⟨hn, decide_eq_true (by omega), decide_eq_true (by omega)⟩
      clear hf0 hf3 hn
      cases qf with
      | false =>
       have HF := Hd (HNO.out (by rw [HOK.out]; simp))
       clear hbr HX HCell HOK
       go_wp2_with fail
       refine wp_region_held_drew (S := (fun w' => w'.cell? ⟨b, o + i * 8, none⟩ = some (.string nm) ∧ w'.cell? ⟨b, o + i * 8 + 1, none⟩ = some (.int .i64 fl) ∧ w'.cell? ⟨b, o + i * 8 + 2, none⟩ = some (.int .i64 k2) ∧ w'.cell? ⟨b, o + i * 8 + 2 + 1, none⟩ = some (.string s2) ∧ w'.cell? ⟨b, o + i * 8 + 2 + 2, none⟩ = some (.int .i64 n2) ∧ w'.cell? ⟨b, o + i * 8 + 2 + 3, none⟩ = some (.slice Aq ps2.length cq) ∧ w'.cell? ⟨b, o + i * 8 + 2 + 4, none⟩ = some (.slice Ag fs2.length cg) ∧ w'.cell? ⟨b, o + i * 8 + 2 + 5, none⟩ = some (.slice Ah vs2.length ch))) (by kernel_rfl) (HCC.out _ (Below.refl _ _).drew) (fun hHeld => ?_)
       refine Plan.start [0, 1, 2, 3, 4] ?_
       iterate 5 (refine Plan.tk (so rfl) hHeld ?_; try simp only [Act.put, pz1, pz2, pz3])
       refine Plan.done ?_
       refine wpAnyH_ready (rs := [5]) (by kernel_rfl) (by simp) ?_
       refine AllReadyH.cons (sd (some 15) rfl) (fun K hK => ?_) AllReadyH.nil
       go_simp
       refine (KN.out _).mono ?_
       rintro e w2 ⟨rfl, hb2⟩
       have HB2 := Hd ((Below.refl wr.heap.size wr).drew.trans hb2)
       clear hb2
       go_wp2_with fail
       refine hK.out _ _ (HCC.out _ HB2.out) (fun hHeld => ?_)
       clear hK K
       try simp only [Act.put, pz1, pz2, pz3]
       refine Plan.start [6, 7, 8, 9, 10, 11, 12, 13, 14, 15, 16, 17, 18, 19, 20, 21, 22, 23, 24, 25, 26, 27, 28] ?_
       iterate 23 (refine Plan.tk (so rfl) hHeld ?_; try simp only [Act.put, pz1, pz2, pz3])
       refine Plan.done ?_
       refine wpAnyH_ready (rs := [29]) (by kernel_rfl) (by simp) ?_
       refine AllReadyH.cons (sd (some 39) rfl) (fun K hK => ?_) AllReadyH.nil
       go_simp
       refine (KForm.out _ (HB.out.trans (HB2.out.mono HB.out.size))).mono ?_
       rintro e w3 ⟨rfl, hb3⟩
       have HB3 := Hd (HB2.out.trans (hb3.mono HB2.out.size))
       clear hb3
       go_wp2_with fail
       refine hK.out _ _ (HCC.out _ HB3.out) (fun hHeld => ?_)
       clear hK K
       try simp only [Act.put, pz1, pz2, pz3]
       refine Plan.start [30, 31, 32] ?_
       iterate 3 (refine Plan.tk (so rfl) hHeld ?_; try simp only [Act.put, pz1, pz2, pz3])
       refine Plan.done ?_
       refine Plan.start [33, 34, 35, 36, 37, 38, 39, 40, 41, 42, 43, 44, 45, 46, 47, 48] ?_
       iterate 16 (refine Plan.take (v := undef) (so rfl) (by kernel_rfl) (by kernel_rfl) (by kernel_rfl) (fun _ _ _ h => h) (Or.inr ⟨by rfl, rfl⟩) hHeld ?_; try simp only [Act.put, pz1, pz2, pz3])
       refine Plan.done ?_
       refine Plan.start [49] ?_
       refine Plan.tk (so rfl) hHeld ?_
       try simp only [Act.put, pz1, pz2, pz3]
       refine Plan.done ?_
       refine wpAnyH_done (by kernel_rfl) ?_ _
       clear hHeld
       go_wp2_with fail
       go_ret
       exact ⟨by rw [HF.out]; rfl, HB.out.trans (HB3.out.mono HB.out.size)⟩
      | true =>
       rcases Nat.eq_zero_or_pos i with h0 | hpos
       ·subst h0
        have HOK2 : Hid (∀ j, j < 0 + 1 → okF (fieldsT l formT) j = true) := Hd fun j hj => by
         have : j = 0 := by omega
         subst this
         rw [HOK.out, HFl.out.1, HFl.out.2.1, HFl.out.2.2]; rfl
        simp only [Nat.zero_mul, Nat.add_zero] at HCC KForm
        clear hbr HX HCell HOK
        go_wp2_with fail
        refine wp_region_held_drew (S := (fun w' => w'.cell? ⟨b, o, none⟩ = some (.string nm) ∧ w'.cell? ⟨b, o + 1, none⟩ = some (.int .i64 fl) ∧ w'.cell? ⟨b, o + 2, none⟩ = some (.int .i64 k2) ∧ w'.cell? ⟨b, o + 2 + 1, none⟩ = some (.string s2) ∧ w'.cell? ⟨b, o + 2 + 2, none⟩ = some (.int .i64 n2) ∧ w'.cell? ⟨b, o + 2 + 3, none⟩ = some (.slice Aq ps2.length cq) ∧ w'.cell? ⟨b, o + 2 + 4, none⟩ = some (.slice Ag fs2.length cg) ∧ w'.cell? ⟨b, o + 2 + 5, none⟩ = some (.slice Ah vs2.length ch))) (by kernel_rfl) (HCC.out _ (Below.refl _ _).drew) (fun hHeld => ?_)
        refine Plan.start [0, 1, 2, 3, 4] ?_
        iterate 5 (refine Plan.tk (so rfl) hHeld ?_; try simp only [Act.put, pz1, pz2, pz3])
        refine Plan.done ?_
        refine wpAnyH_ready (rs := [5]) (by kernel_rfl) (by simp) ?_
        refine AllReadyH.cons (sd (some 15) rfl) (fun K hK => ?_) AllReadyH.nil
        go_simp
        refine (KN.out _).mono ?_
        rintro e w2 ⟨rfl, hb2⟩
        have HB2 := Hd ((Below.refl wr.heap.size wr).drew.trans hb2)
        clear hb2
        go_wp2_with fail
        refine hK.out _ _ (HCC.out _ HB2.out) (fun hHeld => ?_)
        clear hK K
        try simp only [Act.put, pz1, pz2, pz3]
        refine Plan.start [6, 7, 8, 9, 10, 11, 12, 13, 14, 15, 16, 17, 18, 19, 20, 21, 22, 23, 24, 25, 26, 27, 28] ?_
        iterate 23 (refine Plan.tk (so rfl) hHeld ?_; try simp only [Act.put, pz1, pz2, pz3])
        refine Plan.done ?_
        refine wpAnyH_ready (rs := [29]) (by kernel_rfl) (by simp) ?_
        refine AllReadyH.cons (sd (some 39) rfl) (fun K hK => ?_) AllReadyH.nil
        go_simp
        refine (KForm.out _ (HB.out.trans (HB2.out.mono HB.out.size))).mono ?_
        rintro e w3 ⟨rfl, hb3⟩
        have HB3 := Hd (HB2.out.trans (hb3.mono HB2.out.size))
        clear hb3
        go_wp2_with fail
        refine hK.out _ _ (HCC.out _ HB3.out) (fun hHeld => ?_)
        clear hK K
        try simp only [Act.put, pz1, pz2, pz3]
        refine Plan.start [30, 31, 32, 33, 34, 35] ?_
        iterate 6 (refine Plan.tk (so rfl) hHeld ?_; try simp only [Act.put, pz1, pz2, pz3])
        refine Plan.done ?_
        refine Plan.start [36, 37, 38, 39, 40, 41, 42, 43, 44, 45, 46, 47] ?_
        iterate 12 (refine Plan.take (v := undef) (so rfl) (by kernel_rfl) (by kernel_rfl) (by kernel_rfl) (fun _ _ _ h => h) (Or.inr ⟨by rfl, rfl⟩) hHeld ?_; try simp only [Act.put, pz1, pz2, pz3])
        refine Plan.done ?_
        refine Plan.start [48, 49] ?_
        iterate 2 (refine Plan.tk (so rfl) hHeld ?_; try simp only [Act.put, pz1, pz2, pz3])
        refine Plan.done ?_
        refine wpAnyH_done (by kernel_rfl) ?_ _
        clear hHeld
        go_wp2_with fail
        refine ⟨⟨0 + 1, HIn.out, by first | rfl | rw [wr2], HOK2.out, HB.out.trans (HB3.out.mono HB.out.size)⟩, ?_⟩
        first | exact HM.out | (rw [wr2]; exact HM.out)
       ·obtain ⟨m, hm⟩ : ∃ m, i = m + 1 := ⟨i - 1, by omega⟩
        obtain ⟨q, hq, hcq0⟩ := HCell.out m (by omega)
        have hcq := cell_stays hbr hcq0
        have HCD : Hid (∀ wx, Below wr.heap.size wr wx → wx.cell? ⟨b, o + m * 8, none⟩ = some (.string q)) := Hd fun wx hx => cell_stays hx hcq
        have wr1 : wrap64 ((i : Int) - 1) = ((m : Nat) : Int) := by rw [wrap_in (by omega) (by omega)]; omega
        have wr1' : IntKind.i64.wrap ((i : Int) - 1) = ((m : Nat) : Int) := by
         have e : IntKind.i64.wrap ((i : Int) - 1) = wrap64 ((i : Int) - 1) := by unfold wrap64; exact IntKind.wrap_i64 _
         rw [e, wr1]
        have wr3 : wrap64 (m : Int) = (m : Int) := wrap_in (by omega) (by omega)
        have wr3' : IntKind.i64.wrap (m : Int) = (m : Int) := by
         have e : IntKind.i64.wrap (m : Int) = wrap64 (m : Int) := by unfold wrap64; exact IntKind.wrap_i64 _
         rw [e, wr3]
        have i2 : (0 : Int) ≤ (m : Int) := by omega
        have i3 : (m : Int) < (l.length : Int) := by omega
        have i5 : m < l.length := by omega
        have i4 : (0 : Int) < (i : Int) := by omega
        have i6 : decide ((0 : Int) < (i : Int)) = true := decide_eq_true i4
        have i7 : decide (0 < i) = true := decide_eq_true hpos
        have HLess : Hid (lastOk l i nm = Go.Op.bytesLess q.toList nm.toList) := Hd (by
         subst hm
         simp only [lastOk, List.getElem?_eq_getElem (show m < l.length by omega)]
         rw [hq])
        cases hbl : Go.Op.bytesLess q.toList nm.toList with
        | true =>
         have HOK2 : Hid (∀ j, j < i + 1 → okF (fieldsT l formT) j = true) := Hd fun j hj => by
          rcases Nat.lt_or_ge j i with h1 | h1
          ·exact HE.out j h1
          ·have : j = i := by omega
           subst this
           rw [HOK.out, HFl.out.1, HFl.out.2.1, HFl.out.2.2, HLess.out, hbl]; rfl
         clear hbr HX HCell HOK hq hcq0 hcq hm
         go_wp2_with fail
         refine wp_region_held_drew (S := (fun w' => (w'.cell? ⟨b, o + i * 8, none⟩ = some (.string nm) ∧ w'.cell? ⟨b, o + i * 8 + 1, none⟩ = some (.int .i64 fl) ∧ w'.cell? ⟨b, o + i * 8 + 2, none⟩ = some (.int .i64 k2) ∧ w'.cell? ⟨b, o + i * 8 + 2 + 1, none⟩ = some (.string s2) ∧ w'.cell? ⟨b, o + i * 8 + 2 + 2, none⟩ = some (.int .i64 n2) ∧ w'.cell? ⟨b, o + i * 8 + 2 + 3, none⟩ = some (.slice Aq ps2.length cq) ∧ w'.cell? ⟨b, o + i * 8 + 2 + 4, none⟩ = some (.slice Ag fs2.length cg) ∧ w'.cell? ⟨b, o + i * 8 + 2 + 5, none⟩ = some (.slice Ah vs2.length ch)) ∧ w'.cell? ⟨b, o + m * 8, none⟩ = some (.string q))) (by kernel_rfl) (⟨HCC.out _ (Below.refl _ _).drew, HCD.out _ (Below.refl _ _).drew⟩) (fun hHeld => ?_)
         refine Plan.start [0, 1, 2, 3, 4] ?_
         iterate 5 (refine Plan.tk (so rfl) hHeld ?_; try simp only [Act.put, pz1, pz2, pz3])
         refine Plan.done ?_
         refine wpAnyH_ready (rs := [5]) (by kernel_rfl) (by simp) ?_
         refine AllReadyH.cons (sd (some 15) rfl) (fun K hK => ?_) AllReadyH.nil
         go_simp
         refine (KN.out _).mono ?_
         rintro e w2 ⟨rfl, hb2⟩
         have HB2 := Hd ((Below.refl wr.heap.size wr).drew.trans hb2)
         clear hb2
         go_wp2_with fail
         refine hK.out _ _ (⟨HCC.out _ HB2.out, HCD.out _ HB2.out⟩) (fun hHeld => ?_)
         clear hK K
         try simp only [Act.put, pz1, pz2, pz3]
         refine Plan.start [6, 7, 8, 9, 10, 11, 12, 13, 14, 15, 16, 17, 18, 19, 20, 21, 22, 23, 24, 25, 26, 27, 28] ?_
         iterate 23 (refine Plan.tk (so rfl) hHeld ?_; try simp only [Act.put, pz1, pz2, pz3])
         refine Plan.done ?_
         refine wpAnyH_ready (rs := [29]) (by kernel_rfl) (by simp) ?_
         refine AllReadyH.cons (sd (some 39) rfl) (fun K hK => ?_) AllReadyH.nil
         go_simp
         refine (KForm.out _ (HB.out.trans (HB2.out.mono HB.out.size))).mono ?_
         rintro e w3 ⟨rfl, hb3⟩
         have HB3 := Hd (HB2.out.trans (hb3.mono HB2.out.size))
         clear hb3
         go_wp2_with fail
         refine hK.out _ _ (⟨HCC.out _ HB3.out, HCD.out _ HB3.out⟩) (fun hHeld => ?_)
         clear hK K
         try simp only [Act.put, pz1, pz2, pz3]
         refine Plan.start [30, 31, 32, 33, 34, 35, 36, 37, 38, 39, 40, 41, 42, 43, 44, 45, 46, 47, 48, 49] ?_
         iterate 20 (refine Plan.tk (so rfl) hHeld ?_; try simp only [Act.put, pz1, pz2, pz3])
         refine Plan.done ?_
         refine wpAnyH_done (by kernel_rfl) ?_ _
         clear hHeld
         go_wp2_with fail
         refine ⟨⟨i + 1, HIn.out, by first | rfl | rw [wr2], HOK2.out, HB.out.trans (HB3.out.mono HB.out.size)⟩, ?_⟩
         first | exact HM.out | (rw [wr2]; exact HM.out)
        | false =>
         have HF := Hd (HNO.out (by rw [HOK.out, HLess.out, hbl]; simp))
         clear hbr HX HCell HOK hq hcq0 hcq hm
         go_wp2_with fail
         refine wp_region_held_drew (S := (fun w' => (w'.cell? ⟨b, o + i * 8, none⟩ = some (.string nm) ∧ w'.cell? ⟨b, o + i * 8 + 1, none⟩ = some (.int .i64 fl) ∧ w'.cell? ⟨b, o + i * 8 + 2, none⟩ = some (.int .i64 k2) ∧ w'.cell? ⟨b, o + i * 8 + 2 + 1, none⟩ = some (.string s2) ∧ w'.cell? ⟨b, o + i * 8 + 2 + 2, none⟩ = some (.int .i64 n2) ∧ w'.cell? ⟨b, o + i * 8 + 2 + 3, none⟩ = some (.slice Aq ps2.length cq) ∧ w'.cell? ⟨b, o + i * 8 + 2 + 4, none⟩ = some (.slice Ag fs2.length cg) ∧ w'.cell? ⟨b, o + i * 8 + 2 + 5, none⟩ = some (.slice Ah vs2.length ch)) ∧ w'.cell? ⟨b, o + m * 8, none⟩ = some (.string q))) (by kernel_rfl) (⟨HCC.out _ (Below.refl _ _).drew, HCD.out _ (Below.refl _ _).drew⟩) (fun hHeld => ?_)
         refine Plan.start [0, 1, 2, 3, 4] ?_
         iterate 5 (refine Plan.tk (so rfl) hHeld ?_; try simp only [Act.put, pz1, pz2, pz3])
         refine Plan.done ?_
         refine wpAnyH_ready (rs := [5]) (by kernel_rfl) (by simp) ?_
         refine AllReadyH.cons (sd (some 15) rfl) (fun K hK => ?_) AllReadyH.nil
         go_simp
         refine (KN.out _).mono ?_
         rintro e w2 ⟨rfl, hb2⟩
         have HB2 := Hd ((Below.refl wr.heap.size wr).drew.trans hb2)
         clear hb2
         go_wp2_with fail
         refine hK.out _ _ (⟨HCC.out _ HB2.out, HCD.out _ HB2.out⟩) (fun hHeld => ?_)
         clear hK K
         try simp only [Act.put, pz1, pz2, pz3]
         refine Plan.start [6, 7, 8, 9, 10, 11, 12, 13, 14, 15, 16, 17, 18, 19, 20, 21, 22, 23, 24, 25, 26, 27, 28] ?_
         iterate 23 (refine Plan.tk (so rfl) hHeld ?_; try simp only [Act.put, pz1, pz2, pz3])
         refine Plan.done ?_
         refine wpAnyH_ready (rs := [29]) (by kernel_rfl) (by simp) ?_
         refine AllReadyH.cons (sd (some 39) rfl) (fun K hK => ?_) AllReadyH.nil
         go_simp
         refine (KForm.out _ (HB.out.trans (HB2.out.mono HB.out.size))).mono ?_
         rintro e w3 ⟨rfl, hb3⟩
         have HB3 := Hd (HB2.out.trans (hb3.mono HB2.out.size))
         clear hb3
         go_wp2_with fail
         refine hK.out _ _ (⟨HCC.out _ HB3.out, HCD.out _ HB3.out⟩) (fun hHeld => ?_)
         clear hK K
         try simp only [Act.put, pz1, pz2, pz3]
         refine Plan.start [30, 31, 32, 33, 34, 35, 36, 37, 38, 39, 40, 41, 42, 43, 44, 45, 46, 47, 48, 49] ?_
         iterate 20 (refine Plan.tk (so rfl) hHeld ?_; try simp only [Act.put, pz1, pz2, pz3])
         refine Plan.done ?_
         refine wpAnyH_done (by kernel_rfl) ?_ _
         clear hHeld
         go_wp2_with fail
         go_ret
         exact ⟨by rw [HF.out]; rfl, HB.out.trans (HB3.out.mono HB.out.size)⟩
  ·have t1 : decide ((i : Int) < (l.length : Int)) = false := by simp; omega
   have HT1 : Hid (fieldsB (fieldsT l formT) = true) := Hd (by unfold fieldsB; rw [range_all]; exact fun j hj => HE.out j (by rw [fieldsT_len] at hj; omega))
   clear hi
   go_wp2_with fail
   go_ret
   exact ⟨by rw [HT1.out]; rfl, HB.out⟩
end Go.Proofs.YteakkjhcdpbidaaGreatDoor
