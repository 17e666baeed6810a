import Derived.Test.YtgjblmlibhppiaaGreatDoorMy17
namespace Go.Proofs.YtgjblmlibhppiaaGreatDoor
set_option maxRecDepth 100000
set_option maxHeartbeats 64000000
open Go.RowKit
theorem cntF_mem : ∀ {l : FsT} {v : ByteArray × Int × Ty}, v ∈ l → cntT v.2.2 ≤ cntF l
 | a :: l, v, h => by
  have e : cntF (a :: l) = cntT a.2.2 + cntF l := by simp [cntF]
  rw [e]
  rcases List.mem_cons.1 h with rfl | h
  ·omega
  ·have := cntF_mem h; omega
def lastOk (l : FsT) (i : Nat) (nm : ByteArray) : Bool := match i with | 0 => true | j + 1 => match l[j]? with | none => true | some p => Go.Op.bytesLess p.1.toList nm.toList
theorem object_ref (l : FsT) (h : ∀ f ∈ l, FormR f.2.2) {K : Nat → Prop} {w : World} {A : Option Addr} {c : Nat} (hL : ListF K w l A c) (hc : cntF l ≤ 1000000) :
  Calls Tryz.prog 48 #[.slice A l.length c] w fun e w' => e = .returned (.bool (fieldsB (fieldsT l formT))) ∧ Below w.heap.size w w' := by
 have HL := Hd hL
 have HH := Hd h
 have HC := Hd hc
 have hll := hL.shortF
 clear hL h hc
 go_enter Tryz.func48, Tryz.ntmps48
 go_wp2_with fail
 go_loopw [3] (fun v wr => ∃ (i : Nat), i ≤ l.length ∧ v = .int .i64 i ∧ (∀ j, j < i → okF (fieldsT l formT) j = true) ∧ Below w.heap.size w wr) (fun v _ => l.length - (intOf v).toNat)
 case atStart => exact ⟨0, by omega, rfl, fun j hj => absurd hj (by omega), Below.refl _ _⟩
 case round =>
  obtain ⟨i, hi, rfl, he, hb⟩ := hrel
  have HE := Hd he
  have HB := Hd hb
  clear he hb
  by_cases hin : i < l.length
  ·have t1 : decide ((i : Int) < (l.length : Int)) = true := by simp; omega
   have wr2 : wrap64 ((i : Int) + 1) = ((i + 1 : Nat) : Int) := wrap_one (by omega)
   have HM := Hd (measI hin)
   obtain ⟨b, o, hA, _, hat⟩ := HL.out.at (by omega)
   obtain ⟨hc0, hc1, hsz, cs, hcs, hrep⟩ := hat i hin
   have HNO : Hid (okF (fieldsT l formT) i = false → fieldsB (fieldsT l formT) = false) := Hd fun e => by unfold fieldsB; exact allB_no (by rw [fieldsT_len]; exact hin) e
   have HCell : Hid (∀ k (h : k < l.length), ∃ q, q = l[k].1 ∧ w.cell? ⟨b, o + k * 8, none⟩ = some (.string q)) := Hd fun k h => ⟨_, rfl, (hat k h).1⟩
   have HOK : Hid (okF (fieldsT l formT) i = (nameT l[i].1 && decide (0 ≤ l[i].2.1) && decide (l[i].2.1 ≤ 3) && formT l[i].2.2 && lastOk l i l[i].1)) := Hd (by
    clear hc0 hc1 hsz hcs hrep HNO HCell
    rcases i with _ | j
    ·rw [okF_zero hin]; simp [lastOk]
    ·rw [okF_succ hin]; simp only [lastOk, List.getElem?_eq_getElem (show j < l.length by omega)])
   have KForm := Hd fun wx (hx : Below w.heap.size w wx) => HH.out _ (List.getElem_mem hin) K wx cs (hrep.later hx) (Nat.le_trans (cntF_mem (List.getElem_mem hin)) HC.out)
   subst hA
   generalize l[i].1 = nm at hc0 hsz HOK
   generalize l[i].2.1 = fl at hc1 HOK
   generalize l[i].2.2 = t at hrep HOK KForm
   obtain ⟨k2, s2, n2, ps2, fs2, vs2⟩ := t
   obtain ⟨Aq, cq, Ag, cg, Ah, ch, rfl, -⟩ := hrep.inv
   simp only [cells6T] at KForm
   have HX : Hid (∀ wx, Below w.heap.size w wx → wx.cell? ⟨b, o + i * 8, none⟩ = some (.string nm) ∧ wx.cell? ⟨b, o + i * 8 + 1, none⟩ = some (.int .i64 fl) ∧ wx.cell? ⟨b, o + i * 8 + 2, none⟩ = some (.int .i64 k2) ∧ wx.cell? ⟨b, o + i * 8 + 2 + 1, none⟩ = some (.string s2) ∧ wx.cell? ⟨b, o + i * 8 + 2 + 2, none⟩ = some (.int .i64 n2) ∧ wx.cell? ⟨b, o + i * 8 + 2 + 3, none⟩ = some (.slice Aq ps2.length cq) ∧ wx.cell? ⟨b, o + i * 8 + 2 + 4, none⟩ = some (.slice Ag fs2.length cg) ∧ wx.cell? ⟨b, o + i * 8 + 2 + 5, none⟩ = some (.slice Ah vs2.length ch)) := Hd fun wx hx =>
    ⟨cell_stays hx hc0, cell_stays hx hc1, cell_stays hx (hcs 0 _ rfl), cell_stays hx (hcs 1 _ rfl), cell_stays hx (hcs 2 _ rfl), cell_stays hx (hcs 3 _ rfl), cell_stays hx (hcs 4 _ rfl), cell_stays hx (hcs 5 _ rfl)⟩
   have KN := Hd fun wx => name_ref nm wx hsz
   have HIn : Hid (i + 1 ≤ l.length) := Hd hin
   have HCC : Hid (∀ wx, Below wr.heap.size wr wx → wx.cell? ⟨b, o + i * 8, none⟩ = some (.string nm) ∧ wx.cell? ⟨b, o + i * 8 + 1, none⟩ = some (.int .i64 fl) ∧ wx.cell? ⟨b, o + i * 8 + 2, none⟩ = some (.int .i64 k2) ∧ wx.cell? ⟨b, o + i * 8 + 2 + 1, none⟩ = some (.string s2) ∧ wx.cell? ⟨b, o + i * 8 + 2 + 2, none⟩ = some (.int .i64 n2) ∧ wx.cell? ⟨b, o + i * 8 + 2 + 3, none⟩ = some (.slice Aq ps2.length cq) ∧ wx.cell? ⟨b, o + i * 8 + 2 + 4, none⟩ = some (.slice Ag fs2.length cg) ∧ wx.cell? ⟨b, o + i * 8 + 2 + 5, none⟩ = some (.slice Ah vs2.length ch)) := Hd fun wx hx => HX.out wx (HB.out.trans (hx.mono HB.out.size))
   have hbr := HB.out
   clear hi hat hc0 hc1 hcs hrep hsz
   generalize formT (.mk k2 s2 n2 ps2 fs2 vs2) = qf at HOK KForm
   cases hn : nameT nm with
   | false =>
    have HF := Hd (HNO.out (by rw [HOK.out, hn]; simp))
    rw [hn] at KN
    clear hn hbr KForm HX HCell HOK
    go_wp2_with fail
    refine wp_region_held_drew (S := (fun w' => w'.cell? ⟨b, o + i * 8, none⟩ = some (.string nm) ∧ w'.cell? ⟨b, o + i * 8 + 1, none⟩ = some (.int .i64 fl) ∧ w'.cell? ⟨b, o + i * 8 + 2, none⟩ = some (.int .i64 k2) ∧ w'.cell? ⟨b, o + i * 8 + 2 + 1, none⟩ = some (.string s2) ∧ w'.cell? ⟨b, o + i * 8 + 2 + 2, none⟩ = some (.int .i64 n2) ∧ w'.cell? ⟨b, o + i * 8 + 2 + 3, none⟩ = some (.slice Aq ps2.length cq) ∧ w'.cell? ⟨b, o + i * 8 + 2 + 4, none⟩ = some (.slice Ag fs2.length cg) ∧ w'.cell? ⟨b, o + i * 8 + 2 + 5, none⟩ = some (.slice Ah vs2.length ch))) (by kernel_rfl) (HCC.out _ (Below.refl _ _).drew) (fun hHeld => ?_)
    refine Plan.start [0, 1, 2, 3, 4] ?_
    iterate 5 (refine Plan.tk (so rfl) hHeld ?_; try simp only [Act.put, pz1, pz2, pz3])
    refine Plan.done ?_
    refine wpAnyH_ready (rs := [5]) (by kernel_rfl) (by simp) ?_
    refine AllReadyH.cons (sd (some 15) rfl) (fun K hK => ?_) AllReadyH.nil
    go_simp
    refine (KN.out _).mono ?_
    rintro e w2 ⟨rfl, hb2⟩
    have HB2 := Hd ((Below.refl wr.heap.size wr).drew.trans hb2)
    clear hb2
    go_wp2_with fail
    refine hK.out _ _ (HCC.out _ HB2.out) (fun hHeld => ?_)
    clear hK K
    try simp only [Act.put, pz1, pz2, pz3]
    refine Plan.start [6, 7] ?_
    iterate 2 (refine Plan.tk (so rfl) hHeld ?_; try simp only [Act.put, pz1, pz2, pz3])
    refine Plan.done ?_
    refine Plan.start [8, 9, 10, 11, 12, 13] ?_
    iterate 6 (refine Plan.take (v := undef) (so rfl) (by kernel_rfl) (by kernel_rfl) (by kernel_rfl) (fun _ _ _ h => h) (Or.inr ⟨by rfl, rfl⟩) hHeld ?_; try simp only [Act.put, pz1, pz2, pz3])
    refine Plan.done ?_
    refine Plan.start [14, 15] ?_
    iterate 2 (refine Plan.tk (so rfl) hHeld ?_; try simp only [Act.put, pz1, pz2, pz3])
    refine Plan.done ?_
    refine Plan.start [16, 17, 18, 19, 20, 21] ?_
    iterate 6 (refine Plan.take (v := undef) (so rfl) (by kernel_rfl) (by kernel_rfl) (by kernel_rfl) (fun _ _ _ h => h) (Or.inr ⟨by rfl, rfl⟩) hHeld ?_; try simp only [Act.put, pz1, pz2, pz3])
    refine Plan.done ?_
    refine Plan.start [22, 23] ?_
    iterate 2 (refine Plan.tk (so rfl) hHeld ?_; try simp only [Act.put, pz1, pz2, pz3])
    refine Plan.done ?_
    refine Plan.start [24, 25, 26, 27, 28, 29, 30] ?_
    iterate 7 (refine Plan.take (v := undef) (so rfl) (by kernel_rfl) (by kernel_rfl) (by kernel_rfl) (fun _ _ _ h => h) (Or.inr ⟨by rfl, rfl⟩) hHeld ?_; try simp only [Act.put, pz1, pz2, pz3])
    refine Plan.done ?_
    refine Plan.start [31, 32] ?_
    iterate 2 (refine Plan.tk (so rfl) hHeld ?_; try simp only [Act.put, pz1, pz2, pz3])
    refine Plan.done ?_
    refine Plan.start [33, 34, 35, 36, 37, 38, 39, 40, 41, 42, 43, 44, 45, 46, 47, 48] ?_
    iterate 16 (refine Plan.take (v := undef) (so rfl) (by kernel_rfl) (by kernel_rfl) (by kernel_rfl) (fun _ _ _ h => h) (Or.inr ⟨by rfl, rfl⟩) hHeld ?_; try simp only [Act.put, pz1, pz2, pz3])
    refine Plan.done ?_
    refine Plan.start [49] ?_
    refine Plan.tk (so rfl) hHeld ?_
    try simp only [Act.put, pz1, pz2, pz3]
    refine Plan.done ?_
    refine wpAnyH_done (by kernel_rfl) ?_ _
    clear hHeld
    go_wp2_with fail
    go_ret
    exact ⟨by rw [HF.out]; rfl, HB.out.trans (HB2.out.mono HB.out.size)⟩
   | true =>
    rw [hn] at KN
    by_cases hf0 : fl < 0
    ·have f0 : decide (fl < 0) = true := decide_eq_true hf0
     have HF := Hd (HNO.out (by rw [HOK.out, hn, decide_eq_false (show ¬ 0 ≤ fl by omega)]; simp))
     clear hn hbr KForm HX HCell HOK
     go_wp2_with fail
     refine wp_region_held_drew (S := (fun w' => w'.cell? ⟨b, o + i * 8, none⟩ = some (.string nm) ∧ w'.cell? ⟨b, o + i * 8 + 1, none⟩ = some (.int .i64 fl) ∧ w'.cell? ⟨b, o + i * 8 + 2, none⟩ = some (.int .i64 k2) ∧ w'.cell? ⟨b, o + i * 8 + 2 + 1, none⟩ = some (.string s2) ∧ w'.cell? ⟨b, o + i * 8 + 2 + 2, none⟩ = some (.int .i64 n2) ∧ w'.cell? ⟨b, o + i * 8 + 2 + 3, none⟩ = some (.slice Aq ps2.length cq) ∧ w'.cell? ⟨b, o + i * 8 + 2 + 4, none⟩ = some (.slice Ag fs2.length cg) ∧ w'.cell? ⟨b, o + i * 8 + 2 + 5, none⟩ = some (.slice Ah vs2.length ch))) (by kernel_rfl) (HCC.out _ (Below.refl _ _).drew) (fun hHeld => ?_)
     refine Plan.start [0, 1, 2, 3, 4] ?_
     iterate 5 (refine Plan.tk (so rfl) hHeld ?_; try simp only [Act.put, pz1, pz2, pz3])
     refine Plan.done ?_
     refine wpAnyH_ready (rs := [5]) (by kernel_rfl) (by simp) ?_
     refine AllReadyH.cons (sd (some 15) rfl) (fun K hK => ?_) AllReadyH.nil
     go_simp
     refine (KN.out _).mono ?_
     rintro e w2 ⟨rfl, hb2⟩
     have HB2 := Hd ((Below.refl wr.heap.size wr).drew.trans hb2)
     clear hb2
     go_wp2_with fail
     refine hK.out _ _ (HCC.out _ HB2.out) (fun hHeld => ?_)
     clear hK K
     try simp only [Act.put, pz1, pz2, pz3]
     refine Plan.start [6, 7, 8, 9, 10, 11, 12, 13, 14, 15] ?_
     iterate 10 (refine Plan.tk (so rfl) hHeld ?_; try simp only [Act.put, pz1, pz2, pz3])
     refine Plan.done ?_
     refine Plan.start [16, 17, 18, 19, 20, 21] ?_
     iterate 6 (refine Plan.take (v := undef) (so rfl) (by kernel_rfl) (by kernel_rfl) (by kernel_rfl) (fun _ _ _ h => h) (Or.inr ⟨by rfl, rfl⟩) hHeld ?_; try simp only [Act.put, pz1, pz2, pz3])
     refine Plan.done ?_
     refine Plan.start [22, 23] ?_
     iterate 2 (refine Plan.tk (so rfl) hHeld ?_; try simp only [Act.put, pz1, pz2, pz3])
     refine Plan.done ?_
     refine Plan.start [24, 25, 26, 27, 28, 29, 30] ?_
     iterate 7 (refine Plan.take (v := undef) (so rfl) (by kernel_rfl) (by kernel_rfl) (by kernel_rfl) (fun _ _ _ h => h) (Or.inr ⟨by rfl, rfl⟩) hHeld ?_; try simp only [Act.put, pz1, pz2, pz3])
     refine Plan.done ?_
     refine Plan.start [31, 32] ?_
     iterate 2 (refine Plan.tk (so rfl) hHeld ?_; try simp only [Act.put, pz1, pz2, pz3])
     refine Plan.done ?_
     refine Plan.start [33, 34, 35, 36, 37, 38, 39, 40, 41, 42, 43, 44, 45, 46, 47, 48] ?_
     iterate 16 (refine Plan.take (v := undef) (so rfl) (by kernel_rfl) (by kernel_rfl) (by kernel_rfl) (fun _ _ _ h => h) (Or.inr ⟨by rfl, rfl⟩) hHeld ?_; try simp only [Act.put, pz1, pz2, pz3])
     refine Plan.done ?_
     refine Plan.start [49] ?_
     refine Plan.tk (so rfl) hHeld ?_
     try simp only [Act.put, pz1, pz2, pz3]
     refine Plan.done ?_
     refine wpAnyH_done (by kernel_rfl) ?_ _
     clear hHeld
     go_wp2_with fail
     go_ret
     exact ⟨by rw [HF.out]; rfl, HB.out.trans (HB2.out.mono HB.out.size)⟩
    ·have f0 : decide (fl < 0) = false := decide_eq_false hf0
     by_cases hf3 : 3 < fl
     ·have f3 : decide ((3 : Int) < fl) = true := decide_eq_true hf3
      have HF := Hd (HNO.out (by rw [HOK.out, hn, decide_eq_false (show ¬ fl ≤ 3 by omega)]; simp))
      clear hn hbr KForm HX HCell HOK
      go_wp2_with fail
      refine wp_region_held_drew (S := (fun w' => w'.cell? ⟨b, o + i * 8, none⟩ = some (.string nm) ∧ w'.cell? ⟨b, o + i * 8 + 1, none⟩ = some (.int .i64 fl) ∧ w'.cell? ⟨b, o + i * 8 + 2, none⟩ = some (.int .i64 k2) ∧ w'.cell? ⟨b, o + i * 8 + 2 + 1, none⟩ = some (.string s2) ∧ w'.cell? ⟨b, o + i * 8 + 2 + 2, none⟩ = some (.int .i64 n2) ∧ w'.cell? ⟨b, o + i * 8 + 2 + 3, none⟩ = some (.slice Aq ps2.length cq) ∧ w'.cell? ⟨b, o + i * 8 + 2 + 4, none⟩ = some (.slice Ag fs2.length cg) ∧ w'.cell? ⟨b, o + i * 8 + 2 + 5, none⟩ = some (.slice Ah vs2.length ch))) (by kernel_rfl) (HCC.out _ (Below.refl _ _).drew) (fun hHeld => ?_)
      refine Plan.start [0, 1, 2, 3, 4] ?_
      iterate 5 (refine Plan.tk (so rfl) hHeld ?_; try simp only [Act.put, pz1, pz2, pz3])
      refine Plan.done ?_
      refine wpAnyH_ready (rs := [5]) (by kernel_rfl) (by simp) ?_
      refine AllReadyH.cons (sd (some 15) rfl) (fun K hK => ?_) AllReadyH.nil
      go_simp
      refine (KN.out _).mono ?_
      rintro e w2 ⟨rfl, hb2⟩
      have HB2 := Hd ((Below.refl wr.heap.size wr).drew.trans hb2)
      clear hb2
      go_wp2_with fail
      refine hK.out _ _ (HCC.out _ HB2.out) (fun hHeld => ?_)
      clear hK K
      try simp only [Act.put, pz1, pz2, pz3]
      refine Plan.start [6, 7, 8, 9, 10, 11, 12, 13, 14, 15, 16, 17, 18, 19, 20, 21, 22, 23] ?_
      iterate 18 (refine Plan.tk (so rfl) hHeld ?_; try simp only [Act.put, pz1, pz2, pz3])
      refine Plan.done ?_
      refine Plan.start [24, 25, 26, 27, 28, 29, 30] ?_
      iterate 7 (refine Plan.take (v := undef) (so rfl) (by kernel_rfl) (by kernel_rfl) (by kernel_rfl) (fun _ _ _ h => h) (Or.inr ⟨by rfl, rfl⟩) hHeld ?_; try simp only [Act.put, pz1, pz2, pz3])
      refine Plan.done ?_
      refine Plan.start [31, 32] ?_
      iterate 2 (refine Plan.tk (so rfl) hHeld ?_; try simp only [Act.put, pz1, pz2, pz3])
      refine Plan.done ?_
      refine Plan.start [33, 34, 35, 36, 37, 38, 39, 40, 41, 42, 43, 44, 45, 46, 47, 48] ?_
      iterate 16 (refine Plan.take (v := undef) (so rfl) (by kernel_rfl) (by kernel_rfl) (by kernel_rfl) (fun _ _ _ h => h) (Or.inr ⟨by rfl, rfl⟩) hHeld ?_; try simp only [Act.put, pz1, pz2, pz3])
      refine Plan.done ?_
      refine Plan.start [49] ?_
      refine Plan.tk (so rfl) hHeld ?_
      try simp only [Act.put, pz1, pz2, pz3]
      refine Plan.done ?_
      refine wpAnyH_done (by kernel_rfl) ?_ _
      clear hHeld
      go_wp2_with fail
      go_ret
      exact ⟨by rw [HF.out]; rfl, HB.out.trans (HB2.out.mono HB.out.size)⟩
     ·have f3 : decide ((3 : Int) < fl) = false := decide_eq_false hf3
      have HFl : Hid (nameT nm = true ∧ decide (0 ≤ fl) = true ∧ decide (fl ≤ 3) = true) := Hd ⟨hn, decide_eq_true (by omega), decide_eq_true (by omega)⟩
      clear hf0 hf3 hn
      cases qf with
      | false =>
       have HF := Hd (HNO.out (by rw [HOK.out]; simp))
       clear hbr HX HCell HOK
       go_wp2_with fail
       refine wp_region_held_drew (S := (fun w' => w'.cell? ⟨b, o + i * 8, none⟩ = some (.string nm) ∧ w'.cell? ⟨b, o + i * 8 + 1, none⟩ = some (.int .i64 fl) ∧ w'.cell? ⟨b, o + i * 8 + 2, none⟩ = some (.int .i64 k2) ∧ w'.cell? ⟨b, o + i * 8 + 2 + 1, none⟩ = some (.string s2) ∧ w'.cell? ⟨b, o + i * 8 + 2 + 2, none⟩ = some (.int .i64 n2) ∧ w'.cell? ⟨b, o + i * 8 + 2 + 3, none⟩ = some (.slice Aq ps2.length cq) ∧ w'.cell? ⟨b, o + i * 8 + 2 + 4, none⟩ = some (.slice Ag fs2.length cg) ∧ w'.cell? ⟨b, o + i * 8 + 2 + 5, none⟩ = some (.slice Ah vs2.length ch))) (by kernel_rfl) (HCC.out _ (Below.refl _ _).drew) (fun hHeld => ?_)
       refine Plan.start [0, 1, 2, 3, 4] ?_
       iterate 5 (refine Plan.tk (so rfl) hHeld ?_; try simp only [Act.put, pz1, pz2, pz3])
       refine Plan.done ?_
       refine wpAnyH_ready (rs := [5]) (by kernel_rfl) (by simp) ?_
       refine AllReadyH.cons (sd (some 15) rfl) (fun K hK => ?_) AllReadyH.nil
       go_simp
       refine (KN.out _).mono ?_
       rintro e w2 ⟨rfl, hb2⟩
       have HB2 := Hd ((Below.refl wr.heap.size wr).drew.trans hb2)
       clear hb2
       go_wp2_with fail
       refine hK.out _ _ (HCC.out _ HB2.out) (fun hHeld => ?_)
       clear hK K
       try simp only [Act.put, pz1, pz2, pz3]
       refine Plan.start [6, 7, 8, 9, 10, 11, 12, 13, 14, 15, 16, 17, 18, 19, 20, 21, 22, 23, 24, 25, 26, 27, 28] ?_
       iterate 23 (refine Plan.tk (so rfl) hHeld ?_; try simp only [Act.put, pz1, pz2, pz3])
       refine Plan.done ?_
       refine wpAnyH_ready (rs := [29]) (by kernel_rfl) (by simp) ?_
       refine AllReadyH.cons (sd (some 39) rfl) (fun K hK => ?_) AllReadyH.nil
       go_simp
       refine (KForm.out _ (HB.out.trans (HB2.out.mono HB.out.size))).mono ?_
       rintro e w3 ⟨rfl, hb3⟩
       have HB3 := Hd (HB2.out.trans (hb3.mono HB2.out.size))
       clear hb3
       go_wp2_with fail
       refine hK.out _ _ (HCC.out _ HB3.out) (fun hHeld => ?_)
       clear hK K
       try simp only [Act.put, pz1, pz2, pz3]
       refine Plan.start [30, 31, 32] ?_
       iterate 3 (refine Plan.tk (so rfl) hHeld ?_; try simp only [Act.put, pz1, pz2, pz3])
       refine Plan.done ?_
       refine Plan.start [33, 34, 35, 36, 37, 38, 39, 40, 41, 42, 43, 44, 45, 46, 47, 48] ?_
       iterate 16 (refine Plan.take (v := undef) (so rfl) (by kernel_rfl) (by kernel_rfl) (by kernel_rfl) (fun _ _ _ h => h) (Or.inr ⟨by rfl, rfl⟩) hHeld ?_; try simp only [Act.put, pz1, pz2, pz3])
       refine Plan.done ?_
       refine Plan.start [49] ?_
       refine Plan.tk (so rfl) hHeld ?_
       try simp only [Act.put, pz1, pz2, pz3]
       refine Plan.done ?_
       refine wpAnyH_done (by kernel_rfl) ?_ _
       clear hHeld
       go_wp2_with fail
       go_ret
       exact ⟨by rw [HF.out]; rfl, HB.out.trans (HB3.out.mono HB.out.size)⟩
      | true =>
       rcases Nat.eq_zero_or_pos i with h0 | hpos
       ·subst h0
        have HOK2 : Hid (∀ j, j < 0 + 1 → okF (fieldsT l formT) j = true) := Hd fun j hj => by
         have : j = 0 := by omega
         subst this
         rw [HOK.out, HFl.out.1, HFl.out.2.1, HFl.out.2.2]; rfl
        simp only [Nat.zero_mul, Nat.add_zero] at HCC KForm
        clear hbr HX HCell HOK
        go_wp2_with fail
        refine wp_region_held_drew (S := (fun w' => w'.cell? ⟨b, o, none⟩ = some (.string nm) ∧ w'.cell? ⟨b, o + 1, none⟩ = some (.int .i64 fl) ∧ w'.cell? ⟨b, o + 2, none⟩ = some (.int .i64 k2) ∧ w'.cell? ⟨b, o + 2 + 1, none⟩ = some (.string s2) ∧ w'.cell? ⟨b, o + 2 + 2, none⟩ = some (.int .i64 n2) ∧ w'.cell? ⟨b, o + 2 + 3, none⟩ = some (.slice Aq ps2.length cq) ∧ w'.cell? ⟨b, o + 2 + 4, none⟩ = some (.slice Ag fs2.length cg) ∧ w'.cell? ⟨b, o + 2 + 5, none⟩ = some (.slice Ah vs2.length ch))) (by kernel_rfl) (HCC.out _ (Below.refl _ _).drew) (fun hHeld => ?_)
        refine Plan.start [0, 1, 2, 3, 4] ?_
        iterate 5 (refine Plan.tk (so rfl) hHeld ?_; try simp only [Act.put, pz1, pz2, pz3])
        refine Plan.done ?_
        refine wpAnyH_ready (rs := [5]) (by kernel_rfl) (by simp) ?_
        refine AllReadyH.cons (sd (some 15) rfl) (fun K hK => ?_) AllReadyH.nil
        go_simp
        refine (KN.out _).mono ?_
        rintro e w2 ⟨rfl, hb2⟩
        have HB2 := Hd ((Below.refl wr.heap.size wr).drew.trans hb2)
        clear hb2
        go_wp2_with fail
        refine hK.out _ _ (HCC.out _ HB2.out) (fun hHeld => ?_)
        clear hK K
        try simp only [Act.put, pz1, pz2, pz3]
        refine Plan.start [6, 7, 8, 9, 10, 11, 12, 13, 14, 15, 16, 17, 18, 19, 20, 21, 22, 23, 24, 25, 26, 27, 28] ?_
        iterate 23 (refine Plan.tk (so rfl) hHeld ?_; try simp only [Act.put, pz1, pz2, pz3])
        refine Plan.done ?_
        refine wpAnyH_ready (rs := [29]) (by kernel_rfl) (by simp) ?_
        refine AllReadyH.cons (sd (some 39) rfl) (fun K hK => ?_) AllReadyH.nil
        go_simp
        refine (KForm.out _ (HB.out.trans (HB2.out.mono HB.out.size))).mono ?_
        rintro e w3 ⟨rfl, hb3⟩
        have HB3 := Hd (HB2.out.trans (hb3.mono HB2.out.size))
        clear hb3
        go_wp2_with fail
        refine hK.out _ _ (HCC.out _ HB3.out) (fun hHeld => ?_)
        clear hK K
        try simp only [Act.put, pz1, pz2, pz3]
        refine Plan.start [30, 31, 32, 33, 34, 35] ?_
        iterate 6 (refine Plan.tk (so rfl) hHeld ?_; try simp only [Act.put, pz1, pz2, pz3])
        refine Plan.done ?_
        refine Plan.start [36, 37, 38, 39, 40, 41, 42, 43, 44, 45, 46, 47] ?_
        iterate 12 (refine Plan.take (v := undef) (so rfl) (by kernel_rfl) (by kernel_rfl) (by kernel_rfl) (fun _ _ _ h => h) (Or.inr ⟨by rfl, rfl⟩) hHeld ?_; try simp only [Act.put, pz1, pz2, pz3])
        refine Plan.done ?_
        refine Plan.start [48, 49] ?_
        iterate 2 (refine Plan.tk (so rfl) hHeld ?_; try simp only [Act.put, pz1, pz2, pz3])
        refine Plan.done ?_
        refine wpAnyH_done (by kernel_rfl) ?_ _
        clear hHeld
        go_wp2_with fail
        refine ⟨⟨0 + 1, HIn.out, by first | rfl | rw [wr2], HOK2.out, HB.out.trans (HB3.out.mono HB.out.size)⟩, ?_⟩
        first | exact HM.out | (rw [wr2]; exact HM.out)
       ·obtain ⟨m, hm⟩ : ∃ m, i = m + 1 := ⟨i - 1, by omega⟩
        obtain ⟨q, hq, hcq0⟩ := HCell.out m (by omega)
        have hcq := cell_stays hbr hcq0
        have HCD : Hid (∀ wx, Below wr.heap.size wr wx → wx.cell? ⟨b, o + m * 8, none⟩ = some (.string q)) := Hd fun wx hx => cell_stays hx hcq
        have wr1 : wrap64 ((i : Int) - 1) = ((m : Nat) : Int) := by rw [wrap_in (by omega) (by omega)]; omega
        have wr1' : IntKind.i64.wrap ((i : Int) - 1) = ((m : Nat) : Int) := by
         have e : IntKind.i64.wrap ((i : Int) - 1) = wrap64 ((i : Int) - 1) := by unfold wrap64; exact IntKind.wrap_i64 _
         rw [e, wr1]
        have wr3 : wrap64 (m : Int) = (m : Int) := wrap_in (by omega) (by omega)
        have wr3' : IntKind.i64.wrap (m : Int) = (m : Int) := by
         have e : IntKind.i64.wrap (m : Int) = wrap64 (m : Int) := by unfold wrap64; exact IntKind.wrap_i64 _
         rw [e, wr3]
        have i2 : (0 : Int) ≤ (m : Int) := by omega
        have i3 : (m : Int) < (l.length : Int) := by omega
        have i5 : m < l.length := by omega
        have i4 : (0 : Int) < (i : Int) := by omega
        have i6 : decide ((0 : Int) < (i : Int)) = true := decide_eq_true i4
        have i7 : decide (0 < i) = true := decide_eq_true hpos
        have HLess : Hid (lastOk l i nm = Go.Op.bytesLess q.toList nm.toList) := Hd (by
         subst hm
         simp only [lastOk, List.getElem?_eq_getElem (show m < l.length by omega)]
         rw [hq])
        cases hbl : Go.Op.bytesLess q.toList nm.toList with
        | true =>
         have HOK2 : Hid (∀ j, j < i + 1 → okF (fieldsT l formT) j = true) := Hd fun j hj => by
          rcases Nat.lt_or_ge j i with h1 | h1
          ·exact HE.out j h1
          ·have : j = i := by omega
           subst this
           rw [HOK.out, HFl.out.1, HFl.out.2.1, HFl.out.2.2, HLess.out, hbl]; rfl
         clear hbr HX HCell HOK hq hcq0 hcq hm
         go_wp2_with fail
         refine wp_region_held_drew (S := (fun w' => (w'.cell? ⟨b, o + i * 8, none⟩ = some (.string nm) ∧ w'.cell? ⟨b, o + i * 8 + 1, none⟩ = some (.int .i64 fl) ∧ w'.cell? ⟨b, o + i * 8 + 2, none⟩ = some (.int .i64 k2) ∧ w'.cell? ⟨b, o + i * 8 + 2 + 1, none⟩ = some (.string s2) ∧ w'.cell? ⟨b, o + i * 8 + 2 + 2, none⟩ = some (.int .i64 n2) ∧ w'.cell? ⟨b, o + i * 8 + 2 + 3, none⟩ = some (.slice Aq ps2.length cq) ∧ w'.cell? ⟨b, o + i * 8 + 2 + 4, none⟩ = some (.slice Ag fs2.length cg) ∧ w'.cell? ⟨b, o + i * 8 + 2 + 5, none⟩ = some (.slice Ah vs2.length ch)) ∧ w'.cell? ⟨b, o + m * 8, none⟩ = some (.string q))) (by kernel_rfl) (⟨HCC.out _ (Below.refl _ _).drew, HCD.out _ (Below.refl _ _).drew⟩) (fun hHeld => ?_)
         refine Plan.start [0, 1, 2, 3, 4] ?_
         iterate 5 (refine Plan.tk (so rfl) hHeld ?_; try simp only [Act.put, pz1, pz2, pz3])
         refine Plan.done ?_
         refine wpAnyH_ready (rs := [5]) (by kernel_rfl) (by simp) ?_
         refine AllReadyH.cons (sd (some 15) rfl) (fun K hK => ?_) AllReadyH.nil
         go_simp
         refine (KN.out _).mono ?_
         rintro e w2 ⟨rfl, hb2⟩
         have HB2 := Hd ((Below.refl wr.heap.size wr).drew.trans hb2)
         clear hb2
         go_wp2_with fail
         refine hK.out _ _ (⟨HCC.out _ HB2.out, HCD.out _ HB2.out⟩) (fun hHeld => ?_)
         clear hK K
         try simp only [Act.put, pz1, pz2, pz3]
         refine Plan.start [6, 7, 8, 9, 10, 11, 12, 13, 14, 15, 16, 17, 18, 19, 20, 21, 22, 23, 24, 25, 26, 27, 28] ?_
         iterate 23 (refine Plan.tk (so rfl) hHeld ?_; try simp only [Act.put, pz1, pz2, pz3])
         refine Plan.done ?_
         refine wpAnyH_ready (rs := [29]) (by kernel_rfl) (by simp) ?_
         refine AllReadyH.cons (sd (some 39) rfl) (fun K hK => ?_) AllReadyH.nil
         go_simp
         refine (KForm.out _ (HB.out.trans (HB2.out.mono HB.out.size))).mono ?_
         rintro e w3 ⟨rfl, hb3⟩
         have HB3 := Hd (HB2.out.trans (hb3.mono HB2.out.size))
         clear hb3
         go_wp2_with fail
         refine hK.out _ _ (⟨HCC.out _ HB3.out, HCD.out _ HB3.out⟩) (fun hHeld => ?_)
         clear hK K
         try simp only [Act.put, pz1, pz2, pz3]
         refine Plan.start [30, 31, 32, 33, 34, 35, 36, 37, 38, 39, 40, 41, 42, 43, 44, 45, 46, 47, 48, 49] ?_
         iterate 20 (refine Plan.tk (so rfl) hHeld ?_; try simp only [Act.put, pz1, pz2, pz3])
         refine Plan.done ?_
         refine wpAnyH_done (by kernel_rfl) ?_ _
         clear hHeld
         go_wp2_with fail
         refine ⟨⟨i + 1, HIn.out, by first | rfl | rw [wr2], HOK2.out, HB.out.trans (HB3.out.mono HB.out.size)⟩, ?_⟩
         first | exact HM.out | (rw [wr2]; exact HM.out)
        | false =>
         have HF := Hd (HNO.out (by rw [HOK.out, HLess.out, hbl]; simp))
         clear hbr HX HCell HOK hq hcq0 hcq hm
         go_wp2_with fail
         refine wp_region_held_drew (S := (fun w' => (w'.cell? ⟨b, o + i * 8, none⟩ = some (.string nm) ∧ w'.cell? ⟨b, o + i * 8 + 1, none⟩ = some (.int .i64 fl) ∧ w'.cell? ⟨b, o + i * 8 + 2, none⟩ = some (.int .i64 k2) ∧ w'.cell? ⟨b, o + i * 8 + 2 + 1, none⟩ = some (.string s2) ∧ w'.cell? ⟨b, o + i * 8 + 2 + 2, none⟩ = some (.int .i64 n2) ∧ w'.cell? ⟨b, o + i * 8 + 2 + 3, none⟩ = some (.slice Aq ps2.length cq) ∧ w'.cell? ⟨b, o + i * 8 + 2 + 4, none⟩ = some (.slice Ag fs2.length cg) ∧ w'.cell? ⟨b, o + i * 8 + 2 + 5, none⟩ = some (.slice Ah vs2.length ch)) ∧ w'.cell? ⟨b, o + m * 8, none⟩ = some (.string q))) (by kernel_rfl) (⟨HCC.out _ (Below.refl _ _).drew, HCD.out _ (Below.refl _ _).drew⟩) (fun hHeld => ?_)
         refine Plan.start [0, 1, 2, 3, 4] ?_
         iterate 5 (refine Plan.tk (so rfl) hHeld ?_; try simp only [Act.put, pz1, pz2, pz3])
         refine Plan.done ?_
         refine wpAnyH_ready (rs := [5]) (by kernel_rfl) (by simp) ?_
         refine AllReadyH.cons (sd (some 15) rfl) (fun K hK => ?_) AllReadyH.nil
         go_simp
         refine (KN.out _).mono ?_
         rintro e w2 ⟨rfl, hb2⟩
         have HB2 := Hd ((Below.refl wr.heap.size wr).drew.trans hb2)
         clear hb2
         go_wp2_with fail
         refine hK.out _ _ (⟨HCC.out _ HB2.out, HCD.out _ HB2.out⟩) (fun hHeld => ?_)
         clear hK K
         try simp only [Act.put, pz1, pz2, pz3]
         refine Plan.start [6, 7, 8, 9, 10, 11, 12, 13, 14, 15, 16, 17, 18, 19, 20, 21, 22, 23, 24, 25, 26, 27, 28] ?_
         iterate 23 (refine Plan.tk (so rfl) hHeld ?_; try simp only [Act.put, pz1, pz2, pz3])
         refine Plan.done ?_
         refine wpAnyH_ready (rs := [29]) (by kernel_rfl) (by simp) ?_
         refine AllReadyH.cons (sd (some 39) rfl) (fun K hK => ?_) AllReadyH.nil
         go_simp
         refine (KForm.out _ (HB.out.trans (HB2.out.mono HB.out.size))).mono ?_
         rintro e w3 ⟨rfl, hb3⟩
         have HB3 := Hd (HB2.out.trans (hb3.mono HB2.out.size))
         clear hb3
         go_wp2_with fail
         refine hK.out _ _ (⟨HCC.out _ HB3.out, HCD.out _ HB3.out⟩) (fun hHeld => ?_)
         clear hK K
         try simp only [Act.put, pz1, pz2, pz3]
         refine Plan.start [30, 31, 32, 33, 34, 35, 36, 37, 38, 39, 40, 41, 42, 43, 44, 45, 46, 47, 48, 49] ?_
         iterate 20 (refine Plan.tk (so rfl) hHeld ?_; try simp only [Act.put, pz1, pz2, pz3])
         refine Plan.done ?_
         refine wpAnyH_done (by kernel_rfl) ?_ _
         clear hHeld
         go_wp2_with fail
         go_ret
         exact ⟨by rw [HF.out]; rfl, HB.out.trans (HB3.out.mono HB.out.size)⟩
  ·have t1 : decide ((i : Int) < (l.length : Int)) = false := by simp; omega
   have HT1 : Hid (fieldsB (fieldsT l formT) = true) := Hd (by unfold fieldsB; rw [range_all]; exact fun j hj => HE.out j (by rw [fieldsT_len] at hj; omega))
   clear hi
   go_wp2_with fail
   go_ret
   exact ⟨by rw [HT1.out]; rfl, HB.out⟩
theorem emptyL : emptyB.toList = [] := by rw [ByteArray.toList_eq]; rfl
theorem infT_kind {k : Int} (h : k ≠ 22) : infT (tyK k) = false := by
 unfold tyK
 rw [infT_mk]
 have e : (k == 22) = false := by simpa using h
 rw [e]; rfl
theorem plainT_form {t : Ty} (h : formT t = true) : PlainT t := ⟨fun e => by rw [form_kind h e (by decide) (by decide)]; exact infT_kind (by decide), form_leaf h⟩
theorem plainT_flat {l : List Ty} (h : ∀ x ∈ l, formT x = true) : ∀ x ∈ flatU l, PlainT x := fun x hx => plainT_form (flatU_form (List.all_eq_true.2 h) x hx)
theorem form_tyK {k : Int} (h1 : 1 ≤ k) (h8 : k ≤ 8) : formT (tyK k) = true := by
 unfold tyK
 rw [formT_mk]
 have hs : shapeK k = ⟨false, false, false, false, 0, 0, true⟩ := by unfold shapeK; rw [if_pos ⟨h1, h8⟩]
 rw [hs]
 unfold selfB
 rw [if_neg (by omega), if_neg (by omega), if_neg (by omega), if_neg (by omega), if_neg (by omega), if_neg (by omega), if_neg (by omega), if_neg (by omega)]
 unfold fitsB
 simp [emptyL]
theorem form_ps {t : Ty} (h : formT t = true) : ∀ p ∈ t.ps, formT p = true := by
 obtain ⟨k, s, n, ps, fs, vs⟩ := t
 rw [formT_mk, Bool.and_eq_true, List.all_eq_true] at h
 exact h.2
theorem form_self {k : Int} {t : ByteArray} {n : Int} {ps : List Ty} {fs : FsT} {vs : VsT} (h : formT (.mk k t n ps fs vs) = true) : selfB k t n ps (fieldsB (fieldsT fs formT)) (varsB (varsT vs formT)) = true := by
 rw [formT_mk, Bool.and_eq_true, Bool.and_eq_true] at h
 exact h.1.2
theorem form_15 {t : ByteArray} {n : Int} {ps : List Ty} {fs : FsT} {vs : VsT} (h : formT (.mk 15 t n ps fs vs) = true) : 2 ≤ ps.length ∧ t = emptyB ∧ n = 0 ∧ fs = [] ∧ vs = [] ∧ isUB ps = true := by
 have hf := form_fits h
 have hs : shapeK 15 = ⟨false, false, false, false, 2, -1, true⟩ := rfl
 rw [hs] at hf
 unfold fitsB at hf
 simp only [Bool.and_eq_true, Bool.not_eq_true', Bool.or_eq_false_iff, Bool.or_eq_true, decide_eq_true_eq, beq_iff_eq, Bool.not_false, Bool.true_and, decide_eq_false_iff_not] at hf
 obtain ⟨⟨⟨⟨h1, h2⟩, h3⟩, h4⟩, h5, h6⟩ := hf
 refine ⟨by omega, bytes_ext ?_, by simpa using h2, List.eq_nil_of_length_eq_zero (by omega), List.eq_nil_of_length_eq_zero (by omega), ?_⟩
 ·have : t.toList = [] := by simpa using h1
  rw [ByteArray.toList_eq] at this; rw [this]; rfl
 ·have := form_self h
  unfold selfB at this
  simpa using this
theorem form_union {l : List Ty} (h : ∀ x ∈ l, formT x = true) : formT (unionT l) = true := by
 have hp := parts_union l
 have hu := union_parts l (plainT_flat h)
 have hm : ∀ x ∈ sortT (keptU l), formT x = true := fun x hx => flatU_form (List.all_eq_true.2 h) x (mem_keptU.1 ((mem_sortT x _).1 hx)).1
 rw [hp] at hu
 unfold unionT at hp hu ⊢
 generalize sortT (keptU l) = s at hp hu hm
 rcases s with _ | ⟨x, _ | ⟨y, s⟩⟩
 ·exact form_tyK (by decide) (by decide)
 ·exact hm x (by simp)
 ·show formT (.mk 15 emptyB 0 (x :: y :: s) [] []) = true
  rw [formT_mk]
  have hs : shapeK 15 = ⟨false, false, false, false, 2, -1, true⟩ := rfl
  rw [hs]
  have hb : isUB (x :: y :: s) = true := (isUB_self (by simp)).2 hu
  have hself : selfB 15 emptyB 0 (x :: y :: s) (fieldsB (fieldsT [] formT)) (varsB (varsT [] formT)) = true := by unfold selfB; simpa using hb
  rw [hself, Bool.and_true, Bool.and_eq_true, List.all_eq_true]
  refine ⟨?_, hm⟩
  unfold fitsB
  simp [emptyL]
  omega
theorem form_fields {t : Ty} (h : formT t = true) (hk : t.k = 14) : fieldsB (fieldsT t.fs formT) = true := by
 obtain ⟨k, s, n, ps, fs, vs⟩ := t
 have hk' : k = 14 := hk
 subst hk'
 have := form_self h
 unfold selfB at this
 have h2 : fieldsB (fieldsT fs formT) = true := by simpa using this
 exact h2
theorem fieldsB_at {fs : FsT} (h : fieldsB (fieldsT fs formT) = true) {i : Nat} (hi : i < fs.length) : nameT fs[i].1 = true ∧ 0 ≤ fs[i].2.1 ∧ fs[i].2.1 ≤ 3 ∧ formT fs[i].2.2 = true := by
 unfold fieldsB at h
 rw [range_all] at h
 have := h i (by rw [fieldsT_len]; exact hi)
 rcases i with _ | i
 ·rw [okF_zero hi] at this
  simp only [Bool.and_eq_true, decide_eq_true_eq] at this
  exact ⟨this.1.1.1, this.1.1.2, this.1.2, this.2⟩
 ·rw [okF_succ hi] at this
  simp only [Bool.and_eq_true, decide_eq_true_eq] at this
  exact ⟨this.1.1.1.1, this.1.1.1.2, this.1.1.2, this.1.2⟩
theorem fieldsB_mem {fs : FsT} (h : fieldsB (fieldsT fs formT) = true) {f : ByteArray × Int × Ty} (hf : f ∈ fs) : nameT f.1 = true ∧ 0 ≤ f.2.1 ∧ f.2.1 ≤ 3 ∧ formT f.2.2 = true := by
 obtain ⟨i, hi, rfl⟩ := List.getElem_of_mem hf
 exact fieldsB_at h hi
theorem fieldsB_lt {fs : FsT} (h : fieldsB (fieldsT fs formT) = true) {i : Nat} (hi : i + 1 < fs.length) : Go.Op.bytesLess (fs[i]'(by omega)).1.toList fs[i + 1].1.toList = true := by
 unfold fieldsB at h
 rw [range_all] at h
 have := h (i + 1) (by rw [fieldsT_len]; exact hi)
 rw [okF_succ hi] at this
 simp only [Bool.and_eq_true, decide_eq_true_eq] at this
 exact this.2
theorem cntL_nil : cntL [] = 0 := rfl
theorem cnt_ps (t : Ty) : cntL t.ps + 1 ≤ cntT t := by
 obtain ⟨k, s, n, ps, fs, vs⟩ := t
 rw [cntT_mk]; show cntL ps + 1 ≤ _; omega
theorem cntF_memT : ∀ {l : FsT} {v : ByteArray × Int × Ty}, v ∈ l → cntT v.2.2 ≤ cntF l
 | a :: l, v, h => by
  have e : cntF (a :: l) = cntT a.2.2 + cntF l := by simp [cntF]
  rw [e]
  rcases List.mem_cons.1 h with rfl | h
  ·omega
  ·have := cntF_memT h; omega
theorem cnt_fs {t : Ty} {f : ByteArray × Int × Ty} (h : f ∈ t.fs) : cntT f.2.2 + 1 ≤ cntT t := by
 obtain ⟨k, s, n, ps, fs, vs⟩ := t
 have := cntF_memT h
 rw [cntT_mk]
 have e : (Ty.mk k s n ps fs vs).fs = fs := rfl
 rw [e] at this; omega
def smpT : Ty → Bool
 | .mk k _ _ ps fs vs => !(k == 17 || (decide (16 ≤ k) && decide (k ≤ 22)) || decide (0 < vs.length)) && ((ps.attach.all fun ⟨p, _⟩ => smpT p) && (fs.attach.all fun ⟨f, _⟩ => smpT f.2.2))
termination_by t => SizeOf.sizeOf t
decreasing_by
 ·exact ty_lt_p ‹_›
 ·exact ty_lt_f ‹_›
theorem smpT_mk (k t n ps fs vs) : smpT (.mk k t n ps fs vs) = (!(k == 17 || (decide (16 ≤ k) && decide (k ≤ 22)) || decide (0 < vs.length)) && (ps.all smpT && fs.all fun f => smpT f.2.2)) := by
 rw [smpT]
 have h1 : (ps.attach.all fun p => smpT p.1) = ps.all smpT := all_attach smpT ps
 have h2 : (fs.attach.all fun f => smpT f.1.2.2) = fs.all fun f => smpT f.2.2 := all_attach (fun f : ByteArray × Int × Ty => smpT f.2.2) fs
 rw [h1, h2]
theorem smp_get {t : Ty} (h : smpT t = true) : (t.k < 16 ∨ 22 < t.k) ∧ t.vs = [] ∧ (∀ p ∈ t.ps, smpT p = true) ∧ ∀ f ∈ t.fs, smpT f.2.2 = true := by
 obtain ⟨k, s, n, ps, fs, vs⟩ := t
 rw [smpT_mk, Bool.and_eq_true, Bool.and_eq_true, List.all_eq_true, List.all_eq_true, Bool.not_eq_true', Bool.or_eq_false_iff, Bool.or_eq_false_iff, Bool.and_eq_false_iff, decide_eq_false_iff_not, decide_eq_false_iff_not, decide_eq_false_iff_not] at h
 obtain ⟨⟨⟨-, h1⟩, h2⟩, h3, h4⟩ := h
 exact ⟨by show k < 16 ∨ 22 < k; omega, List.eq_nil_of_length_eq_zero (show vs.length = 0 by omega), h3, h4⟩
theorem inf_smp (t : Ty) : smpT t = true → infT t = false := by
 refine Ty.ind (C := fun t => smpT t = true → infT t = false) (fun k s n ps fs vs hp hf _ h => ?_) t
 obtain ⟨h1, -, h3, h4⟩ := smp_get h
 have hk : (k == 22) = false := by rw [beq_eq_false_iff_ne]; intro e; have h5 : k < 16 ∨ 22 < k := h1; omega
 rw [infT_mk, hk, Bool.false_or, Bool.or_eq_false_iff]
 constructor
 ·have key : ∀ (l : List Ty) (i : Nat), (∀ p ∈ l, infT p = false) → infPs k i l = false := by
   intro l
   induction l with
   | nil => intro i _; rfl
   | cons a l ih =>
    intro i h
    rw [infPs, h a List.mem_cons_self, ih (i + 1) fun p hp => h p (List.mem_cons_of_mem _ hp), Bool.and_false, Bool.or_false]
  exact key ps 0 fun p hp2 => hp p hp2 (h3 p hp2)
 ·unfold infFs
  rw [List.any_eq_false]
  intro f hf2
  rw [hf f hf2 (h4 f hf2)]
  decide
theorem union_part {t p : Ty} (hf : formT t = true) (hs : smpT t = true) (hk : t.k = 15) (hp : p ∈ t.ps) : p.k ≠ 1 ∧ p.k ≠ 2 ∧ p.k ≠ 3 ∧ p.k ≠ 15 := by
 obtain ⟨k, s, n, ps, fs, vs⟩ := t
 obtain rfl : k = 15 := hk
 obtain ⟨h2, -, -, -, -, hu⟩ := form_15 hf
 obtain ⟨-, -, h3, -⟩ := smp_get hs
 have hps := form_ps hf
 unfold isUB at hu
 rw [Bool.and_eq_true, range_all, List.all_eq_true] at hu
 obtain ⟨hok, hkp⟩ := hu
 have hinf : ∀ q ∈ ps, infT q = false := fun q hq => inf_smp q (h3 q hq)
 -- two parts that follow one another are not the same
 have hne : ∀ i (h : i + 1 < ps.length), ps[i]'(by omega) ≠ ps[i + 1] := fun i h e => by
  have h5 := hok (i + 1) h
  simp only [okU, List.getElem?_eq_getElem h, List.getElem?_eq_getElem (show i < ps.length by omega), Bool.and_eq_true, decide_eq_true_eq] at h5
  have h6 := h5.2
  rw [e, ordT_zero.2 rfl] at h6
  exact absurd h6 (by decide)
 have hall : ∀ c : Int, (c = 2 ∨ c = 3) → (∀ q ∈ ps, q.k = c) → False := fun c hc h => by
  have h0 := form_kind (hps _ (List.getElem_mem (show 0 < ps.length by omega))) (h _ (List.getElem_mem _)) (by omega) (by omega)
  have h1 := form_kind (hps _ (List.getElem_mem (show 1 < ps.length by omega))) (h _ (List.getElem_mem _)) (by omega) (by omega)
  exact hne 0 (by omega) (h0.trans h1.symm)
 obtain ⟨i, hi0, rfl⟩ := List.getElem_of_mem hp
 have hi : i < ps.length := hi0
 show (ps[i]'hi).k ≠ 1 ∧ (ps[i]'hi).k ≠ 2 ∧ (ps[i]'hi).k ≠ 3 ∧ (ps[i]'hi).k ≠ 15
 replace hp : ps[i]'hi ∈ ps := List.getElem_mem hi
 have h15 : (ps[i]'hi).k ≠ 15 := by
  have h5 := hok i hi
  cases i with
  | zero => simp only [okU, List.getElem?_eq_getElem hi, Bool.and_eq_true, Bool.not_eq_true', beq_eq_false_iff_ne] at h5; exact h5.1
  | succ j => simp only [okU, List.getElem?_eq_getElem hi, Bool.and_eq_true, Bool.not_eq_true', beq_eq_false_iff_ne] at h5; exact h5.1
 have ha : (kindsOf ps).a = false := by
  rw [Bool.eq_false_iff]
  intro e
  refine hall 3 (.inr rfl) fun q hq => ?_
  have h5 := hkp q hq
  unfold keepT at h5
  by_cases h3 : q.k = 3
  ·exact h3
  ·simp [e, h3, hinf q hq] at h5
 have hno : (kindsOf ps).a = false → ∀ q ∈ ps, (q.k == 3) = false := fun h q hq => by
  unfold kindsOf hasK at h
  rw [List.any_eq_false] at h
  simpa using h q hq
 have hu2 : (kindsOf ps).u = false := by
  rw [Bool.eq_false_iff]
  intro e
  refine hall 2 (.inl rfl) fun q hq => ?_
  have h5 := hkp q hq
  unfold keepT at h5
  by_cases h3 : q.k = 2
  ·exact h3
  ·by_cases h4 : q.k = 3
   ·exact absurd (hno ha q hq) (by simp [h4])
   ·simp [e, h3, h4, hinf q hq] at h5
 have hnu : ∀ q ∈ ps, (q.k == 2) = false := fun q hq => by
  have h := hu2
  unfold kindsOf hasK at h
  rw [List.any_eq_false] at h
  simpa using h q hq
 have h1 : (ps[i]'hi).k ≠ 1 := fun e => by
  have h5 := hkp _ hp
  unfold keepT at h5
  rw [if_pos e] at h5
  cases h5
 exact ⟨h1, by have := hnu _ hp; simpa using this, by have := hno ha _ hp; simpa using this, h15⟩
theorem shape_ff (k : Int) (h : (shapeK k).f = true) : k = 14 := by
 unfold shapeK at h
 by_cases h14 : k = 14
 ·exact h14
 ·rw [if_neg (show ¬ (k = 14) from h14)] at h
  exact absurd h (by split <;> (try split) <;> (try split) <;> (try split) <;> (try split) <;> (try split) <;> (try split) <;> (try split) <;> (try split) <;> (try split) <;> (try split) <;> simp)
theorem form_fs {t : Ty} (h : formT t = true) : ∀ f ∈ t.fs, formT f.2.2 = true := fun f hf => by
 by_cases hk : t.k = 14
 ·exact (fieldsB_mem (form_fields h hk) hf).2.2.2
 ·obtain ⟨k, s, n, ps, fs, vs⟩ := t
  have hfit := form_fits h
  have hs : (shapeK k).f = false := by
   cases e : (shapeK k).f with
   | false => rfl
   | true => exact absurd (shape_ff k e) hk
  unfold fitsB at hfit
  rw [hs] at hfit
  simp only [Bool.and_eq_true, Bool.not_eq_true', Bool.or_eq_false_iff, Bool.not_false, Bool.true_and, decide_eq_false_iff_not] at hfit
  have h0 : fs = [] := List.eq_nil_of_length_eq_zero (by have := hfit.1.1.2; omega)
  rw [show (Ty.mk k s n ps fs vs).fs = fs from rfl, h0] at hf
  cases hf
theorem list_lit2 {K : Nat → Prop} {W : World} {t q : Ty} {c0 c1 c2 c3 c4 c5 d0 d1 d2 d3 d4 d5 : Value} {g : Nat} (ht : RepT K W t [c0, c1, c2, c3, c4, c5]) (hq : RepT K W q [d0, d1, d2, d3, d4, d5]) (hh : W.heap[g]? = some (.cells #[c0, c1, c2, c3, c4, c5, d0, d1, d2, d3, d4, d5] 26 (0, 0))) :
  ListT (fun b => K b ∨ b = g) W [t, q] (some ⟨g, 0, none⟩) 2 := by
 refine ⟨g, 0, ⟨by simp, by simp, (fun h => by cases h), fun _ => ⟨rfl, .inr rfl⟩⟩, fun i hi => ?_⟩
 have hi2 : i = 0 ∨ i = 1 := by simp at hi; omega
 rcases hi2 with rfl | rfl
 ·refine ⟨_, fun j u hj => ?_, ht.weak fun _ h => .inl h⟩
  rw [Ch hh]
  rcases j with _ | _ | _ | _ | _ | _ | j
  all_goals first | exact hj | (simp at hj)
 ·refine ⟨_, fun j u hj => ?_, hq.weak fun _ h => .inl h⟩
  rw [Ch hh]
  rcases j with _ | _ | _ | _ | _ | _ | j
  all_goals first | exact hj | (simp at hj)
theorem uni2_ref {K : Nat → Prop} {W : World} {t q : Ty} {c0 c1 c2 c3 c4 c5 d0 d1 d2 d3 d4 d5 : Value} {g : Nat} (ht : RepT K W t [c0, c1, c2, c3, c4, c5]) (hq : RepT K W q [d0, d1, d2, d3, d4, d5]) (hh : W.heap[g]? = some (.cells #[c0, c1, c2, c3, c4, c5, d0, d1, d2, d3, d4, d5] 26 (0, 0))) (hft : formT t = true) (hfq : formT q = true) (hct : cntT t ≤ 1000000) (hcq : cntT q ≤ 1000000) :
  Calls Tryz.prog 14 #[.slice (some ⟨g, 0, none⟩) 2 2] W fun e w' => ∃ rs, e = .returned (.agg rs.toArray) ∧ RepT (fun b => K b ∨ b = g ∨ W.heap.size ≤ b) w' (unionT [t, q]) rs ∧ Below W.heap.size W w' := by
 have hl := (list_lit2 ht hq hh).both
 have hfl := flatU_cnt [t, q]
 have hcl : cntL [t, q] ≤ 2000000 := by rw [cntL_cons, cntL_cons, cntL_nil]; omega
 have hall : [t, q].all formT = true := by simp [hft, hfq]
 refine (union_ref hl (fun b h => h.2) (fun x hx => by have h1 := names_cnt x; have h2 := hfl.2 x hx; omega) (by have := hfl.1; omega)).mono ?_
 rintro e w' ⟨rs, rfl, hr, hb⟩
 rw [unionR (plain_form hall)] at hr
 exact ⟨rs, rfl, hr.weak fun b h => by
  rcases h with ⟨h | h, -⟩ | h
  ·exact .inl h
  ·exact .inr (.inl h)
  ·exact .inr (.inr h), hb⟩
end Go.Proofs.YtgjblmlibhppiaaGreatDoor
