import Derived.Test.YtgjblmlibhppiaaGreatDoorMz4
namespace Go.Proofs.YtgjblmlibhppiaaGreatDoor
open Go.RowKit
set_option maxRecDepth 100000 in
set_option maxHeartbeats 16000000 in
theorem is_uni {K : Nat → Prop} {w : World} {v : Val} {t : Ty} {cs ds : List Value} (hr : RepT K w t cs) (hv : RepV w v ds) (hg : GdT t) (hn : noF t = true) (hk : t.k = 15) (ih : ∀ p ∈ t.ps, IsP p) :
  Calls Tryz.prog 17 #[.agg ds.toArray, .agg cs.toArray] w fun e w' => (∃ r : Bool, e = .returned (.bool r) ∧ (r = true ↔ IsV v t)) ∧ Below w.heap.size w w' := by
 obtain ⟨w1, g1, g2, HW1, HG1, HG2, hb1, hx, hy⟩ := box_vt w ds cs
 have hgp := fun p hp => hg.part (p := p) hp
 have hnp := (noF_get hn).2.2.1
 have hr1 := hr.later hb1
 have hv1 := hv.later hb1
 obtain ⟨vv, hvv⟩ : ∃ x, x = v := ⟨_, rfl⟩
 obtain ⟨tv, htv⟩ : ∃ x, x = t := ⟨_, rfl⟩
 obtain ⟨PO, hPO⟩ : ∃ PO : Ending → World → Prop, PO = fun e w' => (∃ r : Bool, e = .returned (.bool r) ∧ (r = true ↔ IsV v t)) ∧ Below w.heap.size w w' := ⟨_, rfl⟩
 have HPO : Hid (∀ (r : Bool) w', (r = true ↔ IsV vv tv) → Below w1.heap.size w1 w' → PO (.returned (.bool r)) w') := Lib.hid fun r w' h1 h2 => by rw [hPO]; exact ⟨⟨r, rfl, by rw [← hvv, ← htv]; exact h1⟩, hb1.trans (h2.mono hb1.size)⟩
 rw [← hPO]
 obtain ⟨k, s, n, nm, ps⟩ := v
 obtain ⟨A, c, B, d, rfl, hN, hP⟩ := hv1.inv
 obtain ⟨k2, s2, n2, ps2, fs2, vs2⟩ := t
 obtain ⟨A2, c2, B2, d2, C2, e2, rfl, -, hL, -⟩ := hr1.inv
 simp only [cells6T] at hx hy HW1 ⊢
 have HX : Hid (∀ wx, Below w1.heap.size w1 wx → (wx.cell? ⟨g1, 0, none⟩ = some (.int .i64 k) ∧ wx.cell? ⟨g1, 1, none⟩ = some (.string s) ∧ wx.cell? ⟨g1, 2, none⟩ = some (.int .i64 n) ∧ wx.cell? ⟨g1, 3, none⟩ = some (.slice A nm.length c) ∧ wx.cell? ⟨g1, 4, none⟩ = some (.slice B ps.length d)) ∧ wx.cell? ⟨g2, 0, none⟩ = some (.int .i64 k2) ∧ wx.cell? ⟨g2, 1, none⟩ = some (.string s2) ∧ wx.cell? ⟨g2, 2, none⟩ = some (.int .i64 n2) ∧ wx.cell? ⟨g2, 3, none⟩ = some (.slice A2 ps2.length c2) ∧ wx.cell? ⟨g2, 4, none⟩ = some (.slice B2 fs2.length d2) ∧ wx.cell? ⟨g2, 5, none⟩ = some (.slice C2 vs2.length e2)) := Lib.hid fun wx h => ⟨cz5 (box_up h (Array.getElem?_eq_some_iff.1 hx).1 hx), cz6 (box_up h (Array.getElem?_eq_some_iff.1 hy).1 hy)⟩
 have HVV : Hid (vv.k = k ∧ vv.t = s ∧ vv.n = n ∧ vv.parts = ps) := Lib.hid (by rw [hvv]; exact ⟨rfl, rfl, rfl, rfl⟩)
 have HTV : Hid (tv.k = k2 ∧ tv.t = s2 ∧ tv.n = n2 ∧ tv.ps = ps2) := Lib.hid (by rw [htv]; exact ⟨rfl, rfl, rfl, rfl⟩)
 have HL : Hid (∀ wx, Below w1.heap.size w1 wx → ListT K wx ps2 A2 c2) := Lib.hid fun wx h => hL.later h
 have HP : Hid (∀ wx, Below w1.heap.size w1 wx → ListW2 wx ps B) := Lib.hid fun wx h => hP.later h
 have HLN : Hid (ps2.length ≤ 1000000000000000 ∧ ps.length ≤ 1000000000000000) := Lib.hid (by obtain ⟨_, _, r2, -⟩ := hL; exact ⟨r2.big, hP.1⟩)
 have HGP : Hid (∀ p ∈ ps2, GdT p ∧ noF p = true) := Lib.hid fun p hp => ⟨hgp p hp, hnp p hp⟩
 have HRV : Hid (∀ wx, Below w1.heap.size w1 wx → RepV wx vv [.int .i64 k, .string s, .int .i64 n, .slice A nm.length c, .slice B ps.length d]) := Lib.hid fun wx h => by rw [hvv]; exact hv1.later h
 replace HW1 := Lib.hid HW1
 replace HG1 := Lib.hid HG1
 replace HG2 := Lib.hid HG2
 have HI : Hid (IsV vv tv ↔ ∃ q ∈ ps2, IsV vv q) := Lib.hid (by rw [isv_union (by rw [htv]; exact hk), HTV.out.2.2.2])
 have HIH : Hid (∀ p ∈ ps2, IsP p) := Lib.hid ih
 obtain rfl : k2 = 15 := hk
 clear ih hr hv hg hn hb1 hx hy hgp hnp hr1 hv1 hvv htv hPO hN hP hL
 go_enter Tryz.func17, Tryz.ntmps17
 go_upto_region 1 with fail
 rw [HW1.out, HG1.out, HG2.out]
 obtain ⟨⟨x0, x1, x2, x3, x4⟩, y0, y1, y2, y3, y4, y5⟩ := HX.out w1 (Below.refl _ _)
 go_wp2_with fail
 clear x0 x1 x2 x3 x4 y0 y1 y2 y3 y4 y5
 go_loopw [7] (fun v wr => ∃ i : Nat, v = .int .i64 i ∧ i ≤ ps2.length ∧ Below w1.heap.size w1 wr ∧ ∀ q ∈ ps2.take i, ¬ IsV vv q) (fun v _ => ps2.length - (intOf v).toNat)
 case atStart => exact ⟨0, rfl, Nat.zero_le _, Below.refl _ _, fun q hq => absurd hq (by simp)⟩
 case round =>
  obtain ⟨i, rfl, hi, hb, hno⟩ := hrel
  have HB := Lib.hid hb
  have hln := HLN.out
  obtain ⟨⟨x0, x1, x2, x3, x4⟩, y0, y1, y2, y3, y4, y5⟩ := HX.out _ hb
  by_cases hin : i < ps2.length
  ·have t1 : decide ((i : Int) < (ps2.length : Int)) = true := by simp; omega
   have wr2 : wrap64 ((i : Int) + 1) = ((i + 1 : Nat) : Int) := wrap_one (by omega)
   have HM := Lib.hid (measI hin)
   have HIn : Hid (i + 1 ≤ ps2.length) := Lib.hid hin
   have hmem := List.getElem_mem hin
   have HNX : Hid (¬ IsV vv (ps2[i]'hin) → ∀ q ∈ ps2.take (i + 1), ¬ IsV vv q) := Lib.hid fun h => mem_take_next hin hno h
   have HST : Hid (IsV vv (ps2[i]'hin) → IsV vv tv) := Lib.hid fun h => HI.out.2 ⟨_, hmem, h⟩
   obtain ⟨tb, tq, hA, -, hat⟩ := (HL.out _ hb).at (Nat.lt_of_le_of_lt (Nat.zero_le i) hin)
   subst hA
   obtain ⟨us, hus, hrt⟩ := hat i hin
   have KH := Lib.hid (HIH.out _ hmem K wr.drew vv us _ (hrt.later (Below.refl _ _).drew) ((HRV.out _ hb).later (Below.refl _ _).drew) (HGP.out _ hmem).1 (HGP.out _ hmem).2)
   have i1 : (0 : Int) ≤ (i : Int) := by omega
   have i2 : (i : Int) < (ps2.length : Int) := by omega
   generalize ps2[i]'hin = tf at hrt KH HNX HST
   obtain ⟨tfv, htfv⟩ : ∃ x, x = tf := ⟨_, rfl⟩
   rw [← htfv] at KH HNX HST
   obtain ⟨k4, s4, n4, ps4, fs4, vs4⟩ := tf
   obtain ⟨A4, c4, B4, d4, C4, e4, rfl, -⟩ := hrt.inv
   simp only [cells6T] at hus KH
   have HC : Hid (∀ wx, Below wr.heap.size wr wx → (wx.cell? ⟨g1, 0, none⟩ = some (.int .i64 k) ∧ wx.cell? ⟨g1, 1, none⟩ = some (.string s) ∧ wx.cell? ⟨g1, 2, none⟩ = some (.int .i64 n) ∧ wx.cell? ⟨g1, 3, none⟩ = some (.slice A nm.length c) ∧ wx.cell? ⟨g1, 4, none⟩ = some (.slice B ps.length d)) ∧ wx.cell? ⟨g2, 3, none⟩ = some (.slice (some ⟨tb, tq, none⟩) ps2.length c2) ∧ wx.cell? ⟨tb, tq + i * 6, none⟩ = some (.int .i64 k4) ∧ wx.cell? ⟨tb, tq + i * 6 + 1, none⟩ = some (.string s4) ∧ wx.cell? ⟨tb, tq + i * 6 + 2, none⟩ = some (.int .i64 n4) ∧ wx.cell? ⟨tb, tq + i * 6 + 3, none⟩ = some (.slice A4 ps4.length c4) ∧ wx.cell? ⟨tb, tq + i * 6 + 4, none⟩ = some (.slice B4 fs4.length d4) ∧ wx.cell? ⟨tb, tq + i * 6 + 5, none⟩ = some (.slice C4 vs4.length e4)) := Lib.hid fun wx hx => ⟨⟨cell_stays hx x0, cell_stays hx x1, cell_stays hx x2, cell_stays hx x3, cell_stays hx x4⟩, cell_stays hx y3, cell_stays hx (hus 0 _ rfl), cell_stays hx (hus 1 _ rfl), cell_stays hx (hus 2 _ rfl), cell_stays hx (hus 3 _ rfl), cell_stays hx (hus 4 _ rfl), cell_stays hx (hus 5 _ rfl)⟩
   have HBD : Hid (Below wr.heap.size wr wr.drew) := Lib.hid (Below.refl _ _).drew
   clear hi hb hno hln hmem hat hus hrt htfv
   go_upto_region 32 with fail
   clear x0 x1 x2 x3 x4 y0 y1 y2 y3 y4 y5
   refine wp_region_held_drew (S := (fun w' => (w'.cell? ⟨g1, 0, none⟩ = some (.int .i64 k) ∧ w'.cell? ⟨g1, 1, none⟩ = some (.string s) ∧ w'.cell? ⟨g1, 2, none⟩ = some (.int .i64 n) ∧ w'.cell? ⟨g1, 3, none⟩ = some (.slice A nm.length c) ∧ w'.cell? ⟨g1, 4, none⟩ = some (.slice B ps.length d)) ∧ w'.cell? ⟨g2, 3, none⟩ = some (.slice (some ⟨tb, tq, none⟩) ps2.length c2) ∧ w'.cell? ⟨tb, tq + i * 6, none⟩ = some (.int .i64 k4) ∧ w'.cell? ⟨tb, tq + i * 6 + 1, none⟩ = some (.string s4) ∧ w'.cell? ⟨tb, tq + i * 6 + 2, none⟩ = some (.int .i64 n4) ∧ w'.cell? ⟨tb, tq + i * 6 + 3, none⟩ = some (.slice A4 ps4.length c4) ∧ w'.cell? ⟨tb, tq + i * 6 + 4, none⟩ = some (.slice B4 fs4.length d4) ∧ w'.cell? ⟨tb, tq + i * 6 + 5, none⟩ = some (.slice C4 vs4.length e4))) (by kernel_rfl) (HC.out _ HBD.out) (fun hHeld => ?_)
   refine Plan.start [0, 1, 2, 3, 4, 5] ?_
   iterate 6 (refine Plan.tk (so rfl) hHeld ?_; try simp only [Act.put, pz1, pz2, pz3])
   refine Plan.done ?_
   refine wpAnyH_ready (rs := [6]) (by kernel_rfl) (by simp) ?_
   refine AllReadyH.cons (sd (some 106) rfl) (fun Kx hK => ?_) AllReadyH.nil
   go_simp
   refine KH.out.mono ?_
   rintro e5 w5 ⟨⟨r, rfl, hr5⟩, hb5⟩
   have HR5 := Lib.hid hr5
   have HB5 : Hid (Below wr.heap.size wr w5) := Lib.hid (HBD.out.trans (hb5.mono HBD.out.size))
   clear hr5 hb5 KH
   go_wp2_with fail
   refine hK.out _ _ (HC.out _ HB5.out) (fun hHeld => ?_)
   clear hK Kx
   try simp only [Act.put, List.setIfInBounds_toArray, List.set_cons_zero, List.set_cons_succ]
   refine wpAnyH_done (by kernel_rfl) ?_ _
   clear hHeld
   cases r with
   | true =>
    go_wp2_with fail
    exact HPO.out _ _ (iff_of_true rfl (HST.out (HR5.out.1 (by trivial)))) (HB.out.trans (HB5.out.mono HB.out.size))
   | false =>
    have HNN : Hid (¬ IsV vv tfv) := Lib.hid fun h => absurd (HR5.out.2 h) (by decide)
    go_wp2_with fail
    refine ⟨⟨i + 1, by first | rfl | rw [wr2], HIn.out, HB.out.trans (HB5.out.mono HB.out.size), HNX.out HNN.out⟩, ?_⟩
    first | exact HM.out | (rw [wr2]; exact HM.out)
  ·have t1 : decide ((i : Int) < (ps2.length : Int)) = false := by simp; omega
   rw [List.take_of_length_le (by omega)] at hno
   have HNO : Hid (¬ IsV vv tv) := Lib.hid fun h => by obtain ⟨q, h1, h2⟩ := HI.out.1 h; exact hno q h1 h2
   clear hi hb hno hln
   go_wp2_with fail
   exact HPO.out _ _ (iff_of_false (by decide) HNO.out) HB.out
set_option maxRecDepth 100000 in
set_option maxHeartbeats 16000000 in
theorem is_arr {K : Nat → Prop} {w : World} {v : Val} {t : Ty} {cs ds : List Value} (hr : RepT K w t cs) (hv : RepV w v ds) (hg : GdT t) (hn : noF t = true) (hk : t.k = 11) (ih : ∀ p ∈ t.ps, IsP p) :
  Calls Tryz.prog 17 #[.agg ds.toArray, .agg cs.toArray] w fun e w' => (∃ r : Bool, e = .returned (.bool r) ∧ (r = true ↔ IsV v t)) ∧ Below w.heap.size w w' := by
 obtain ⟨w1, g1, g2, HW1, HG1, HG2, hb1, hx, hy⟩ := box_vt w ds cs
 have hgp := fun p hp => hg.part (p := p) hp
 have hnp := (noF_get hn).2.2.1
 have hr1 := hr.later hb1
 have hv1 := hv.later hb1
 obtain ⟨vv, hvv⟩ : ∃ x, x = v := ⟨_, rfl⟩
 obtain ⟨tv, htv⟩ : ∃ x, x = t := ⟨_, rfl⟩
 obtain ⟨PO, hPO⟩ : ∃ PO : Ending → World → Prop, PO = fun e w' => (∃ r : Bool, e = .returned (.bool r) ∧ (r = true ↔ IsV v t)) ∧ Below w.heap.size w w' := ⟨_, rfl⟩
 have HPO : Hid (∀ (r : Bool) w', (r = true ↔ IsV vv tv) → Below w1.heap.size w1 w' → PO (.returned (.bool r)) w') := Lib.hid fun r w' h1 h2 => by rw [hPO]; exact ⟨⟨r, rfl, by rw [← hvv, ← htv]; exact h1⟩, hb1.trans (h2.mono hb1.size)⟩
 rw [← hPO]
 obtain ⟨k, s, n, nm, ps⟩ := v
 obtain ⟨A, c, B, d, rfl, hN, hP⟩ := hv1.inv
 obtain ⟨k2, s2, n2, ps2, fs2, vs2⟩ := t
 obtain ⟨A2, c2, B2, d2, C2, e2, rfl, -, hL, -⟩ := hr1.inv
 simp only [cells6T] at hx hy HW1 ⊢
 have HX : Hid (∀ wx, Below w1.heap.size w1 wx → (wx.cell? ⟨g1, 0, none⟩ = some (.int .i64 k) ∧ wx.cell? ⟨g1, 1, none⟩ = some (.string s) ∧ wx.cell? ⟨g1, 2, none⟩ = some (.int .i64 n) ∧ wx.cell? ⟨g1, 3, none⟩ = some (.slice A nm.length c) ∧ wx.cell? ⟨g1, 4, none⟩ = some (.slice B ps.length d)) ∧ wx.cell? ⟨g2, 0, none⟩ = some (.int .i64 k2) ∧ wx.cell? ⟨g2, 1, none⟩ = some (.string s2) ∧ wx.cell? ⟨g2, 2, none⟩ = some (.int .i64 n2) ∧ wx.cell? ⟨g2, 3, none⟩ = some (.slice A2 ps2.length c2) ∧ wx.cell? ⟨g2, 4, none⟩ = some (.slice B2 fs2.length d2) ∧ wx.cell? ⟨g2, 5, none⟩ = some (.slice C2 vs2.length e2)) := Lib.hid fun wx h => ⟨cz5 (box_up h (Array.getElem?_eq_some_iff.1 hx).1 hx), cz6 (box_up h (Array.getElem?_eq_some_iff.1 hy).1 hy)⟩
 have HVV : Hid (vv.k = k ∧ vv.t = s ∧ vv.n = n ∧ vv.parts = ps) := Lib.hid (by rw [hvv]; exact ⟨rfl, rfl, rfl, rfl⟩)
 have HTV : Hid (tv.k = k2 ∧ tv.t = s2 ∧ tv.n = n2 ∧ tv.ps = ps2) := Lib.hid (by rw [htv]; exact ⟨rfl, rfl, rfl, rfl⟩)
 have HL : Hid (∀ wx, Below w1.heap.size w1 wx → ListT K wx ps2 A2 c2) := Lib.hid fun wx h => hL.later h
 have HP : Hid (∀ wx, Below w1.heap.size w1 wx → ListW2 wx ps B) := Lib.hid fun wx h => hP.later h
 have HLN : Hid (ps2.length ≤ 1000000000000000 ∧ ps.length ≤ 1000000000000000) := Lib.hid (by obtain ⟨_, _, r2, -⟩ := hL; exact ⟨r2.big, hP.1⟩)
 have HGP : Hid (∀ p ∈ ps2, GdT p ∧ noF p = true) := Lib.hid fun p hp => ⟨hgp p hp, hnp p hp⟩
 have HRV : Hid (∀ wx, Below w1.heap.size w1 wx → RepV wx vv [.int .i64 k, .string s, .int .i64 n, .slice A nm.length c, .slice B ps.length d]) := Lib.hid fun wx h => by rw [hvv]; exact hv1.later h
 replace HW1 := Lib.hid HW1
 replace HG1 := Lib.hid HG1
 replace HG2 := Lib.hid HG2
 have HI : Hid (IsV vv tv ↔ k = 11 ∧ ∀ (q : Nat) (p : Val) (r : Ty), ps[q]? = some p → ps2[0]? = some r → IsV p r) := Lib.hid (by
  obtain ⟨q, hq⟩ : ∃ q, ps2 = [q] := by
   have hk' : k2 = 11 := hk
   subst hk'
   exact form_11 hg.1
  rw [isv_arr (q := q) (by rw [htv]; exact hk) (by rw [HTV.out.2.2.2, hq]; rfl), HVV.out.1, HVV.out.2.2.2, hq]
  refine and_congr Iff.rfl ⟨fun h q2 p r h1 h2 => ?_, fun h p hp => ?_⟩
  ·have h3 : some q = some r := h2
   injection h3 with h3
   exact h3 ▸ h p (List.mem_of_getElem? h1)
  ·obtain ⟨j, hj, rfl⟩ := List.getElem_of_mem hp
   exact h j _ q (List.getElem?_eq_getElem hj) rfl)
 have hone : 0 < ps2.length := by
  have hk' : k2 = 11 := hk
  subst hk'
  obtain ⟨q, hq⟩ := form_11 hg.1
  rw [hq]; simp
 have HONE := Lib.hid hone
 have HIH : Hid (∀ p ∈ ps2, IsP p) := Lib.hid ih
 obtain rfl : k2 = 11 := hk
 clear ih hone hr hv hg hn hb1 hx hy hgp hnp hr1 hv1 hvv htv hPO hN hP hL
 go_enter Tryz.func17, Tryz.ntmps17
 go_upto_region 1 with fail
 rw [HW1.out, HG1.out, HG2.out]
 obtain ⟨⟨x0, x1, x2, x3, x4⟩, y0, y1, y2, y3, y4, y5⟩ := HX.out w1 (Below.refl _ _)
 by_cases hk : k = 11
 ·have tk : (k != 11) = false := by simp [hk]
  have HK := Lib.hid hk
  clear hk
  go_wp2_with fail
  clear x0 x1 x2 x3 x4 y0 y1 y2 y3 y4 y5
  go_loopw [5, 6] (fun a z wr => ∃ i : Nat, a = .int .i64 i ∧ i ≤ ps.length ∧ Below w1.heap.size w1 wr ∧ ∀ (q : Nat) (p : Val) (r : Ty), q < i → ps[q]? = some p → ps2[0]? = some r → IsV p r) (fun a _ _ => ps.length - (intOf a).toNat)
  case atStart => exact ⟨0, rfl, Nat.zero_le _, Below.refl _ _, fun q p r hq => absurd hq (by omega)⟩
  case round =>
   obtain ⟨i, rfl, hi, hb, hno⟩ := hrel
   have HB := Lib.hid hb
   have hln := HLN.out
   obtain ⟨⟨x0, x1, x2, x3, x4⟩, y0, y1, y2, y3, y4, y5⟩ := HX.out _ hb
   by_cases hin : i < ps.length
   ·have t1 : decide ((i : Int) < (ps.length : Int)) = true := by simp; omega
    have wr2 : wrap64 ((i : Int) + 1) = ((i + 1 : Nat) : Int) := wrap_one (by omega)
    have HM := Lib.hid (measI hin)
    have HIn : Hid (i + 1 ≤ ps.length) := Lib.hid hin
    have hin2 := HONE.out
    have hmem := List.getElem_mem hin2
    have eP : ps[i]? = some (ps[i]'hin) := List.getElem?_eq_getElem hin
    have eT : ps2[0]? = some (ps2[0]'hin2) := List.getElem?_eq_getElem hin2
    obtain ⟨tb, tq, hA, -, hat⟩ := (HL.out _ hb).at (Nat.lt_of_le_of_lt (Nat.zero_le _) hin2)
    subst hA
    obtain ⟨us, hus, hrt⟩ := hat 0 hin2
    obtain ⟨-, pb, po, hpA, hpat⟩ := HP.out _ hb
    have hpA2 := hpA (by omega)
    subst hpA2
    obtain ⟨es, hes, hrv⟩ := hpat i hin
    have KH := Lib.hid (HIH.out _ hmem K wr.drew (ps[i]'hin) us es (hrt.later (Below.refl _ _).drew) (hrv.later (Below.refl _ _).drew) (HGP.out _ hmem).1 (HGP.out _ hmem).2)
    have HE := Lib.hid (And.intro eP eT)
    have HNO := Lib.hid hno
    have i1 : (0 : Int) ≤ (i : Int) := by omega
    have i2 : (i : Int) < (ps.length : Int) := by omega
    have i3 : (0 : Int) < (ps2.length : Int) := by omega
    have i4 : 0 < ps2.length := hin2
    generalize ps2[0]'hin2 = tf at hrt KH HE
    generalize ps[i]'hin = pj at hrv KH HE
    obtain ⟨tfv, htfv⟩ : ∃ x, x = tf := ⟨_, rfl⟩
    obtain ⟨pjv, hpjv⟩ : ∃ x, x = pj := ⟨_, rfl⟩
    rw [← htfv, ← hpjv] at KH HE
    obtain ⟨k4, s4, n4, ps4, fs4, vs4⟩ := tf
    obtain ⟨A4, c4, B4, d4, C4, e4, rfl, -⟩ := hrt.inv
    obtain ⟨k3, s3, n3, nm3, ps3⟩ := pj
    obtain ⟨A3, c3, B3, d3, rfl, -, -⟩ := hrv.inv
    simp only [cells6T] at hus KH
    have HC : Hid (∀ wx, Below wr.heap.size wr wx → wx.cell? ⟨g1, 4, none⟩ = some (.slice (some ⟨pb, po, none⟩) ps.length d) ∧ wx.cell? ⟨g2, 3, none⟩ = some (.slice (some ⟨tb, tq, none⟩) ps2.length c2) ∧ (wx.cell? ⟨pb, po + i * 5, none⟩ = some (.int .i64 k3) ∧ wx.cell? ⟨pb, po + i * 5 + 1, none⟩ = some (.string s3) ∧ wx.cell? ⟨pb, po + i * 5 + 2, none⟩ = some (.int .i64 n3) ∧ wx.cell? ⟨pb, po + i * 5 + 3, none⟩ = some (.slice A3 nm3.length c3) ∧ wx.cell? ⟨pb, po + i * 5 + 4, none⟩ = some (.slice B3 ps3.length d3)) ∧ wx.cell? ⟨tb, tq, none⟩ = some (.int .i64 k4) ∧ wx.cell? ⟨tb, tq + 1, none⟩ = some (.string s4) ∧ wx.cell? ⟨tb, tq + 2, none⟩ = some (.int .i64 n4) ∧ wx.cell? ⟨tb, tq + 3, none⟩ = some (.slice A4 ps4.length c4) ∧ wx.cell? ⟨tb, tq + 4, none⟩ = some (.slice B4 fs4.length d4) ∧ wx.cell? ⟨tb, tq + 5, none⟩ = some (.slice C4 vs4.length e4)) := Lib.hid fun wx hx => ⟨cell_stays hx x4, cell_stays hx y3, ⟨cell_stays hx (hes 0 _ rfl), cell_stays hx (hes 1 _ rfl), cell_stays hx (hes 2 _ rfl), cell_stays hx (hes 3 _ rfl), cell_stays hx (hes 4 _ rfl)⟩, cell_stays hx (by have := hus 0 _ rfl; rwa [Nat.zero_mul, Nat.add_zero] at this), cell_stays hx (by have := hus 1 _ rfl; rwa [Nat.zero_mul, Nat.add_zero] at this), cell_stays hx (by have := hus 2 _ rfl; rwa [Nat.zero_mul, Nat.add_zero] at this), cell_stays hx (by have := hus 3 _ rfl; rwa [Nat.zero_mul, Nat.add_zero] at this), cell_stays hx (by have := hus 4 _ rfl; rwa [Nat.zero_mul, Nat.add_zero] at this), cell_stays hx (by have := hus 5 _ rfl; rwa [Nat.zero_mul, Nat.add_zero] at this)⟩
    have HBD : Hid (Below wr.heap.size wr wr.drew) := Lib.hid (Below.refl _ _).drew
    clear hi hb hno hln hmem hat hus hrt htfv hpjv hpA hpat hes hrv eP eT
    go_upto_region 25 with fail
    clear x0 x1 x2 x3 x4 y0 y1 y2 y3 y4 y5
    refine wp_region_held_drew (S := (fun w' => w'.cell? ⟨g1, 4, none⟩ = some (.slice (some ⟨pb, po, none⟩) ps.length d) ∧ w'.cell? ⟨g2, 3, none⟩ = some (.slice (some ⟨tb, tq, none⟩) ps2.length c2) ∧ (w'.cell? ⟨pb, po + i * 5, none⟩ = some (.int .i64 k3) ∧ w'.cell? ⟨pb, po + i * 5 + 1, none⟩ = some (.string s3) ∧ w'.cell? ⟨pb, po + i * 5 + 2, none⟩ = some (.int .i64 n3) ∧ w'.cell? ⟨pb, po + i * 5 + 3, none⟩ = some (.slice A3 nm3.length c3) ∧ w'.cell? ⟨pb, po + i * 5 + 4, none⟩ = some (.slice B3 ps3.length d3)) ∧ w'.cell? ⟨tb, tq, none⟩ = some (.int .i64 k4) ∧ w'.cell? ⟨tb, tq + 1, none⟩ = some (.string s4) ∧ w'.cell? ⟨tb, tq + 2, none⟩ = some (.int .i64 n4) ∧ w'.cell? ⟨tb, tq + 3, none⟩ = some (.slice A4 ps4.length c4) ∧ w'.cell? ⟨tb, tq + 4, none⟩ = some (.slice B4 fs4.length d4) ∧ w'.cell? ⟨tb, tq + 5, none⟩ = some (.slice C4 vs4.length e4))) (by kernel_rfl) (HC.out _ HBD.out) (fun hHeld => ?_)
    refine Plan.start [0, 1, 2, 3, 4, 5, 6, 7, 8, 9] ?_
    iterate 10 (refine Plan.tk (so rfl) hHeld ?_; try simp only [Act.put, pz1, pz2, pz3])
    refine Plan.done ?_
    refine wpAnyH_ready (rs := [10]) (by kernel_rfl) (by simp) ?_
    refine AllReadyH.cons (sd (some 89) rfl) (fun Kx hK => ?_) AllReadyH.nil
    go_simp
    refine KH.out.mono ?_
    rintro e5 w5 ⟨⟨r, rfl, hr5⟩, hb5⟩
    have HR5 := Lib.hid hr5
    have HB5 : Hid (Below wr.heap.size wr w5) := Lib.hid (HBD.out.trans (hb5.mono HBD.out.size))
    clear hr5 hb5 KH
    go_wp2_with fail
    refine hK.out _ _ (HC.out _ HB5.out) (fun hHeld => ?_)
    clear hK Kx
    try simp only [Act.put, List.setIfInBounds_toArray, List.set_cons_zero, List.set_cons_succ]
    refine Plan.start [11] ?_
    refine Plan.tk (so rfl) hHeld ?_
    try simp only [Act.put, pz1, pz2, pz3]
    refine Plan.done ?_
    refine wpAnyH_done (by kernel_rfl) ?_ _
    clear hHeld
    cases r with
    | false =>
     have HNF : Hid (¬ IsV vv tv) := Lib.hid fun h => absurd (HR5.out.2 ((HI.out.1 h).2 i pjv tfv HE.out.1 HE.out.2)) (by decide)
     go_wp2_with fail
     exact HPO.out _ _ (iff_of_false (by decide) HNF.out) (HB.out.trans (HB5.out.mono HB.out.size))
    | true =>
     have HNN : Hid (∀ (q : Nat) (p : Val) (r : Ty), q < i + 1 → ps[q]? = some p → ps2[0]? = some r → IsV p r) := Lib.hid fun q p r h1 h2 h3 => by
      rcases Nat.lt_or_eq_of_le (Nat.le_of_lt_succ h1) with h4 | h4
      ·exact HNO.out q p r h4 h2 h3
      ·subst h4
       rw [HE.out.1] at h2
       rw [HE.out.2] at h3
       injection h2 with h2
       injection h3 with h3
       have h5 := HR5.out.1 (by trivial)
       rw [h2, h3] at h5
       exact h5
     go_wp2_with fail
     refine ⟨⟨i + 1, by first | rfl | rw [wr2], HIn.out, HB.out.trans (HB5.out.mono HB.out.size), HNN.out⟩, ?_⟩
     first | exact HM.out | (rw [wr2]; exact HM.out)
   ·have t1 : decide ((i : Int) < (ps.length : Int)) = false := by simp; omega
    have HYY : Hid (IsV vv tv) := Lib.hid (HI.out.2 ⟨HK.out, fun q p r h1 h2 => hno q p r (by have := (List.getElem?_eq_some_iff.1 h1).1; omega) h1 h2⟩)
    clear hi hb hno hln
    go_wp2_with fail
    exact HPO.out _ _ (iff_of_true rfl HYY.out) HB.out
 ·have tk : (k != 11) = true := by simp [hk]
  have HNF : Hid (¬ IsV vv tv) := Lib.hid fun h => hk (HI.out.1 h).1
  clear hk
  go_wp2_with fail
  exact HPO.out _ _ (iff_of_false (by decide) HNF.out) (Below.refl _ _)
set_option maxRecDepth 100000 in
set_option maxHeartbeats 16000000 in
theorem is_tup {K : Nat → Prop} {w : World} {v : Val} {t : Ty} {cs ds : List Value} (hr : RepT K w t cs) (hv : RepV w v ds) (hg : GdT t) (hn : noF t = true) (hk : t.k = 12) (ih : ∀ p ∈ t.ps, IsP p) :
  Calls Tryz.prog 17 #[.agg ds.toArray, .agg cs.toArray] w fun e w' => (∃ r : Bool, e = .returned (.bool r) ∧ (r = true ↔ IsV v t)) ∧ Below w.heap.size w w' := by
 obtain ⟨w1, g1, g2, HW1, HG1, HG2, hb1, hx, hy⟩ := box_vt w ds cs
 have hgp := fun p hp => hg.part (p := p) hp
 have hnp := (noF_get hn).2.2.1
 have hr1 := hr.later hb1
 have hv1 := hv.later hb1
 obtain ⟨vv, hvv⟩ : ∃ x, x = v := ⟨_, rfl⟩
 obtain ⟨tv, htv⟩ : ∃ x, x = t := ⟨_, rfl⟩
 obtain ⟨PO, hPO⟩ : ∃ PO : Ending → World → Prop, PO = fun e w' => (∃ r : Bool, e = .returned (.bool r) ∧ (r = true ↔ IsV v t)) ∧ Below w.heap.size w w' := ⟨_, rfl⟩
 have HPO : Hid (∀ (r : Bool) w', (r = true ↔ IsV vv tv) → Below w1.heap.size w1 w' → PO (.returned (.bool r)) w') := Lib.hid fun r w' h1 h2 => by rw [hPO]; exact ⟨⟨r, rfl, by rw [← hvv, ← htv]; exact h1⟩, hb1.trans (h2.mono hb1.size)⟩
 rw [← hPO]
 obtain ⟨k, s, n, nm, ps⟩ := v
 obtain ⟨A, c, B, d, rfl, hN, hP⟩ := hv1.inv
 obtain ⟨k2, s2, n2, ps2, fs2, vs2⟩ := t
 obtain ⟨A2, c2, B2, d2, C2, e2, rfl, -, hL, -⟩ := hr1.inv
 simp only [cells6T] at hx hy HW1 ⊢
 have HX : Hid (∀ wx, Below w1.heap.size w1 wx → (wx.cell? ⟨g1, 0, none⟩ = some (.int .i64 k) ∧ wx.cell? ⟨g1, 1, none⟩ = some (.string s) ∧ wx.cell? ⟨g1, 2, none⟩ = some (.int .i64 n) ∧ wx.cell? ⟨g1, 3, none⟩ = some (.slice A nm.length c) ∧ wx.cell? ⟨g1, 4, none⟩ = some (.slice B ps.length d)) ∧ wx.cell? ⟨g2, 0, none⟩ = some (.int .i64 k2) ∧ wx.cell? ⟨g2, 1, none⟩ = some (.string s2) ∧ wx.cell? ⟨g2, 2, none⟩ = some (.int .i64 n2) ∧ wx.cell? ⟨g2, 3, none⟩ = some (.slice A2 ps2.length c2) ∧ wx.cell? ⟨g2, 4, none⟩ = some (.slice B2 fs2.length d2) ∧ wx.cell? ⟨g2, 5, none⟩ = some (.slice C2 vs2.length e2)) := Lib.hid fun wx h => ⟨cz5 (box_up h (Array.getElem?_eq_some_iff.1 hx).1 hx), cz6 (box_up h (Array.getElem?_eq_some_iff.1 hy).1 hy)⟩
 have HVV : Hid (vv.k = k ∧ vv.t = s ∧ vv.n = n ∧ vv.parts = ps) := Lib.hid (by rw [hvv]; exact ⟨rfl, rfl, rfl, rfl⟩)
 have HTV : Hid (tv.k = k2 ∧ tv.t = s2 ∧ tv.n = n2 ∧ tv.ps = ps2) := Lib.hid (by rw [htv]; exact ⟨rfl, rfl, rfl, rfl⟩)
 have HL : Hid (∀ wx, Below w1.heap.size w1 wx → ListT K wx ps2 A2 c2) := Lib.hid fun wx h => hL.later h
 have HP : Hid (∀ wx, Below w1.heap.size w1 wx → ListW2 wx ps B) := Lib.hid fun wx h => hP.later h
 have HLN : Hid (ps2.length ≤ 1000000000000000 ∧ ps.length ≤ 1000000000000000) := Lib.hid (by obtain ⟨_, _, r2, -⟩ := hL; exact ⟨r2.big, hP.1⟩)
 have HGP : Hid (∀ p ∈ ps2, GdT p ∧ noF p = true) := Lib.hid fun p hp => ⟨hgp p hp, hnp p hp⟩
 have HRV : Hid (∀ wx, Below w1.heap.size w1 wx → RepV wx vv [.int .i64 k, .string s, .int .i64 n, .slice A nm.length c, .slice B ps.length d]) := Lib.hid fun wx h => by rw [hvv]; exact hv1.later h
 replace HW1 := Lib.hid HW1
 replace HG1 := Lib.hid HG1
 replace HG2 := Lib.hid HG2
 have HI : Hid (IsV vv tv ↔ k = 11 ∧ ps.length = ps2.length ∧ ∀ (q : Nat) (p : Val) (r : Ty), ps[q]? = some p → ps2[q]? = some r → IsV p r) := Lib.hid (by rw [isv_tup (by rw [htv]; exact hk), HVV.out.1, HVV.out.2.2.2, HTV.out.2.2.2])
 have HIH : Hid (∀ p ∈ ps2, IsP p) := Lib.hid ih
 obtain rfl : k2 = 12 := hk
 clear ih hr hv hg hn hb1 hx hy hgp hnp hr1 hv1 hvv htv hPO hN hP hL
 go_enter Tryz.func17, Tryz.ntmps17
 go_upto_region 1 with fail
 rw [HW1.out, HG1.out, HG2.out]
 obtain ⟨⟨x0, x1, x2, x3, x4⟩, y0, y1, y2, y3, y4, y5⟩ := HX.out w1 (Below.refl _ _)
 by_cases hk : k = 11
 ·have tk : (k != 11) = false := by simp [hk]
  have HK := Lib.hid hk
  clear hk
  by_cases hll : ps.length = ps2.length
  ·have tl : ((ps.length : Int) != (ps2.length : Int)) = false := by simp; omega
   have tl2 : (ps.length != ps2.length) = false := by simp [hll]
   have HLL := Lib.hid hll
   clear hll
   go_wp2_with fail
   clear x0 x1 x2 x3 x4 y0 y1 y2 y3 y4 y5
   go_loopw [5, 6] (fun a z wr => ∃ i : Nat, a = .int .i64 i ∧ i ≤ ps.length ∧ Below w1.heap.size w1 wr ∧ ∀ (q : Nat) (p : Val) (r : Ty), q < i → ps[q]? = some p → ps2[q]? = some r → IsV p r) (fun a _ _ => ps.length - (intOf a).toNat)
   case atStart => exact ⟨0, rfl, Nat.zero_le _, Below.refl _ _, fun q p r hq => absurd hq (by omega)⟩
   case round =>
    obtain ⟨i, rfl, hi, hb, hno⟩ := hrel
    have HB := Lib.hid hb
    have hln := HLN.out
    obtain ⟨⟨x0, x1, x2, x3, x4⟩, y0, y1, y2, y3, y4, y5⟩ := HX.out _ hb
    by_cases hin : i < ps.length
    ·have t1 : decide ((i : Int) < (ps.length : Int)) = true := by simp; omega
     have wr2 : wrap64 ((i : Int) + 1) = ((i + 1 : Nat) : Int) := wrap_one (by omega)
     have HM := Lib.hid (measI hin)
     have HIn : Hid (i + 1 ≤ ps.length) := Lib.hid hin
     have hin2 := (Nat.lt_of_lt_of_eq hin HLL.out)
     have hmem := List.getElem_mem hin2
     have eP : ps[i]? = some (ps[i]'hin) := List.getElem?_eq_getElem hin
     have eT : ps2[i]? = some (ps2[i]'hin2) := List.getElem?_eq_getElem hin2
     obtain ⟨tb, tq, hA, -, hat⟩ := (HL.out _ hb).at (Nat.lt_of_le_of_lt (Nat.zero_le _) hin2)
     subst hA
     obtain ⟨us, hus, hrt⟩ := hat i hin2
     obtain ⟨-, pb, po, hpA, hpat⟩ := HP.out _ hb
     have hpA2 := hpA (by omega)
     subst hpA2
     obtain ⟨es, hes, hrv⟩ := hpat i hin
     have KH := Lib.hid (HIH.out _ hmem K wr.drew (ps[i]'hin) us es (hrt.later (Below.refl _ _).drew) (hrv.later (Below.refl _ _).drew) (HGP.out _ hmem).1 (HGP.out _ hmem).2)
     have HE := Lib.hid (And.intro eP eT)
     have HNO := Lib.hid hno
     have i1 : (0 : Int) ≤ (i : Int) := by omega
     have i2 : (i : Int) < (ps.length : Int) := by omega
     have i3 : ((i : Int) : Int) < (ps2.length : Int) := by omega
     have i4 : i < ps2.length := hin2
     generalize ps2[i]'hin2 = tf at hrt KH HE
     generalize ps[i]'hin = pj at hrv KH HE
     obtain ⟨tfv, htfv⟩ : ∃ x, x = tf := ⟨_, rfl⟩
     obtain ⟨pjv, hpjv⟩ : ∃ x, x = pj := ⟨_, rfl⟩
     rw [← htfv, ← hpjv] at KH HE
     obtain ⟨k4, s4, n4, ps4, fs4, vs4⟩ := tf
     obtain ⟨A4, c4, B4, d4, C4, e4, rfl, -⟩ := hrt.inv
     obtain ⟨k3, s3, n3, nm3, ps3⟩ := pj
     obtain ⟨A3, c3, B3, d3, rfl, -, -⟩ := hrv.inv
     simp only [cells6T] at hus KH
     have HC : Hid (∀ wx, Below wr.heap.size wr wx → wx.cell? ⟨g1, 4, none⟩ = some (.slice (some ⟨pb, po, none⟩) ps.length d) ∧ wx.cell? ⟨g2, 3, none⟩ = some (.slice (some ⟨tb, tq, none⟩) ps2.length c2) ∧ (wx.cell? ⟨pb, po + i * 5, none⟩ = some (.int .i64 k3) ∧ wx.cell? ⟨pb, po + i * 5 + 1, none⟩ = some (.string s3) ∧ wx.cell? ⟨pb, po + i * 5 + 2, none⟩ = some (.int .i64 n3) ∧ wx.cell? ⟨pb, po + i * 5 + 3, none⟩ = some (.slice A3 nm3.length c3) ∧ wx.cell? ⟨pb, po + i * 5 + 4, none⟩ = some (.slice B3 ps3.length d3)) ∧ wx.cell? ⟨tb, tq + i * 6, none⟩ = some (.int .i64 k4) ∧ wx.cell? ⟨tb, tq + i * 6 + 1, none⟩ = some (.string s4) ∧ wx.cell? ⟨tb, tq + i * 6 + 2, none⟩ = some (.int .i64 n4) ∧ wx.cell? ⟨tb, tq + i * 6 + 3, none⟩ = some (.slice A4 ps4.length c4) ∧ wx.cell? ⟨tb, tq + i * 6 + 4, none⟩ = some (.slice B4 fs4.length d4) ∧ wx.cell? ⟨tb, tq + i * 6 + 5, none⟩ = some (.slice C4 vs4.length e4)) := Lib.hid fun wx hx => ⟨cell_stays hx x4, cell_stays hx y3, ⟨cell_stays hx (hes 0 _ rfl), cell_stays hx (hes 1 _ rfl), cell_stays hx (hes 2 _ rfl), cell_stays hx (hes 3 _ rfl), cell_stays hx (hes 4 _ rfl)⟩, cell_stays hx (hus 0 _ rfl), cell_stays hx (hus 1 _ rfl), cell_stays hx (hus 2 _ rfl), cell_stays hx (hus 3 _ rfl), cell_stays hx (hus 4 _ rfl), cell_stays hx (hus 5 _ rfl)⟩
     have HBD : Hid (Below wr.heap.size wr wr.drew) := Lib.hid (Below.refl _ _).drew
     clear hi hb hno hln hmem hat hus hrt htfv hpjv hpA hpat hes hrv eP eT
     go_upto_region 25 with fail
     clear x0 x1 x2 x3 x4 y0 y1 y2 y3 y4 y5
     refine wp_region_held_drew (S := (fun w' => w'.cell? ⟨g1, 4, none⟩ = some (.slice (some ⟨pb, po, none⟩) ps.length d) ∧ w'.cell? ⟨g2, 3, none⟩ = some (.slice (some ⟨tb, tq, none⟩) ps2.length c2) ∧ (w'.cell? ⟨pb, po + i * 5, none⟩ = some (.int .i64 k3) ∧ w'.cell? ⟨pb, po + i * 5 + 1, none⟩ = some (.string s3) ∧ w'.cell? ⟨pb, po + i * 5 + 2, none⟩ = some (.int .i64 n3) ∧ w'.cell? ⟨pb, po + i * 5 + 3, none⟩ = some (.slice A3 nm3.length c3) ∧ w'.cell? ⟨pb, po + i * 5 + 4, none⟩ = some (.slice B3 ps3.length d3)) ∧ w'.cell? ⟨tb, tq + i * 6, none⟩ = some (.int .i64 k4) ∧ w'.cell? ⟨tb, tq + i * 6 + 1, none⟩ = some (.string s4) ∧ w'.cell? ⟨tb, tq + i * 6 + 2, none⟩ = some (.int .i64 n4) ∧ w'.cell? ⟨tb, tq + i * 6 + 3, none⟩ = some (.slice A4 ps4.length c4) ∧ w'.cell? ⟨tb, tq + i * 6 + 4, none⟩ = some (.slice B4 fs4.length d4) ∧ w'.cell? ⟨tb, tq + i * 6 + 5, none⟩ = some (.slice C4 vs4.length e4))) (by kernel_rfl) (HC.out _ HBD.out) (fun hHeld => ?_)
     refine Plan.start [0, 1, 2, 3, 4, 5, 6, 7, 8, 9] ?_
     iterate 10 (refine Plan.tk (so rfl) hHeld ?_; try simp only [Act.put, pz1, pz2, pz3])
     refine Plan.done ?_
     refine wpAnyH_ready (rs := [10]) (by kernel_rfl) (by simp) ?_
     refine AllReadyH.cons (sd (some 89) rfl) (fun Kx hK => ?_) AllReadyH.nil
     go_simp
     refine KH.out.mono ?_
     rintro e5 w5 ⟨⟨r, rfl, hr5⟩, hb5⟩
     have HR5 := Lib.hid hr5
     have HB5 : Hid (Below wr.heap.size wr w5) := Lib.hid (HBD.out.trans (hb5.mono HBD.out.size))
     clear hr5 hb5 KH
     go_wp2_with fail
     refine hK.out _ _ (HC.out _ HB5.out) (fun hHeld => ?_)
     clear hK Kx
     try simp only [Act.put, List.setIfInBounds_toArray, List.set_cons_zero, List.set_cons_succ]
     refine Plan.start [11] ?_
     refine Plan.tk (so rfl) hHeld ?_
     try simp only [Act.put, pz1, pz2, pz3]
     refine Plan.done ?_
     refine wpAnyH_done (by kernel_rfl) ?_ _
     clear hHeld
     cases r with
     | false =>
      have HNF : Hid (¬ IsV vv tv) := Lib.hid fun h => absurd (HR5.out.2 ((HI.out.1 h).2.2 i pjv tfv HE.out.1 HE.out.2)) (by decide)
      go_wp2_with fail
      exact HPO.out _ _ (iff_of_false (by decide) HNF.out) (HB.out.trans (HB5.out.mono HB.out.size))
     | true =>
      have HNN : Hid (∀ (q : Nat) (p : Val) (r : Ty), q < i + 1 → ps[q]? = some p → ps2[q]? = some r → IsV p r) := Lib.hid fun q p r h1 h2 h3 => by
       rcases Nat.lt_or_eq_of_le (Nat.le_of_lt_succ h1) with h4 | h4
       ·exact HNO.out q p r h4 h2 h3
       ·subst h4
        rw [HE.out.1] at h2
        rw [HE.out.2] at h3
        injection h2 with h2
        injection h3 with h3
        have h5 := HR5.out.1 (by trivial)
        rw [h2, h3] at h5
        exact h5
      go_wp2_with fail
      refine ⟨⟨i + 1, by first | rfl | rw [wr2], HIn.out, HB.out.trans (HB5.out.mono HB.out.size), HNN.out⟩, ?_⟩
      first | exact HM.out | (rw [wr2]; exact HM.out)
    ·have t1 : decide ((i : Int) < (ps.length : Int)) = false := by simp; omega
     have HYY : Hid (IsV vv tv) := Lib.hid (HI.out.2 ⟨HK.out, HLL.out, fun q p r h1 h2 => hno q p r (by have := (List.getElem?_eq_some_iff.1 h1).1; omega) h1 h2⟩)
     clear hi hb hno hln
     go_wp2_with fail
     exact HPO.out _ _ (iff_of_true rfl HYY.out) HB.out
  ·have tl : ((ps.length : Int) != (ps2.length : Int)) = true := by simp; omega
   have tl2 : (ps.length != ps2.length) = true := by simp [hll]
   have HNF : Hid (¬ IsV vv tv) := Lib.hid fun h => hll (HI.out.1 h).2.1
   clear hll
   go_wp2_with fail
   exact HPO.out _ _ (iff_of_false (by decide) HNF.out) (Below.refl _ _)
 ·have tk : (k != 11) = true := by simp [hk]
  have HNF : Hid (¬ IsV vv tv) := Lib.hid fun h => hk (HI.out.1 h).1
  clear hk
  go_wp2_with fail
  exact HPO.out _ _ (iff_of_false (by decide) HNF.out) (Below.refl _ _)
end Go.Proofs.YtgjblmlibhppiaaGreatDoor
