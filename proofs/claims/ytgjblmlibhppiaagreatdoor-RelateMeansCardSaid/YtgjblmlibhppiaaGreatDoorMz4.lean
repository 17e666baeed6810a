import Derived.Test.YtgjblmlibhppiaaGreatDoorMz2
import Derived.Test.YtgjblmlibhppiaaGreatDoorMz3
namespace Go.Proofs.YtgjblmlibhppiaaGreatDoor
open Go.RowKit
theorem box_vt (w : World) (vs cs : List Value) : ∃ (w1 : World) (g1 g2 : Nat), (w.alloc (.cells vs.toArray 41)).alloc (.cells cs.toArray 26) = w1 ∧ w.heap.size = g1 ∧ g1 + 1 = g2 ∧ Below w.heap.size w w1 ∧ w1.heap[g1]? = some (.cells vs.toArray 41 (0, 0)) ∧ w1.heap[g2]? = some (.cells cs.toArray 26 (0, 0)) := by
 refine ⟨_, _, _, rfl, rfl, rfl, ((Below.refl _ _).alloc (Nat.le_refl _) _).alloc (by simp) _, ?_, ?_⟩
 ·rw [Below.heap_alloc _ _ _ (by simp)]
  exact heap_alloc_new w _
 ·have h := heap_alloc_new (w.alloc (.cells vs.toArray 41)) (.cells cs.toArray 26)
  rw [World.size_alloc] at h
  exact h
def IsP (t : Ty) : Prop := ∀ (K : Nat → Prop) (w : World) (v : Val) (cs ds : List Value), RepT K w t cs → RepV w v ds → GdT t → noF t = true → Calls Tryz.prog 17 #[.agg ds.toArray, .agg cs.toArray] w fun e w' => (∃ r : Bool, e = .returned (.bool r) ∧ (r = true ↔ IsV v t)) ∧ Below w.heap.size w w'
set_option maxRecDepth 100000 in
set_option maxHeartbeats 16000000 in
theorem fields_15 {K : Nat → Prop} {w : World} {v : Val} {t : Ty} {cs ds : List Value} (hr : RepT K w t cs) (hv : RepV w v ds) (hg : GdT t) (hk : t.k = 14) (hn : noF t = true) (ih : ∀ f ∈ t.fs, IsP f.2.2) :
  Calls Tryz.prog 33 #[.agg ds.toArray, .agg cs.toArray] w fun e w' => (∃ r : Bool, e = .returned (.bool r) ∧ (r = true ↔ ∀ f ∈ t.fs, FldOne v f)) ∧ Below w.heap.size w w' := by
 obtain ⟨w1, g1, g2, HW1, HG1, HG2, hb1, hx, hy⟩ := box_vt w ds cs
 have hfl := field_flags hg.1 hk
 have hgf := fun f hf => hg.field (f := f) hf
 have hnf := (noF_get hn).2.2.2
 obtain ⟨vv, hvv⟩ : ∃ x, x = v := ⟨_, rfl⟩
 rw [← hvv]
 obtain ⟨k, s, n, nm, ps⟩ := v
 obtain ⟨A, c, B, d, rfl, hN, hP⟩ := hv.inv
 obtain ⟨k2, s2, n2, ps2, fs2, vs2⟩ := t
 obtain ⟨A2, c2, B2, d2, C2, e2, rfl, -, -, hF, -⟩ := hr.inv
 simp only [cells6T] at hx hy HW1 ⊢
 have HX : Hid (∀ wx, Below w1.heap.size w1 wx → wx.cell? ⟨g1, 3, none⟩ = some (.slice A nm.length c) ∧ wx.cell? ⟨g1, 4, none⟩ = some (.slice B ps.length d) ∧ wx.cell? ⟨g2, 4, none⟩ = some (.slice B2 fs2.length d2)) := Lib.hid fun wx h => by
  have e1 := box_up h (Array.getElem?_eq_some_iff.1 hx).1 hx
  have e2 := box_up h (Array.getElem?_eq_some_iff.1 hy).1 hy
  exact ⟨Lib.cell_of_heap e1 3, Lib.cell_of_heap e1 4, Lib.cell_of_heap e2 4⟩
 have HF : Hid (∀ wx, Below w1.heap.size w1 wx → ListF K wx fs2 B2 d2) := Lib.hid fun wx h => (hF.later hb1).later h
 have HN : Hid (∀ wx, Below w1.heap.size w1 wx → ListN2 wx nm A) := Lib.hid fun wx h => (hN.later hb1).later h
 have HP : Hid (∀ wx, Below w1.heap.size w1 wx → ListW2 wx ps B) := Lib.hid fun wx h => (hP.later hb1).later h
 have HL : Hid (fs2.length ≤ 1000000000000000 ∧ nm.length ≤ 1000000000000000 ∧ ps.length ≤ 1000000000000000) := Lib.hid (by obtain ⟨_, _, r2, -⟩ := hF; exact ⟨r2.big, hN.1, hP.1⟩)
 have HFL : Hid (∀ f ∈ fs2, 0 ≤ f.2.1 ∧ f.2.1 ≤ 3) := Lib.hid hfl
 have HGF : Hid (∀ f ∈ fs2, GdT f.2.2) := Lib.hid hgf
 have HNF : Hid (∀ f ∈ fs2, noF f.2.2 = true) := Lib.hid hnf
 have HIH : Hid (∀ f ∈ fs2, IsP f.2.2) := Lib.hid ih
 have HV : Hid (vv.names = nm ∧ vv.parts = ps) := Lib.hid (by rw [hvv]; exact ⟨rfl, rfl⟩)
 have HB1 := Lib.hid hb1
 replace HW1 := Lib.hid HW1
 replace HG1 := Lib.hid HG1
 replace HG2 := Lib.hid HG2
 obtain ⟨PO, hPO⟩ : ∃ PO : Ending → World → Prop, PO = fun e w' => (∃ r : Bool, e = .returned (.bool r) ∧ (r = true ↔ ∀ f ∈ fs2, FldOne vv f)) ∧ Below w.heap.size w w' := ⟨_, rfl⟩
 have HPO : Hid (∀ (r : Bool) w', (r = true ↔ ∀ f ∈ fs2, FldOne vv f) → Below w1.heap.size w1 w' → PO (.returned (.bool r)) w') := Lib.hid fun r w' h1 h2 => by rw [hPO]; exact ⟨⟨r, rfl, h1⟩, hb1.trans (h2.mono hb1.size)⟩
 show Calls _ _ _ _ fun e w' => (∃ r : Bool, e = .returned (.bool r) ∧ (r = true ↔ ∀ f ∈ fs2, FldOne vv f)) ∧ Below w.heap.size w w'
 rw [← hPO]
 clear hr hv hg hk hn ih hb1 hx hy hfl hgf hnf hvv hN hP hF hPO
 go_enter Tryz.func33, Tryz.ntmps33
 go_upto_region 1 with fail
 rw [HW1.out, HG1.out, HG2.out]
 go_wp2_with fail
 go_loopw [5, 6, 7] (fun a b z wr => ∃ i : Nat, a = .int .i64 i ∧ i ≤ fs2.length ∧ Below w1.heap.size w1 wr ∧ ∀ f ∈ fs2.take i, FldOne vv f) (fun a _ _ _ => fs2.length - (intOf a).toNat)
 case atStart => exact ⟨0, rfl, Nat.zero_le _, Below.refl _ _, fun f hf => absurd hf (by simp)⟩
 case round =>
  obtain ⟨i, rfl, hi, hb, hno⟩ := hrel
  have HB := Lib.hid hb
  have hln := HL.out
  obtain ⟨x3, x4, y4⟩ := HX.out _ hb
  by_cases hin : i < fs2.length
  ·have t1 : decide ((i : Int) < (fs2.length : Int)) = true := by simp; omega
   have wr2 : wrap64 ((i : Int) + 1) = ((i + 1 : Nat) : Int) := wrap_one (by omega)
   have HM := Lib.hid (measI hin)
   have HIn : Hid (i + 1 ≤ fs2.length) := Lib.hid hin
   have hmem := List.getElem_mem hin
   have HNX : Hid (FldOne vv (fs2[i]'hin) → ∀ f ∈ fs2.take (i + 1), FldOne vv f) := Lib.hid fun h => mem_take_next hin hno h
   have HST : Hid (¬ FldOne vv (fs2[i]'hin) → ¬ ∀ f ∈ fs2, FldOne vv f) := Lib.hid fun h hall => h (hall _ hmem)
   have HFF := Lib.hid (HFL.out _ hmem)
   have HIF := Lib.hid (And.intro (HIH.out _ hmem) (And.intro (HGF.out _ hmem) (HNF.out _ hmem)))
   have HAT : Hid (∃ tb tq, B2 = some ⟨tb, tq, none⟩ ∧ ∀ wx, Below w1.heap.size w1 wx → wx.cell? ⟨tb, tq + i * 8, none⟩ = some (.string (fs2[i]'hin).1) ∧ wx.cell? ⟨tb, tq + i * 8 + 1, none⟩ = some (.int .i64 (fs2[i]'hin).2.1) ∧ AtT K wx (fs2[i]'hin).2.2 tb (tq + i * 8 + 2)) := Lib.hid (by
    obtain ⟨tb, tq, hA, -, -⟩ := (HF.out _ (Below.refl _ _)).at (Nat.lt_of_le_of_lt (Nat.zero_le i) hin)
    refine ⟨tb, tq, hA, fun wx hwx => ?_⟩
    obtain ⟨tb', tq', hA', -, hat⟩ := (HF.out wx hwx).at (Nat.lt_of_le_of_lt (Nat.zero_le i) hin)
    rw [hA] at hA'
    injection hA' with hA'
    injection hA' with q1 q2 _
    subst q1
    subst q2
    obtain ⟨h1, h2, -, h4⟩ := hat i hin
    exact ⟨h1, h2, h4⟩)
   obtain ⟨tb, tq, hA, hAT⟩ := HAT.out
   have HAT2 := Lib.hid hAT
   subst hA
   have i1 : (0 : Int) ≤ (i : Int) := by omega
   have i2 : (i : Int) < (fs2.length : Int) := by omega
   clear HAT
   generalize fs2[i]'hin = fi at HNX HST HFF HIF HAT2
   obtain ⟨nf, ff, tf⟩ := fi
   dsimp only at HFF HIF HAT2
   clear hi hb hno hln hmem hAT
   go_wp2_with fail
   clear t1 x3 x4 y4
   obtain ⟨wi, hwi⟩ : ∃ x : World, x = wr := ⟨_, rfl⟩
   have HBI : Hid (Below w1.heap.size w1 wi) := Lib.hid (by rw [hwi]; exact HB.out)
   rw [← hwi]
   clear HB hwi
   go_loopw [6, 7] (fun b z wj => ∃ (th : Bool) (j : Nat), b = .bool th ∧ z = .int .i64 j ∧ j ≤ nm.length ∧ j ≤ ps.length ∧ Below w1.heap.size w1 wj ∧ (th = true ↔ ∃ q, q < j ∧ nm[q]? = some nf) ∧ ∀ (q : Nat) (p : Val), q < j → nm[q]? = some nf → ps[q]? = some p → IsV p tf) (fun _ z _ => nm.length - (intOf z).toNat)
   case atStart => exact ⟨false, 0, rfl, rfl, Nat.zero_le _, Nat.zero_le _, HBI.out, iff_of_false (by decide) (fun ⟨q, hq, _⟩ => absurd hq (by omega)), fun q p hq => absurd hq (by omega)⟩
   case round =>
    obtain ⟨th, j, rfl, rfl, hj1, hj2, hb, hth, hall⟩ := hrel
    have HB := Lib.hid hb
    have hln := HL.out
    obtain ⟨x3, x4, y4⟩ := HX.out _ hb
    by_cases hjn : j < nm.length ∧ j < ps.length
    ·obtain ⟨hj3, hj4⟩ := hjn
     have t2 : decide ((j : Int) < (nm.length : Int)) = true := by simp; omega
     have t3 : decide ((j : Int) < (ps.length : Int)) = true := by simp; omega
     have wr3 : wrap64 ((j : Int) + 1) = ((j + 1 : Nat) : Int) := wrap_one (by omega)
     have HM2 := Lib.hid (measI hj3)
     have HJn : Hid (j + 1 ≤ nm.length ∧ j + 1 ≤ ps.length) := Lib.hid ⟨hj3, hj4⟩
     obtain ⟨-, nb, no, hnA, hnat⟩ := HN.out _ hb
     obtain ⟨-, pb, po, hpA, hpat⟩ := HP.out _ hb
     have hnA2 := hnA (by omega)
     subst hnA2
     have hpA2 := hpA (by omega)
     subst hpA2
     have hnj := hnat j hj3
     obtain ⟨es, hes, hrv⟩ := hpat j hj4
     obtain ⟨h0, h1, us, hus, hrt⟩ := HAT2.out _ hb
     have eN : nm[j]? = some (nm[j]'hj3) := List.getElem?_eq_getElem hj3
     have eP : ps[j]? = some (ps[j]'hj4) := List.getElem?_eq_getElem hj4
     have HEN := Lib.hid (And.intro eN eP)
     have KH := Lib.hid (HIF.out.1 K wr.drew.drew (ps[j]'hj4) us es (hrt.later (Below.refl _ _).drew.drew) (hrv.later (Below.refl _ _).drew.drew) HIF.out.2.1 HIF.out.2.2)
     have i3 : (0 : Int) ≤ (j : Int) := by omega
     have i4 : (j : Int) < (nm.length : Int) := by omega
     have i5 : (j : Int) < (ps.length : Int) := by omega
     generalize nm[j]'hj3 = nj at hnj HEN
     generalize ps[j]'hj4 = pj at hrv KH HEN
     have HTH := Lib.hid (And.intro hth hall)
     obtain ⟨pjv, hpjv⟩ : ∃ x, x = pj := ⟨_, rfl⟩
     rw [← hpjv] at KH HEN
     obtain ⟨tfv, htfv⟩ : ∃ x, x = tf := ⟨_, rfl⟩
     rw [← htfv] at KH
     obtain ⟨k3, s3, n3, nm3, ps3⟩ := pj
     obtain ⟨A3, c3, B3, d3, rfl, -, -⟩ := hrv.inv
     obtain ⟨k4, s4, n4, ps4, fs4, vs4⟩ := tf
     obtain ⟨A4, c4, B4, d4, C4, e4, rfl, -⟩ := hrt.inv
     simp only [cells6T] at hus KH
     have HC : Hid (∀ wx, Below wr.heap.size wr wx → wx.cell? ⟨g1, 3, none⟩ = some (.slice (some ⟨nb, no, none⟩) nm.length c) ∧ wx.cell? ⟨g1, 4, none⟩ = some (.slice (some ⟨pb, po, none⟩) ps.length d) ∧ wx.cell? ⟨g2, 4, none⟩ = some (.slice (some ⟨tb, tq, none⟩) fs2.length d2) ∧ wx.cell? ⟨nb, no + j, none⟩ = some (.string nj) ∧ wx.cell? ⟨tb, tq + i * 8, none⟩ = some (.string nf) ∧ (wx.cell? ⟨pb, po + j * 5, none⟩ = some (.int .i64 k3) ∧ wx.cell? ⟨pb, po + j * 5 + 1, none⟩ = some (.string s3) ∧ wx.cell? ⟨pb, po + j * 5 + 2, none⟩ = some (.int .i64 n3) ∧ wx.cell? ⟨pb, po + j * 5 + 3, none⟩ = some (.slice A3 nm3.length c3) ∧ wx.cell? ⟨pb, po + j * 5 + 4, none⟩ = some (.slice B3 ps3.length d3)) ∧ wx.cell? ⟨tb, tq + i * 8 + 2, none⟩ = some (.int .i64 k4) ∧ wx.cell? ⟨tb, tq + i * 8 + 2 + 1, none⟩ = some (.string s4) ∧ wx.cell? ⟨tb, tq + i * 8 + 2 + 2, none⟩ = some (.int .i64 n4) ∧ wx.cell? ⟨tb, tq + i * 8 + 2 + 3, none⟩ = some (.slice A4 ps4.length c4) ∧ wx.cell? ⟨tb, tq + i * 8 + 2 + 4, none⟩ = some (.slice B4 fs4.length d4) ∧ wx.cell? ⟨tb, tq + i * 8 + 2 + 5, none⟩ = some (.slice C4 vs4.length e4)) := Lib.hid fun wx hx => ⟨cell_stays hx x3, cell_stays hx x4, cell_stays hx y4, cell_stays hx hnj, cell_stays hx h0, ⟨cell_stays hx (hes 0 _ rfl), cell_stays hx (hes 1 _ rfl), cell_stays hx (hes 2 _ rfl), cell_stays hx (hes 3 _ rfl), cell_stays hx (hes 4 _ rfl)⟩, cell_stays hx (hus 0 _ rfl), cell_stays hx (hus 1 _ rfl), cell_stays hx (hus 2 _ rfl), cell_stays hx (hus 3 _ rfl), cell_stays hx (hus 4 _ rfl), cell_stays hx (hus 5 _ rfl)⟩
     have HTF := Lib.hid htfv
     have HBD : Hid (Below wr.heap.size wr wr.drew) := Lib.hid (Below.refl _ _).drew
     have HBDD : Hid (Below wr.heap.size wr wr.drew.drew) := Lib.hid (Below.refl _ _).drew.drew
     clear hj1 hj2 hb hth hall hln hnA hnat hpA hpat hnj hes hrv h0 h1 hus hrt eN eP htfv hpjv
     go_upto_region 8 with fail
     clear x3 x4 y4
     by_cases hq : nj = nf
     ·have te : (nj.toList == nf.toList) = true := by rw [hq]; simp
      have HQ := Lib.hid hq
      clear hq
      refine wp_region_held_drew (S := (fun w' => w'.cell? ⟨g1, 3, none⟩ = some (.slice (some ⟨nb, no, none⟩) nm.length c) ∧ w'.cell? ⟨g1, 4, none⟩ = some (.slice (some ⟨pb, po, none⟩) ps.length d) ∧ w'.cell? ⟨g2, 4, none⟩ = some (.slice (some ⟨tb, tq, none⟩) fs2.length d2) ∧ w'.cell? ⟨nb, no + j, none⟩ = some (.string nj) ∧ w'.cell? ⟨tb, tq + i * 8, none⟩ = some (.string nf) ∧ (w'.cell? ⟨pb, po + j * 5, none⟩ = some (.int .i64 k3) ∧ w'.cell? ⟨pb, po + j * 5 + 1, none⟩ = some (.string s3) ∧ w'.cell? ⟨pb, po + j * 5 + 2, none⟩ = some (.int .i64 n3) ∧ w'.cell? ⟨pb, po + j * 5 + 3, none⟩ = some (.slice A3 nm3.length c3) ∧ w'.cell? ⟨pb, po + j * 5 + 4, none⟩ = some (.slice B3 ps3.length d3)) ∧ w'.cell? ⟨tb, tq + i * 8 + 2, none⟩ = some (.int .i64 k4) ∧ w'.cell? ⟨tb, tq + i * 8 + 2 + 1, none⟩ = some (.string s4) ∧ w'.cell? ⟨tb, tq + i * 8 + 2 + 2, none⟩ = some (.int .i64 n4) ∧ w'.cell? ⟨tb, tq + i * 8 + 2 + 3, none⟩ = some (.slice A4 ps4.length c4) ∧ w'.cell? ⟨tb, tq + i * 8 + 2 + 4, none⟩ = some (.slice B4 fs4.length d4) ∧ w'.cell? ⟨tb, tq + i * 8 + 2 + 5, none⟩ = some (.slice C4 vs4.length e4))) (by kernel_rfl) (HC.out _ HBD.out) (fun hHeld => ?_)
      refine Plan.start [0, 1, 2, 3, 4, 5, 6, 7, 8, 9, 10, 11] ?_
      iterate 12 (refine Plan.tk (so rfl) hHeld ?_; try simp only [Act.put, pz1, pz2, pz3])
      refine Plan.done ?_
      refine wpAnyH_done (by kernel_rfl) ?_ _
      clear hHeld
      go_upto_region 10 with fail
      refine wp_region_held_drew (S := (fun w' => w'.cell? ⟨g1, 3, none⟩ = some (.slice (some ⟨nb, no, none⟩) nm.length c) ∧ w'.cell? ⟨g1, 4, none⟩ = some (.slice (some ⟨pb, po, none⟩) ps.length d) ∧ w'.cell? ⟨g2, 4, none⟩ = some (.slice (some ⟨tb, tq, none⟩) fs2.length d2) ∧ w'.cell? ⟨nb, no + j, none⟩ = some (.string nj) ∧ w'.cell? ⟨tb, tq + i * 8, none⟩ = some (.string nf) ∧ (w'.cell? ⟨pb, po + j * 5, none⟩ = some (.int .i64 k3) ∧ w'.cell? ⟨pb, po + j * 5 + 1, none⟩ = some (.string s3) ∧ w'.cell? ⟨pb, po + j * 5 + 2, none⟩ = some (.int .i64 n3) ∧ w'.cell? ⟨pb, po + j * 5 + 3, none⟩ = some (.slice A3 nm3.length c3) ∧ w'.cell? ⟨pb, po + j * 5 + 4, none⟩ = some (.slice B3 ps3.length d3)) ∧ w'.cell? ⟨tb, tq + i * 8 + 2, none⟩ = some (.int .i64 k4) ∧ w'.cell? ⟨tb, tq + i * 8 + 2 + 1, none⟩ = some (.string s4) ∧ w'.cell? ⟨tb, tq + i * 8 + 2 + 2, none⟩ = some (.int .i64 n4) ∧ w'.cell? ⟨tb, tq + i * 8 + 2 + 3, none⟩ = some (.slice A4 ps4.length c4) ∧ w'.cell? ⟨tb, tq + i * 8 + 2 + 4, none⟩ = some (.slice B4 fs4.length d4) ∧ w'.cell? ⟨tb, tq + i * 8 + 2 + 5, none⟩ = some (.slice C4 vs4.length e4))) (by kernel_rfl) (HC.out _ HBDD.out) (fun hHeld => ?_)
      refine Plan.start [0, 1, 2, 3, 4, 5, 6, 7, 8, 9, 10] ?_
      iterate 11 (refine Plan.tk (so rfl) hHeld ?_; try simp only [Act.put, pz1, pz2, pz3])
      refine Plan.done ?_
      refine wpAnyH_ready (rs := [11]) (by kernel_rfl) (by simp) ?_
      refine AllReadyH.cons (sd (some 52) rfl) (fun Kx hK => ?_) AllReadyH.nil
      go_simp
      refine KH.out.mono ?_
      rintro e5 w5 ⟨⟨r, rfl, hr5⟩, hb5⟩
      have HR5 := Lib.hid hr5
      have HB5 : Hid (Below wr.heap.size wr w5) := Lib.hid (HBDD.out.trans (hb5.mono HBDD.out.size))
      clear hr5 hb5 KH
      go_wp2_with fail
      refine hK.out _ _ (HC.out _ HB5.out) (fun hHeld => ?_)
      clear hK Kx
      try simp only [Act.put, List.setIfInBounds_toArray, List.set_cons_zero, List.set_cons_succ]
      refine Plan.start [12] ?_
      refine Plan.tk (so rfl) hHeld ?_
      try simp only [Act.put, pz1, pz2, pz3]
      refine Plan.done ?_
      refine wpAnyH_done (by kernel_rfl) ?_ _
      clear hHeld
      cases r with
      | false =>
       have HNF : Hid (¬ FldOne vv (nf, ff, .mk k4 s4 n4 ps4 fs4 vs4)) := Lib.hid fun h => by
        have h2 := h.1 j pjv (by rw [HV.out.1, HEN.out.1, HQ.out]) (by rw [HV.out.2]; exact HEN.out.2)
        have h3 : IsV pjv tfv := by rw [HTF.out]; exact h2
        exact absurd (HR5.out.2 h3) (by decide)
       go_wp2_with fail
       exact HPO.out _ _ (iff_of_false (by decide) (HST.out HNF.out)) (HB.out.trans (HB5.out.mono HB.out.size))
      | true =>
       have HNT : Hid (∀ (q : Nat) (p : Val), q < j + 1 → nm[q]? = some nf → ps[q]? = some p → IsV p (.mk k4 s4 n4 ps4 fs4 vs4)) := Lib.hid fun q p h1 h2 h3 => by
        rcases Nat.lt_or_eq_of_le (Nat.le_of_lt_succ h1) with h4 | h4
        ·exact HTH.out.2 q p h4 h2 h3
        ·subst h4
         rw [HEN.out.2] at h3
         injection h3 with h3
         have h5 := HR5.out.1 (by trivial)
         rw [HTF.out] at h5
         exact h3 ▸ h5
       go_wp2_with fail
       refine ⟨⟨true, j + 1, rfl, by first | rfl | rw [wr3], HJn.out.1, HJn.out.2, HB.out.trans (HB5.out.mono HB.out.size), iff_of_true rfl ⟨j, by omega, by rw [HEN.out.1, HQ.out]⟩, HNT.out⟩, ?_⟩
       first | exact HM2.out | (rw [wr3]; exact HM2.out)
     ·have te : (nj.toList == nf.toList) = false := by rw [bytesEq]; exact decide_eq_false hq
      have HNT : Hid ((th = true ↔ ∃ q, q < j + 1 ∧ nm[q]? = some nf) ∧ ∀ (q : Nat) (p : Val), q < j + 1 → nm[q]? = some nf → ps[q]? = some p → IsV p tfv) := Lib.hid (by
       rw [← HTF.out] at HTH
       constructor
       ·rw [HTH.out.1]
        exact ⟨fun ⟨q, h1, h2⟩ => ⟨q, by omega, h2⟩, fun ⟨q, h1, h2⟩ => by
         rcases Nat.lt_or_eq_of_le (Nat.le_of_lt_succ h1) with h3 | h3
         ·exact ⟨q, h3, h2⟩
         ·subst h3; rw [HEN.out.1] at h2; injection h2 with h2; exact absurd h2 hq⟩
       ·intro q p h1 h2 h3
        rcases Nat.lt_or_eq_of_le (Nat.le_of_lt_succ h1) with h4 | h4
        ·exact HTH.out.2 q p h4 h2 h3
        ·subst h4; rw [HEN.out.1] at h2; injection h2 with h2; exact absurd h2 hq)
      rw [HTF.out] at HNT
      clear hq KH
      refine wp_region_held_drew (S := (fun w' => w'.cell? ⟨g1, 3, none⟩ = some (.slice (some ⟨nb, no, none⟩) nm.length c) ∧ w'.cell? ⟨g1, 4, none⟩ = some (.slice (some ⟨pb, po, none⟩) ps.length d) ∧ w'.cell? ⟨g2, 4, none⟩ = some (.slice (some ⟨tb, tq, none⟩) fs2.length d2) ∧ w'.cell? ⟨nb, no + j, none⟩ = some (.string nj) ∧ w'.cell? ⟨tb, tq + i * 8, none⟩ = some (.string nf) ∧ (w'.cell? ⟨pb, po + j * 5, none⟩ = some (.int .i64 k3) ∧ w'.cell? ⟨pb, po + j * 5 + 1, none⟩ = some (.string s3) ∧ w'.cell? ⟨pb, po + j * 5 + 2, none⟩ = some (.int .i64 n3) ∧ w'.cell? ⟨pb, po + j * 5 + 3, none⟩ = some (.slice A3 nm3.length c3) ∧ w'.cell? ⟨pb, po + j * 5 + 4, none⟩ = some (.slice B3 ps3.length d3)) ∧ w'.cell? ⟨tb, tq + i * 8 + 2, none⟩ = some (.int .i64 k4) ∧ w'.cell? ⟨tb, tq + i * 8 + 2 + 1, none⟩ = some (.string s4) ∧ w'.cell? ⟨tb, tq + i * 8 + 2 + 2, none⟩ = some (.int .i64 n4) ∧ w'.cell? ⟨tb, tq + i * 8 + 2 + 3, none⟩ = some (.slice A4 ps4.length c4) ∧ w'.cell? ⟨tb, tq + i * 8 + 2 + 4, none⟩ = some (.slice B4 fs4.length d4) ∧ w'.cell? ⟨tb, tq + i * 8 + 2 + 5, none⟩ = some (.slice C4 vs4.length e4))) (by kernel_rfl) (HC.out _ HBD.out) (fun hHeld => ?_)
      refine Plan.start [0, 1, 2, 3, 4, 5, 6, 7, 8, 9, 10, 11] ?_
      iterate 12 (refine Plan.tk (so rfl) hHeld ?_; try simp only [Act.put, pz1, pz2, pz3])
      refine Plan.done ?_
      refine wpAnyH_done (by kernel_rfl) ?_ _
      clear hHeld
      go_wp2_with fail
      refine ⟨⟨th, j + 1, rfl, by first | rfl | rw [wr3], HJn.out.1, HJn.out.2, HB.out.trans (HBD.out.mono HB.out.size), HNT.out.1, HNT.out.2⟩, ?_⟩
      first | exact HM2.out | (rw [wr3]; exact HM2.out)
    ·have HEX : Hid ((∀ (q : Nat) (p : Val), nm[q]? = some nf → ps[q]? = some p → IsV p tf) ∧ (th = true ↔ ∃ (q : Nat) (p : Val), nm[q]? = some nf ∧ ps[q]? = some p)) := Lib.hid (by
      constructor
      ·intro q p h1 h2
       have l1 := (List.getElem?_eq_some_iff.1 h1).1
       have l2 := (List.getElem?_eq_some_iff.1 h2).1
       exact hall q p (by omega) h1 h2
      ·rw [hth]
       exact ⟨fun ⟨q, h1, h2⟩ => ⟨q, _, h2, List.getElem?_eq_getElem (by omega)⟩, fun ⟨q, p, h1, h2⟩ => ⟨q, by have l1 := (List.getElem?_eq_some_iff.1 h1).1; have l2 := (List.getElem?_eq_some_iff.1 h2).1; omega, h1⟩⟩)
     obtain ⟨-, h1, -⟩ := HAT2.out _ hb
     have hpar : (ff.tmod 2 = 0 ∧ ff % 2 = 0) ∨ (ff.tmod 2 = 1 ∧ ff % 2 = 1) := by
      have := HFF.out
      rw [Int.tmod_eq_emod_of_nonneg this.1]
      omega
     have HPAR := Lib.hid hpar
     have HFO : Hid (FldOne vv (nf, ff, tf) ↔ (ff % 2 = 0 → th = true)) := Lib.hid (by
      unfold FldOne
      rw [HV.out.1, HV.out.2, HEX.out.2]
      exact ⟨fun h => h.2, fun h => ⟨HEX.out.1, h⟩⟩)
     have t23 : ¬ j < nm.length ∨ (j < nm.length ∧ ¬ j < ps.length) := by
      by_cases h : j < nm.length
      ·exact .inr ⟨h, fun h2 => hjn ⟨h, h2⟩⟩
      ·exact .inl h
     clear hj1 hj2 hb hth hall hln hpar
     have HFIN : Hid ((ff % 2 = 0 ∧ th = false) ∨ FldOne vv (nf, ff, tf)) := Lib.hid (by
      rw [HFO.out]
      cases th with
      | true => exact .inr fun _ => rfl
      | false =>
       rcases HPAR.out with h | h
       ·exact .inl ⟨h.2, rfl⟩
       ·exact .inr fun e => absurd (h.2.symm.trans e) (by decide))
     clear hjn
     rcases t23 with u2 | ⟨u2, u3⟩
     rotate_left
     have t3 : decide ((j : Int) < (ps.length : Int)) = false := decide_eq_false (by omega)
     rotate_left
     all_goals
      cases th with
      | true =>
       have HO : Hid (FldOne vv (nf, ff, tf)) := Lib.hid (HFO.out.2 fun _ => rfl)
       go_wp2_with fail
       refine ⟨⟨i + 1, by first | rfl | rw [wr2], HIn.out, HB.out, HNX.out HO.out⟩, ?_⟩
       first | exact HM.out | (rw [wr2]; exact HM.out)
      | false =>
       rcases HPAR.out with ⟨p1, p2⟩ | ⟨p1, p2⟩
       ·have HN2 : Hid (¬ FldOne vv (nf, ff, tf)) := Lib.hid fun h => absurd (HFO.out.1 h p2) (by decide)
        clear p2
        go_wp2_with fail
        exact HPO.out _ _ (iff_of_false (by decide) (HST.out HN2.out)) HB.out
       ·have HO : Hid (FldOne vv (nf, ff, tf)) := Lib.hid (HFO.out.2 fun e => absurd (p2.symm.trans e) (by decide))
        clear p2
        go_wp2_with fail
        refine ⟨⟨i + 1, by first | rfl | rw [wr2], HIn.out, HB.out, HNX.out HO.out⟩, ?_⟩
        first | exact HM.out | (rw [wr2]; exact HM.out)
  ·have t1 : decide ((i : Int) < (fs2.length : Int)) = false := by simp; omega
   rw [List.take_of_length_le (by omega)] at hno
   have HNO := Lib.hid hno
   clear hi hb hno hln
   go_wp2_with fail
   exact HPO.out _ _ (iff_of_true rfl HNO.out) HB.out
end Go.Proofs.YtgjblmlibhppiaaGreatDoor
