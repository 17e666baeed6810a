import Derived.Test.YtgjblmlibhppiaaGreatDoorMy25
namespace Go.Proofs.YtgjblmlibhppiaaGreatDoor
set_option maxRecDepth 100000
set_option maxHeartbeats 64000000
open Go.RowKit
theorem looked_fit {K K' : Nat → Prop} {w : World} {s t : Ty} {cs ds : List Value} {b : Nat} {fuel st rows : Int} {m1 m2 : Option Nat} {asked : Value} (hr : RepT K w s cs) (hp : RepT K' w t ds) (hgs : GdT s) (hgt : GdT t) (hK : ∀ x, K x → x < w.heap.size ∧ x ≠ b) (hK' : ∀ x, K' x → x < w.heap.size ∧ x ≠ b) (hb : w.heap[b]? = some (runC fuel st m1 m2 asked rows)) (h0 : 0 ≤ st) (h1 : st ≤ fuel) (h2 : fuel ≤ 100000) (hr0 : 0 ≤ rows) (hr1 : rows ≤ st) (hN : ∀ rw, rows ≤ rw → rw ≤ rows + 1 → FitN b fuel (st + 2) m1 m2 asked rw) :
  Calls Tryz.prog 60 #[.pointer (some ⟨b, 0, none⟩), .agg cs.toArray, .agg ds.toArray] w (FitPost b fuel st m1 m2 asked rows w (DeepT s t ∨ fuel < st + 2) (Fit s t)) := by
 have hbl : b < w.heap.size := (Array.getElem?_eq_some_iff.1 hb).1
 obtain ⟨w1, g0, g1, g2, HW1, HG0, HG1, HG2, hb1, hs1, hh0, hx, hy⟩ := box_three w b cs ds
 have hb1' := ButG.of_below (O := fun x => x = b) hb1
 obtain ⟨PO, hPO⟩ : ∃ PO : Ending → World → Prop, PO = FitPost b fuel st m1 m2 asked rows w (DeepT s t ∨ fuel < st + 2) (Fit s t) := ⟨_, rfl⟩
 have HYES : Hid (∀ (r : Bool) w', (r = true ↔ Fit s t) → RunI b fuel (st + 2) m1 m2 asked rows w w' → PO (.returned (.bool r)) w') := Hd fun r w' h1 h2 => by rw [hPO]; exact .inl ⟨r, rfl, h1, RunI.trans (ButG.refl _ _) h2 (by omega)⟩
 have HNO : Hid (∀ w', (DeepT s t ∨ fuel < st + 2) → ButG (fun x => x = b) w w' → PO (.panicked [{ v := stopV, recovered := false }]) w') := Hd fun w' h1 h2 => by rw [hPO]; exact .inr ⟨rfl, h1, h2⟩
 rw [← hPO]
 have HOA := Hd (open_any s)
 have HOB := Hd (open_any t)
 have HLK := Hd (fit_look (s := s) (t := t))
 have HPL := Hd (fit_pln (s := s) (t := t))
 have HGS := Hd hgs
 have HGT := Hd hgt
 have HRP := Hd (And.intro hr hp)
 obtain ⟨sv, hsv⟩ : ∃ x, x = s := ⟨_, rfl⟩
 obtain ⟨tv, htv⟩ : ∃ x, x = t := ⟨_, rfl⟩
 have hks := (smp_get hgs.2).1
 have hkt := (smp_get hgt.2).1
 obtain ⟨k, s, n, ps, fs, vs⟩ := s
 obtain ⟨A, c, B, d, C, e, rfl, -, hL, -⟩ := hr.inv
 obtain ⟨k2, s2, n2, ps2, fs2, vs2⟩ := t
 obtain ⟨A2, c2, B2, d2, C2, e2, rfl, -, hM, -⟩ := hp.inv
 have hsk : sv.k = k ∧ sv.ps = ps ∧ sv.fs = fs := by rw [hsv]; exact ⟨rfl, rfl, rfl⟩
 have htk : tv.k = k2 ∧ tv.ps = ps2 ∧ tv.fs = fs2 := by rw [htv]; exact ⟨rfl, rfl, rfl⟩
 rw [← hsv] at HYES HNO HOA HLK HPL HGS HRP
 rw [← htv] at HYES HNO HOB HLK HPL HGT HRP
 simp only [cells6T] at hx hy HW1 HRP ⊢
 have HL := Hd (And.intro hL hM)
 have r0 := Ch hh0 0
 simp only [List.getElem?_toArray, List.getElem?_cons_zero] at r0
 obtain ⟨x0, x1, x2, x3, x4, x5⟩ := cz6 hx
 have hr1' : RepT K w1 (.mk k s n ps fs vs) [.int .i64 k, .string s, .int .i64 n, .slice A ps.length c, .slice B fs.length d, .slice C vs.length e] := hr.later hb1
 have KH1 := Hd (head_any hr1' hks (box_up hb1 hbl hb) h0 h1 h2)
 have HK := Hd (And.intro hK hK')
 have HN := Hd hN
 have HB1 := Hd hb1'
 have HH0 := Hd hh0
 have HX := Hd hx
 have HY := Hd hy
 have HS := Hd (And.intro h0 (And.intro h1 (And.intro h2 (And.intro hr0 hr1))))
 have HNE : Hid (b < g0 ∧ g0 < w1.heap.size ∧ g1 < w1.heap.size ∧ g2 < w1.heap.size ∧ g0 < g1 ∧ g1 < g2 ∧ w.heap.size ≤ w1.heap.size ∧ b < w.heap.size) := Hd (by omega)
 have HSK := Hd hsk
 have HTK := Hd htk
 have HKT := Hd hkt
 replace HW1 := Hd HW1
 replace HG0 := Hd HG0
 replace HG1 := Hd HG1
 replace HG2 := Hd HG2
 clear hr hp hgs hgt hK hK' hb h0 h1 h2 hr0 hr1 hN hbl hb1 hs1 hh0 hx hy hb1' hPO hks hkt hL hM hsk htk hr1' hsv htv
 go_enter Tryz.func60, Tryz.ntmps60
 go_upto_region 1 with fail
 rw [HW1.out, HG0.out, HG1.out, HG2.out]
 go_wp2_with fail
 refine KH1.out.mono ?_
 rintro e2 w2 (⟨rfl, hs2, hb2, hu2⟩ | ⟨rfl, hs2, hu2⟩)
 rotate_left
 ·clear KH1 r0 x0 x1 x2 x3 x4 x5
  have HFIN : Hid (PO (.panicked [{ v := stopV, recovered := false }]) w2) := Hd (HNO.out _ (.inr (by have := HS.out; omega)) (HB1.out.same hu2))
  go_wp2_with fail
  first | exact HFIN.out | (simp only [bodyPost]; exact ⟨trivial, HFIN.out⟩)
 obtain ⟨w3, hw3⟩ : ∃ x, x = w2.alloc (.cells #[.int .i64 k, .string s, .int .i64 n, .slice A ps.length c, .slice B fs.length d, .slice C vs.length e] 26) := ⟨_, rfl⟩
 obtain ⟨g3, hg3⟩ : ∃ x, x = w2.heap.size := ⟨_, rfl⟩
 have hb3 : Below w2.heap.size w2 w3 := by rw [hw3]; exact (Below.refl _ _).alloc (Nat.le_refl _) _
 have HX3 : Hid (w3.heap[g3]? = some (.cells #[.int .i64 k, .string s, .int .i64 n, .slice A ps.length c, .slice B fs.length d, .slice C vs.length e] 26 (0, 0))) := Hd (by rw [hw3, hg3]; exact heap_alloc_new w2 _)
 have hu13 : ButG (fun x => x = b) w1 w3 := hu2.low (hb3.mono hu2.size)
 have HU13 := Hd hu13
 have HNE3 : Hid (b < g3 ∧ g3 < w3.heap.size) := Hd (by have := hu2.size; have := HNE.out; have := (Array.getElem?_eq_some_iff.1 HX3.out).1; omega)
 obtain ⟨y0, y1, y2, y3, y4, y5⟩ := cz6 ((hu13.block g2 HNE.out.2.2.2.1 (by have := HNE.out; omega)).trans HY.out)
 have r1 := Ch ((hu13.block g0 HNE.out.2.1 (by have := HNE.out; omega)).trans HH0.out) 0
 simp only [List.getElem?_toArray, List.getElem?_cons_zero] at r1
 have KH2 := Hd (head_any (HRP.out.2.but (HB1.out.same hu13) fun x hx => ⟨(HK.out.2 x hx).2, hx⟩) (by rw [HTK.out.1]; exact HKT.out) (box_up hb3 (Array.getElem?_eq_some_iff.1 hb2).1 hb2) (by have := HS.out; omega) (by omega) HS.out.2.2.1)
 have HW3 := Hd hw3
 have HG3 := Hd hg3
 have HS2 := Hd hs2
 clear hw3 hg3 hb3 hu13 hs2 hb2 hu2 KH1
 go_upto_region 2 with fail
 rw [← HW3.out, ← HG3.out]
 clear r0 x0 x1 x2 x3 x4 x5
 go_wp2_with fail
 refine KH2.out.mono ?_
 rintro e4 w4 (⟨rfl, hs4, hb4, hu4⟩ | ⟨rfl, hs4, hu4⟩)
 rotate_left
 ·clear KH2 r1 y0 y1 y2 y3 y4 y5
  have HFIN : Hid (PO (.panicked [{ v := stopV, recovered := false }]) w4) := Hd (HNO.out _ (.inr (by have := HS.out; omega)) ((HB1.out.same HU13.out).same hu4))
  go_wp2_with fail
  first | exact HFIN.out | (simp only [bodyPost]; exact ⟨trivial, HFIN.out⟩)
 obtain ⟨w6, hw6⟩ : ∃ x, x = w4.alloc (.cells #[.int .i64 k2, .string s2, .int .i64 n2, .slice A2 ps2.length c2, .slice B2 fs2.length d2, .slice C2 vs2.length e2] 26) := ⟨_, rfl⟩
 obtain ⟨g4, hg4⟩ : ∃ x, x = w4.heap.size := ⟨_, rfl⟩
 have hb6 : Below w4.heap.size w4 w6 := by rw [hw6]; exact (Below.refl _ _).alloc (Nat.le_refl _) _
 have hy6 : w6.heap[g4]? = some (.cells #[.int .i64 k2, .string s2, .int .i64 n2, .slice A2 ps2.length c2, .slice B2 fs2.length d2, .slice C2 vs2.length e2] 26 (0, 0)) := by rw [hw6, hg4]; exact heap_alloc_new w4 _
 have hu36 : ButG (fun x => x = b) w3 w6 := hu4.low (hb6.mono hu4.size)
 have hu16 := HU13.out.same hu36
 have hu06 := HB1.out.same hu16
 have hne : b < g3 ∧ b < g4 ∧ b < g0 ∧ b < g2 ∧ g0 < w6.heap.size ∧ g2 < w6.heap.size ∧ g3 < w6.heap.size ∧ g4 < w6.heap.size := by have := hu4.size; have := HNE.out; have := HNE3.out; have := hu16.size; have := hu36.size; have := (Array.getElem?_eq_some_iff.1 hy6).1; omega
 have hx6 := (hu36.block g3 HNE3.out.2 (by omega)).trans HX3.out
 have hz6 := (hu16.block g2 HNE.out.2.2.2.1 (by omega)).trans HY.out
 have hw1s := (hu16.block g1 HNE.out.2.2.1 (by have := HNE.out; omega)).trans HX.out
 have hne1 : b < g1 ∧ g1 < w6.heap.size := by have := HNE.out; have := hu16.size; omega
 have hr6 := (hu16.block g0 HNE.out.2.1 (by omega)).trans HH0.out
 have hrun : RunI b fuel (st + 2) m1 m2 asked rows w w6 := ⟨st + 2, Int.le_refl _, by omega, by rw [show st + 2 = st + 1 + 1 by omega]; exact box_up hb6 (Array.getElem?_eq_some_iff.1 hb4).1 hb4, hu06⟩
 have hK6 : ∀ x, K x → x < w6.heap.size ∧ x ≠ b := fun x hx => ⟨Nat.lt_of_lt_of_le (HK.out.1 x hx).1 hu06.size, (HK.out.1 x hx).2⟩
 have hK6' : ∀ x, K' x → x < w6.heap.size ∧ x ≠ b := fun x hx => ⟨Nat.lt_of_lt_of_le (HK.out.2 x hx).1 hu06.size, (HK.out.2 x hx).2⟩
 have hs6 := HRP.out.1.but hu06 fun x hx => ⟨(HK.out.1 x hx).2, hx⟩
 have ht6 := HRP.out.2.but hu06 fun x hx => ⟨(HK.out.2 x hx).2, hx⟩
 have hL6 := HL.out.1.but hu06 fun x hx => ⟨(HK.out.1 x hx).2, hx⟩
 have hM6 := HL.out.2.but hu06 fun x hx => ⟨(HK.out.2 x hx).2, hx⟩
 have up : ∀ {g : Nat} {v : Obj} (wx : World), ButG (fun x => x = b) w6 wx → g < w6.heap.size → b < g → w6.heap[g]? = some v → wx.heap[g]? = some v := fun wx hx hg hbg hv => (hx.block _ hg (by omega)).trans hv
 have HC : Hid (∀ wx, ButG (fun x => x = b) w6 wx → wx.cell? ⟨g0, 0, none⟩ = some (.pointer (some ⟨b, 0, none⟩)) ∧ (wx.cell? ⟨g3, 0, none⟩ = some (.int .i64 k) ∧ wx.cell? ⟨g3, 1, none⟩ = some (.string s) ∧ wx.cell? ⟨g3, 2, none⟩ = some (.int .i64 n) ∧ wx.cell? ⟨g3, 3, none⟩ = some (.slice A ps.length c) ∧ wx.cell? ⟨g3, 4, none⟩ = some (.slice B fs.length d) ∧ wx.cell? ⟨g3, 5, none⟩ = some (.slice C vs.length e)) ∧ wx.cell? ⟨g4, 0, none⟩ = some (.int .i64 k2) ∧ wx.cell? ⟨g4, 1, none⟩ = some (.string s2) ∧ wx.cell? ⟨g4, 2, none⟩ = some (.int .i64 n2) ∧ wx.cell? ⟨g4, 3, none⟩ = some (.slice A2 ps2.length c2) ∧ wx.cell? ⟨g4, 4, none⟩ = some (.slice B2 fs2.length d2) ∧ wx.cell? ⟨g4, 5, none⟩ = some (.slice C2 vs2.length e2)) := Hd fun wx hx => ⟨Ch (up wx hx hne.2.2.2.2.1 hne.2.2.1 hr6) 0, cz6 (up wx hx hne.2.2.2.2.2.2.1 hne.1 hx6), cz6 (up wx hx hne.2.2.2.2.2.2.2 hne.2.1 hy6)⟩
 have mono : ∀ {Kk : Nat → Prop} {wx wy : World}, (∀ x, Kk x → x < w6.heap.size ∧ x ≠ b) → ButG (fun x => x = b) w6 wx → wx.heap.size ≤ wy.heap.size → ∀ x, Kk x → x < wy.heap.size ∧ x ≠ b := fun h hx hy x hk => ⟨Nat.lt_of_lt_of_le (h x hk).1 (Nat.le_trans hx.size hy), (h x hk).2⟩
 have HA1 : Hid (∀ wx, ButG (fun x => x = b) w6 wx → RunI b fuel (st + 2) m1 m2 asked rows wx wx → Calls Tryz.prog 88 #[.slice A ps.length c, .func (.func 89) #[] #[.pointer (some ⟨g0, 0, none⟩), .pointer (some ⟨g2, 0, none⟩)]] wx (FitPost b fuel (st + 2) m1 m2 asked rows wx (ps ≠ []) (∀ p ∈ ps, Fit p tv))) := Hd fun wx hx hux => by
  have hN' := HN.out rows (Int.le_refl _) (by omega)
  refine all_fit (fun p => Fit p tv) (fun args w => by go_simp) (hL6.but hx fun x hk => ⟨(hK6 x hk).2, hk⟩) (mono hK6 hx (Nat.le_refl _)) hux fun p hpm wy es hu hre => ?_
  have hox := ht6.but (hx.same hu.but) fun x hk => ⟨(hK6' x hk).2, hk⟩
  refine clo_l1 hre hox (up wy (hx.same hu.but) hne.2.2.2.2.1 hne.2.2.1 hr6) (up wy (hx.same hu.but) (by omega) (by omega) hz6) fun wz hz => ?_
  exact hN' K K' wz p tv _ _ (hre.later hz) (hox.later hz) (mono hK6 (hx.same hu.but) hz.size) (mono hK6' (hx.same hu.but) hz.size) (HGS.out.part (by rw [HSK.out.2.1]; exact hpm)) HGT.out (hu.self.below hz).self
 have HS2 : Hid (∀ wx, ButG (fun x => x = b) w6 wx → RunI b fuel (st + 2) m1 m2 asked rows wx wx → Calls Tryz.prog 90 #[.slice A2 ps2.length c2, .func (.func 91) #[] #[.pointer (some ⟨g0, 0, none⟩), .pointer (some ⟨g1, 0, none⟩)]] wx (FitPost b fuel (st + 2) m1 m2 asked rows wx (ps2 ≠ []) (∃ p ∈ ps2, Fit sv p))) := Hd fun wx hx hux => by
  have hN' := HN.out rows (Int.le_refl _) (by omega)
  refine some_fit (fun p => Fit sv p) (fun args w => by go_simp) (hM6.but hx fun x hk => ⟨(hK6' x hk).2, hk⟩) (mono hK6' hx (Nat.le_refl _)) hux fun p hpm wy es hu hre => ?_
  have hox := hs6.but (hx.same hu.but) fun x hk => ⟨(hK6 x hk).2, hk⟩
  refine clo_l2 hre hox (up wy (hx.same hu.but) hne.2.2.2.2.1 hne.2.2.1 hr6) (up wy (hx.same hu.but) (by omega) (by omega) hw1s) fun wz hz => ?_
  exact hN' K K' wz sv p _ _ (hox.later hz) (hre.later hz) (mono hK6 (hx.same hu.but) hz.size) (mono hK6' (hx.same hu.but) hz.size) HGS.out (HGT.out.part (by rw [HTK.out.2.1]; exact hpm)) (hu.self.below hz).self
 have HA3 : Hid (∀ wx, ButG (fun x => x = b) w6 wx → RunI b fuel (st + 2) m1 m2 asked rows wx wx → Calls Tryz.prog 88 #[.slice A2 ps2.length c2, .func (.func 94) #[] #[.pointer (some ⟨g0, 0, none⟩), .pointer (some ⟨g3, 0, none⟩)]] wx (FitPost b fuel (st + 2) m1 m2 asked rows wx (ps2 ≠ []) (∀ p ∈ ps2, Fit sv p))) := Hd fun wx hx hux => by
  have hN' := HN.out rows (Int.le_refl _) (by omega)
  refine all_fit (fun p => Fit sv p) (fun args w => by go_simp) (hM6.but hx fun x hk => ⟨(hK6' x hk).2, hk⟩) (mono hK6' hx (Nat.le_refl _)) hux fun p hpm wy es hu hre => ?_
  have hox := hs6.but (hx.same hu.but) fun x hk => ⟨(hK6 x hk).2, hk⟩
  refine clo_l3 hre hox (up wy (hx.same hu.but) hne.2.2.2.2.1 hne.2.2.1 hr6) (up wy (hx.same hu.but) (by omega) (by omega) hx6) fun wz hz => ?_
  exact hN' K K' wz sv p _ _ (hox.later hz) (hre.later hz) (mono hK6 (hx.same hu.but) hz.size) (mono hK6' (hx.same hu.but) hz.size) HGS.out (HGT.out.part (by rw [HTK.out.2.1]; exact hpm)) (hu.self.below hz).self
 have HS4 : Hid (∀ wx, ButG (fun x => x = b) w6 wx → RunI b fuel (st + 2) m1 m2 asked rows wx wx → Calls Tryz.prog 90 #[.slice A ps.length c, .func (.func 95) #[] #[.pointer (some ⟨g0, 0, none⟩), .pointer (some ⟨g4, 0, none⟩)]] wx (FitPost b fuel (st + 2) m1 m2 asked rows wx (ps ≠ []) (∃ p ∈ ps, Fit p tv))) := Hd fun wx hx hux => by
  have hN' := HN.out rows (Int.le_refl _) (by omega)
  refine some_fit (fun p => Fit p tv) (fun args w => by go_simp) (hL6.but hx fun x hk => ⟨(hK6 x hk).2, hk⟩) (mono hK6 hx (Nat.le_refl _)) hux fun p hpm wy es hu hre => ?_
  have hox := ht6.but (hx.same hu.but) fun x hk => ⟨(hK6' x hk).2, hk⟩
  refine clo_l4 hre hox (up wy (hx.same hu.but) hne.2.2.2.2.1 hne.2.2.1 hr6) (up wy (hx.same hu.but) (by omega) (by omega) hy6) fun wz hz => ?_
  exact hN' K K' wz p tv _ _ (hre.later hz) (hox.later hz) (mono hK6 (hx.same hu.but) hz.size) (mono hK6' (hx.same hu.but) hz.size) (HGS.out.part (by rw [HSK.out.2.1]; exact hpm)) HGT.out (hu.self.below hz).self
 have HO1 : Hid (∀ wx, ButG (fun x => x = b) w6 wx → Calls Tryz.prog 92 #[.pointer (some ⟨g3, 0, none⟩)] wx fun e w' => e = .returned (.bool false) ∧ Below wx.heap.size wx w') := Hd fun wx hx => HOA.out K wx g3 0 ⟨[.int .i64 k, .string s, .int .i64 n, .slice A ps.length c, .slice B fs.length d, .slice C vs.length e], fun j u hj => by rw [Nat.zero_add]; exact (Ch (up wx hx (by omega) (by omega) hx6) j).trans (by rw [List.getElem?_toArray]; exact hj), hs6.but hx fun x hk => ⟨(hK6 x hk).2, hk⟩⟩ HGS.out.2
 have HO2 : Hid (∀ wx, ButG (fun x => x = b) w6 wx → Calls Tryz.prog 92 #[.pointer (some ⟨g4, 0, none⟩)] wx fun e w' => e = .returned (.bool false) ∧ Below wx.heap.size wx w') := Hd fun wx hx => HOB.out K' wx g4 0 ⟨[.int .i64 k2, .string s2, .int .i64 n2, .slice A2 ps2.length c2, .slice B2 fs2.length d2, .slice C2 vs2.length e2], fun j u hj => by rw [Nat.zero_add]; exact (Ch (up wx hx (by omega) (by omega) hy6) j).trans (by rw [List.getElem?_toArray]; exact hj), ht6.but hx fun x hk => ⟨(hK6' x hk).2, hk⟩⟩ HGT.out.2
 have HRO : Hid (∀ wx, ButG (fun x => x = b) w6 wx → RunI b fuel (st + 2) m1 m2 asked (rows + 1) wx wx → Calls Tryz.prog 96 #[.pointer (some ⟨b, 0, none⟩), .agg #[.int .i64 k, .string s, .int .i64 n, .slice A ps.length c, .slice B fs.length d, .slice C vs.length e], .agg #[.int .i64 k2, .string s2, .int .i64 n2, .slice A2 ps2.length c2, .slice B2 fs2.length d2, .slice C2 vs2.length e2]] wx (FitPost b fuel (st + 2) m1 m2 asked (rows + 1) wx (DeepT sv tv) (RowF sv tv))) := Hd fun wx hx hux => row_fit (hs6.but hx fun x hk => ⟨(hK6 x hk).2, hk⟩) (ht6.but hx fun x hk => ⟨(hK6' x hk).2, hk⟩) HGS.out HGT.out (mono hK6 hx (Nat.le_refl _)) (mono hK6' hx (Nat.le_refl _)) hux (HN.out (rows + 1) (by omega) (Int.le_refl _))
 have KP := Hd (plainly_any hs6 ht6)
 have HRUN := Hd hrun
 have HW6 := Hd hw6
 have HG4 := Hd hg4
 have HUB := Hd hu06
 clear hw6 hg4 hb6 hy6 hu36 hu16 hu06 hne hx6 hz6 hr6 hrun hK6 hK6' hs6 ht6 hL6 hM6 up mono hw1s hne1 hb4 hu4 hs4 KH2
 go_upto_region 3 with fail
 rw [← HW6.out, ← HG4.out]
 clear r1 y0 y1 y2 y3 y4 y5
 obtain ⟨r0, ⟨x0, x1, x2, x3, x4, x5⟩, y0, y1, y2, y3, y4, y5⟩ := HC.out w6 (ButG.refl _ _)
 go_wp2_with fail
 refine KP.out.mono ?_
 rintro e7 w7 ⟨rfl, hb7⟩
 have HU7 := Hd (HRUN.out.below hb7)
 have HB7 : Hid (ButG (fun x => x = b) w6 w7) := Hd (ButG.of_below hb7)
 clear hb7 KP
 clear r0 x0 x1 x2 x3 x4 x5 y0 y1 y2 y3 y4 y5
 obtain ⟨r0, ⟨x0, x1, x2, x3, x4, x5⟩, y0, y1, y2, y3, y4, y5⟩ := HC.out w7 HB7.out
 obtain ⟨pl, hpl⟩ : ∃ x, x = plnT sv tv := ⟨_, rfl⟩
 rw [← hpl]
 cases pl with
 | true =>
  have HF : Hid (Fit sv tv) := Hd (HPL.out hpl.symm)
  clear hpl
  go_wp2_with fail
  exact HYES.out _ _ (iff_of_true rfl HF.out) HU7.out
 | false =>
 have HLO := Hd (HLK.out hpl.symm)
 rw [HSK.out.1, HTK.out.1, HSK.out.2.1, HTK.out.2.1] at HLO
 clear hpl
 by_cases k3 : k = 3
 ·have t3 : (k == 3) = true := by simp [k3]
  have HF : Hid (¬ Fit sv tv) := Hd fun h => (HLO.out.1 h).1 k3
  clear k3
  go_wp2_with fail
  exact HYES.out _ _ (iff_of_false (by decide) HF.out) HU7.out
 have t3 : (k == 3) = false := by simp [k3]
 by_cases k15 : k = 15
 ·have t15 : (k == 15) = true := by simp [k15]
  have HF : Hid (Fit sv tv ↔ ∀ p ∈ ps, Fit p tv) := Hd ⟨fun h => (HLO.out.1 h).2.elim (fun h => h.2) fun h => absurd k15 h.1, fun h => HLO.out.2 ⟨k3, .inl ⟨k15, h⟩⟩⟩
  clear k3 k15
  have KX := Hd (HA1.out w7 HB7.out HU7.out.self)
  go_wp2_with fail
  refine KX.out.mono ?_
  rintro e9 w9 (⟨r, rfl, hr9, hu9⟩ | ⟨rfl, hc9, hb9⟩)
  ·have HFIN : Hid (∀ r' : Bool, r' = r → PO (.returned (.bool r')) w9) := Hd fun r' e => by rw [e]; exact HYES.out r w9 (hr9.trans HF.out.symm) (RunI.trans (HU7.out.but) hu9 (Int.le_refl _))
   clear hr9 hu9 KX
   go_wp2_with fail
   exact HFIN.out _ rfl
  ·have HFIN : Hid (PO (.panicked [{ v := stopV, recovered := false }]) w9) := Hd (HNO.out _ (.inl (.inl (by rw [HSK.out.2.1]; exact hc9))) ((HU7.out.but).same hb9))
   clear hb9 hc9
   go_wp2_with fail
   first | exact HFIN.out | (simp only [bodyPost]; exact ⟨trivial, HFIN.out⟩)
 have t15 : (k == 15) = false := by simp [k15]
 have HLO2 : Hid (Fit sv tv ↔ (k2 = 15 ∧ ∃ q ∈ ps2, Fit sv q) ∨ (k2 = 23 ∧ ∀ q ∈ ps2, Fit sv q) ∨ (k2 ≠ 23 ∧ k = 23 ∧ ∃ p ∈ ps, Fit p tv) ∨ (k2 ≠ 23 ∧ k ≠ 23 ∧ RowF sv tv)) := Hd ⟨fun h => (HLO.out.1 h).2.elim (fun h => absurd h.1 k15) fun h => h.2, fun h => HLO.out.2 ⟨k3, .inr ⟨k15, h⟩⟩⟩
 clear k3 k15 HLO
 by_cases k15 : k2 = 15
 ·have t15' : (k2 == 15) = true := by simp [k15]
  have KX := Hd (HS2.out w7 HB7.out HU7.out.self)
  have HK15 := Hd k15
  clear k15
  go_wp2_with fail
  refine KX.out.mono ?_
  rintro e9 w9 (⟨r, rfl, hr9, hu9⟩ | ⟨rfl, hc9, hb9⟩)
  ·cases r with
   | true =>
    have HFIN : Hid (PO (.returned (.bool true)) w9) := Hd (HYES.out true w9 (iff_of_true rfl (HLO2.out.2 (.inl ⟨HK15.out, hr9.1 rfl⟩))) (RunI.trans HU7.out.but hu9 (Int.le_refl _)))
    clear hr9 hu9 KX
    go_wp2_with fail
    exact HFIN.out
   | false =>
    have HLX : Hid (Fit sv tv ↔ (k2 = 23 ∧ ∀ q ∈ ps2, Fit sv q) ∨ (k2 ≠ 23 ∧ k = 23 ∧ ∃ p ∈ ps, Fit p tv) ∨ (k2 ≠ 23 ∧ k ≠ 23 ∧ RowF sv tv)) := Hd (by
     rw [HLO2.out]
     exact ⟨fun h => h.resolve_left fun h => absurd (hr9.2 h.2) (by decide), .inr⟩)
    have HUX : Hid (RunI b fuel (st + 2) m1 m2 asked rows w w9) := Hd (RunI.trans HU7.out.but hu9 (Int.le_refl _))
    have HBX := Hd (HB7.out.same hu9.but)
    clear hr9 hu9 KX
    clear r0 x0 x1 x2 x3 x4 x5 y0 y1 y2 y3 y4 y5
    obtain ⟨r0, ⟨x0, x1, x2, x3, x4, x5⟩, y0, y1, y2, y3, y4, y5⟩ := HC.out w9 HBX.out
    go_wp2_with fail
    refine (HO1.out _ HBX.out).mono ?_
    rintro e8 w8 ⟨rfl, hb8⟩
    have HU8 := Hd (HUX.out.below hb8)
    have HB8 := Hd (HBX.out.low (hb8.mono HBX.out.size))
    clear hb8
    clear r0 x0 x1 x2 x3 x4 x5 y0 y1 y2 y3 y4 y5
    obtain ⟨r0, ⟨x0, x1, x2, x3, x4, x5⟩, y0, y1, y2, y3, y4, y5⟩ := HC.out w8 HB8.out
    go_wp2_with fail
    refine (HO2.out _ HB8.out).mono ?_
    rintro e10 wa ⟨rfl, hba⟩
    have HUA := Hd (HU8.out.below hba)
    have HBA := Hd (HB8.out.low (hba.mono HB8.out.size))
    clear hba
    clear r0 x0 x1 x2 x3 x4 x5 y0 y1 y2 y3 y4 y5
    obtain ⟨r0, ⟨x0, x1, x2, x3, x4, x5⟩, y0, y1, y2, y3, y4, y5⟩ := HC.out wa HBA.out
    by_cases k23 : k2 = 23
    ·have t23 : (k2 == 23) = true := by simp [k23]
     have HF : Hid (Fit sv tv ↔ ∀ q ∈ ps2, Fit sv q) := Hd ⟨fun h => (HLX.out.1 h).elim (fun h => h.2) fun h => h.elim (fun h => absurd k23 h.1) fun h => absurd k23 h.1, fun h => HLX.out.2 (.inl ⟨k23, h⟩)⟩
     clear k23
     have KX := Hd (HA3.out wa HBA.out HUA.out.self)
     go_wp2_with fail
     refine KX.out.mono ?_
     rintro e9 w9 (⟨r, rfl, hr9, hu9⟩ | ⟨rfl, hc9, hb9⟩)
     ·have HFIN : Hid (∀ r' : Bool, r' = r → PO (.returned (.bool r')) w9) := Hd fun r' e => by rw [e]; exact HYES.out r w9 (hr9.trans HF.out.symm) (RunI.trans (HUA.out.but) hu9 (Int.le_refl _))
      clear hr9 hu9 KX
      go_wp2_with fail
      exact HFIN.out _ rfl
     ·have HFIN : Hid (PO (.panicked [{ v := stopV, recovered := false }]) w9) := Hd (HNO.out _ (.inl (.inr (.inl (by rw [HTK.out.2.1]; exact hc9)))) ((HUA.out.but).same hb9))
      clear hb9 hc9
      go_wp2_with fail
      first | exact HFIN.out | (simp only [bodyPost]; exact ⟨trivial, HFIN.out⟩)
    have t23 : (k2 == 23) = false := by simp [k23]
    by_cases k23' : k = 23
    ·have t23' : (k == 23) = true := by simp [k23']
     have HF : Hid (Fit sv tv ↔ ∃ p ∈ ps, Fit p tv) := Hd ⟨fun h => (HLX.out.1 h).elim (fun h => absurd h.1 k23) fun h => h.elim (fun h => h.2.2) fun h => absurd k23' h.2.1, fun h => HLX.out.2 (.inr (.inl ⟨k23, k23', h⟩))⟩
     clear k23 k23'
     have KX := Hd (HS4.out wa HBA.out HUA.out.self)
     go_wp2_with fail
     refine KX.out.mono ?_
     rintro e9 w9 (⟨r, rfl, hr9, hu9⟩ | ⟨rfl, hc9, hb9⟩)
     ·have HFIN : Hid (∀ r' : Bool, r' = r → PO (.returned (.bool r')) w9) := Hd fun r' e => by rw [e]; exact HYES.out r w9 (hr9.trans HF.out.symm) (RunI.trans (HUA.out.but) hu9 (Int.le_refl _))
      clear hr9 hu9 KX
      go_wp2_with fail
      exact HFIN.out _ rfl
     ·have HFIN : Hid (PO (.panicked [{ v := stopV, recovered := false }]) w9) := Hd (HNO.out _ (.inl (.inl (by rw [HSK.out.2.1]; exact hc9))) ((HUA.out.but).same hb9))
      clear hb9 hc9
      go_wp2_with fail
      first | exact HFIN.out | (simp only [bodyPost]; exact ⟨trivial, HFIN.out⟩)
    have t23' : (k == 23) = false := by simp [k23']
    have HF : Hid (Fit sv tv ↔ RowF sv tv) := Hd ⟨fun h => (HLX.out.1 h).elim (fun h => absurd h.1 k23) fun h => h.elim (fun h => absurd h.2.1 k23') fun h => h.2.2, fun h => HLX.out.2 (.inr (.inr ⟨k23, k23', h⟩))⟩
    clear k23 k23'
    obtain ⟨stx, hx1, hx2, hx3, hx4⟩ := HUA.out.self
    have HST := Hd (And.intro hx1 hx2)
    have hx3' := hx3
    unfold runC at hx3'
    obtain ⟨p0, p1, p2, p3, p4, p5, z0, z1, z2, z3, z4, z5⟩ := qz6 hx3'
    have wr1 : wrap64 (rows + 1) = rows + 1 := wrap_in (by have := HS.out; omega) (by have := HS.out; omega)
    obtain ⟨wb, hwb⟩ : ∃ x, x = wa.setCell ⟨b, 5, none⟩ (.int .i64 (rows + 1)) := ⟨_, rfl⟩
    have hwb2 : wb.heap[b]? = some (runC fuel stx m1 m2 asked (rows + 1)) := by rw [hwb]; exact Go.heap_setCell_same wa b _ _ _ _ hx3'
    have hab : ButG (fun x => x = b) wa wb := by rw [hwb]; exact ⟨rfl, rfl, rfl, by simp [World.setCell], fun k _ hn => Below.heap_setCell _ _ _ _ hn⟩
    have KR := Hd (HRO.out wb (HBA.out.same hab) ⟨stx, hx1, hx2, hwb2, ButG.refl _ _⟩)
    have HBB := Hd (HBA.out.same hab)
    have HUB2 : Hid (ButG (fun x => x = b) w wb) := Hd (HUA.out.but.same hab)
    have HWB := Hd hwb
    clear hx1 hx2 hx3 hx3' hx4 hwb2 hab hwb
    go_upto_region 20 with fail
    rw [← HWB.out]
    clear p0 p1 p2 p3 p4 p5 z0 z1 z2 z3 z4 z5
    clear r0 x0 x1 x2 x3 x4 x5 y0 y1 y2 y3 y4 y5
    obtain ⟨r0, ⟨x0, x1, x2, x3, x4, x5⟩, y0, y1, y2, y3, y4, y5⟩ := HC.out wb HBB.out
    go_wp2_with fail
    refine KR.out.mono ?_
    rintro e9 w9 (⟨r, rfl, hr9, hu9⟩ | ⟨rfl, hc9, hb9⟩)
    ·obtain ⟨sty, hy1, hy2, hy3, hy4⟩ := hu9
     have HYS : Hid (st + 2 ≤ sty ∧ sty ≤ fuel) := Hd ⟨hy1, hy2⟩
     have hy3' := hy3
     unfold runC at hy3'
     obtain ⟨p0, p1, p2, p3, p4, p5, z0, z1, z2, z3, z4, z5⟩ := qz6 hy3'
     have wr2 : wrap64 rows = rows := wrap_in (by have := HS.out; omega) (by have := HS.out; omega)
     clear r0 x0 x1 x2 x3 x4 x5 y0 y1 y2 y3 y4 y5
     obtain ⟨r0, -, -⟩ := HC.out w9 (HBB.out.same hy4)
     have HFIN : Hid (∀ r' : Bool, r' = r → PO (.returned (.bool r')) (w9.setCell ⟨b, 5, none⟩ (.int .i64 rows))) := Hd fun r' e => by
      rw [e]
      exact HYES.out r _ (hr9.trans HF.out.symm) ⟨sty, hy1, hy2, Go.heap_setCell_same w9 b _ _ _ _ hy3', (HUB2.out.same hy4).same ⟨rfl, rfl, rfl, by simp [World.setCell], fun k _ hn => Below.heap_setCell _ _ _ _ hn⟩⟩
     clear hr9 KR hy1 hy2 hy3 hy3' hy4
     go_wp2_with fail
     exact HFIN.out _ rfl
    ·have HFIN : Hid (PO (.panicked [{ v := stopV, recovered := false }]) w9) := Hd (HNO.out _ (.inl hc9) (HUB2.out.same hb9))
     clear hb9 hc9
     go_wp2_with fail
     first | exact HFIN.out | (simp only [bodyPost]; exact ⟨trivial, HFIN.out⟩)
  ·have HFIN : Hid (PO (.panicked [{ v := stopV, recovered := false }]) w9) := Hd (HNO.out _ (.inl (.inr (.inl (by rw [HTK.out.2.1]; exact hc9)))) (HU7.out.but.same hb9))
   clear hb9 hc9
   go_wp2_with fail
   first | exact HFIN.out | (simp only [bodyPost]; exact ⟨trivial, HFIN.out⟩)
 have t15' : (k2 == 15) = false := by simp [k15]
 have HLX : Hid (Fit sv tv ↔ (k2 = 23 ∧ ∀ q ∈ ps2, Fit sv q) ∨ (k2 ≠ 23 ∧ k = 23 ∧ ∃ p ∈ ps, Fit p tv) ∨ (k2 ≠ 23 ∧ k ≠ 23 ∧ RowF sv tv)) := Hd (by
  rw [HLO2.out]
  exact ⟨fun h => h.resolve_left fun h => k15 h.1, .inr⟩)
 have HUX := Hd HU7.out
 have HBX := Hd HB7.out
 clear k15
 go_wp2_with fail
 refine (HO1.out _ HBX.out).mono ?_
 rintro e8 w8 ⟨rfl, hb8⟩
 have HU8 := Hd (HUX.out.below hb8)
 have HB8 := Hd (HBX.out.low (hb8.mono HBX.out.size))
 clear hb8
 clear r0 x0 x1 x2 x3 x4 x5 y0 y1 y2 y3 y4 y5
 obtain ⟨r0, ⟨x0, x1, x2, x3, x4, x5⟩, y0, y1, y2, y3, y4, y5⟩ := HC.out w8 HB8.out
 go_wp2_with fail
 refine (HO2.out _ HB8.out).mono ?_
 rintro e10 wa ⟨rfl, hba⟩
 have HUA := Hd (HU8.out.below hba)
 have HBA := Hd (HB8.out.low (hba.mono HB8.out.size))
 clear hba
 clear r0 x0 x1 x2 x3 x4 x5 y0 y1 y2 y3 y4 y5
 obtain ⟨r0, ⟨x0, x1, x2, x3, x4, x5⟩, y0, y1, y2, y3, y4, y5⟩ := HC.out wa HBA.out
 by_cases k23 : k2 = 23
 ·have t23 : (k2 == 23) = true := by simp [k23]
  have HF : Hid (Fit sv tv ↔ ∀ q ∈ ps2, Fit sv q) := Hd ⟨fun h => (HLX.out.1 h).elim (fun h => h.2) fun h => h.elim (fun h => absurd k23 h.1) fun h => absurd k23 h.1, fun h => HLX.out.2 (.inl ⟨k23, h⟩)⟩
  clear k23
  have KX := Hd (HA3.out wa HBA.out HUA.out.self)
  go_wp2_with fail
  refine KX.out.mono ?_
  rintro e9 w9 (⟨r, rfl, hr9, hu9⟩ | ⟨rfl, hc9, hb9⟩)
  ·have HFIN : Hid (∀ r' : Bool, r' = r → PO (.returned (.bool r')) w9) := Hd fun r' e => by rw [e]; exact HYES.out r w9 (hr9.trans HF.out.symm) (RunI.trans (HUA.out.but) hu9 (Int.le_refl _))
   clear hr9 hu9 KX
   go_wp2_with fail
   exact HFIN.out _ rfl
  ·have HFIN : Hid (PO (.panicked [{ v := stopV, recovered := false }]) w9) := Hd (HNO.out _ (.inl (.inr (.inl (by rw [HTK.out.2.1]; exact hc9)))) ((HUA.out.but).same hb9))
   clear hb9 hc9
   go_wp2_with fail
   first | exact HFIN.out | (simp only [bodyPost]; exact ⟨trivial, HFIN.out⟩)
 have t23 : (k2 == 23) = false := by simp [k23]
 by_cases k23' : k = 23
 ·have t23' : (k == 23) = true := by simp [k23']
  have HF : Hid (Fit sv tv ↔ ∃ p ∈ ps, Fit p tv) := Hd ⟨fun h => (HLX.out.1 h).elim (fun h => absurd h.1 k23) fun h => h.elim (fun h => h.2.2) fun h => absurd k23' h.2.1, fun h => HLX.out.2 (.inr (.inl ⟨k23, k23', h⟩))⟩
  clear k23 k23'
  have KX := Hd (HS4.out wa HBA.out HUA.out.self)
  go_wp2_with fail
  refine KX.out.mono ?_
  rintro e9 w9 (⟨r, rfl, hr9, hu9⟩ | ⟨rfl, hc9, hb9⟩)
  ·have HFIN : Hid (∀ r' : Bool, r' = r → PO (.returned (.bool r')) w9) := Hd fun r' e => by rw [e]; exact HYES.out r w9 (hr9.trans HF.out.symm) (RunI.trans (HUA.out.but) hu9 (Int.le_refl _))
   clear hr9 hu9 KX
   go_wp2_with fail
   exact HFIN.out _ rfl
  ·have HFIN : Hid (PO (.panicked [{ v := stopV, recovered := false }]) w9) := Hd (HNO.out _ (.inl (.inl (by rw [HSK.out.2.1]; exact hc9))) ((HUA.out.but).same hb9))
   clear hb9 hc9
   go_wp2_with fail
   first | exact HFIN.out | (simp only [bodyPost]; exact ⟨trivial, HFIN.out⟩)
 have t23' : (k == 23) = false := by simp [k23']
 have HF : Hid (Fit sv tv ↔ RowF sv tv) := Hd ⟨fun h => (HLX.out.1 h).elim (fun h => absurd h.1 k23) fun h => h.elim (fun h => absurd h.2.1 k23') fun h => h.2.2, fun h => HLX.out.2 (.inr (.inr ⟨k23, k23', h⟩))⟩
 clear k23 k23'
 obtain ⟨stx, hx1, hx2, hx3, hx4⟩ := HUA.out.self
 have HST := Hd (And.intro hx1 hx2)
 have hx3' := hx3
 unfold runC at hx3'
 obtain ⟨p0, p1, p2, p3, p4, p5, z0, z1, z2, z3, z4, z5⟩ := qz6 hx3'
 have wr1 : wrap64 (rows + 1) = rows + 1 := wrap_in (by have := HS.out; omega) (by have := HS.out; omega)
 obtain ⟨wb, hwb⟩ : ∃ x, x = wa.setCell ⟨b, 5, none⟩ (.int .i64 (rows + 1)) := ⟨_, rfl⟩
 have hwb2 : wb.heap[b]? = some (runC fuel stx m1 m2 asked (rows + 1)) := by rw [hwb]; exact Go.heap_setCell_same wa b _ _ _ _ hx3'
 have hab : ButG (fun x => x = b) wa wb := by rw [hwb]; exact ⟨rfl, rfl, rfl, by simp [World.setCell], fun k _ hn => Below.heap_setCell _ _ _ _ hn⟩
 have KR := Hd (HRO.out wb (HBA.out.same hab) ⟨stx, hx1, hx2, hwb2, ButG.refl _ _⟩)
 have HBB := Hd (HBA.out.same hab)
 have HUB2 : Hid (ButG (fun x => x = b) w wb) := Hd (HUA.out.but.same hab)
 have HWB := Hd hwb
 clear hx1 hx2 hx3 hx3' hx4 hwb2 hab hwb
 go_upto_region 20 with fail
 rw [← HWB.out]
 clear p0 p1 p2 p3 p4 p5 z0 z1 z2 z3 z4 z5
 clear r0 x0 x1 x2 x3 x4 x5 y0 y1 y2 y3 y4 y5
 obtain ⟨r0, ⟨x0, x1, x2, x3, x4, x5⟩, y0, y1, y2, y3, y4, y5⟩ := HC.out wb HBB.out
 go_wp2_with fail
 refine KR.out.mono ?_
 rintro e9 w9 (⟨r, rfl, hr9, hu9⟩ | ⟨rfl, hc9, hb9⟩)
 ·obtain ⟨sty, hy1, hy2, hy3, hy4⟩ := hu9
  have HYS : Hid (st + 2 ≤ sty ∧ sty ≤ fuel) := Hd ⟨hy1, hy2⟩
  have hy3' := hy3
  unfold runC at hy3'
  obtain ⟨p0, p1, p2, p3, p4, p5, z0, z1, z2, z3, z4, z5⟩ := qz6 hy3'
  have wr2 : wrap64 rows = rows := wrap_in (by have := HS.out; omega) (by have := HS.out; omega)
  clear r0 x0 x1 x2 x3 x4 x5 y0 y1 y2 y3 y4 y5
  obtain ⟨r0, -, -⟩ := HC.out w9 (HBB.out.same hy4)
  have HFIN : Hid (∀ r' : Bool, r' = r → PO (.returned (.bool r')) (w9.setCell ⟨b, 5, none⟩ (.int .i64 rows))) := Hd fun r' e => by
   rw [e]
   exact HYES.out r _ (hr9.trans HF.out.symm) ⟨sty, hy1, hy2, Go.heap_setCell_same w9 b _ _ _ _ hy3', (HUB2.out.same hy4).same ⟨rfl, rfl, rfl, by simp [World.setCell], fun k _ hn => Below.heap_setCell _ _ _ _ hn⟩⟩
  clear hr9 KR hy1 hy2 hy3 hy3' hy4
  go_wp2_with fail
  exact HFIN.out _ rfl
 ·have HFIN : Hid (PO (.panicked [{ v := stopV, recovered := false }]) w9) := Hd (HNO.out _ (.inl hc9) (HUB2.out.same hb9))
  clear hb9 hc9
  go_wp2_with fail
  first | exact HFIN.out | (simp only [bodyPost]; exact ⟨trivial, HFIN.out⟩)
theorem fits_stop {K K' : Nat → Prop} {w : World} {s t : Ty} {cs ds : List Value} {b : Nat} {fuel st rows : Int} {m1 m2 : Option Nat} {asked : Value} (hr : RepT K w s cs) (hp : RepT K' w t ds) (hgs : GdT s) (hgt : GdT t) (hK : ∀ x, K x → x < w.heap.size ∧ x ≠ b) (hK' : ∀ x, K' x → x < w.heap.size ∧ x ≠ b) (hb : w.heap[b]? = some (runC fuel st m1 m2 asked rows)) (h0 : 0 ≤ st) (h1 : st ≤ fuel) (h2 : fuel ≤ 100000) (hr0 : 0 ≤ rows) (hr1 : rows ≤ st) (hst : st = fuel) :
  Calls Tryz.prog 28 #[.pointer (some ⟨b, 0, none⟩), .agg cs.toArray, .agg ds.toArray] w (FitPost b fuel (st + 1) m1 m2 asked rows w (DeepT s t ∨ fuel < st + 3) (Fit s t)) := by
 have hbl : b < w.heap.size := (Array.getElem?_eq_some_iff.1 hb).1
 obtain ⟨w1, g1, g2, HW1, HG1, HG2, hb1, hs1, hx, hy⟩ := box_two w cs ds
 have hb1' := ButG.of_below (O := fun x => x = b) hb1
 obtain ⟨PO, hPO⟩ : ∃ PO : Ending → World → Prop, PO = FitPost b fuel (st + 1) m1 m2 asked rows w (DeepT s t ∨ fuel < st + 3) (Fit s t) := ⟨_, rfl⟩
 have HPO := Hd hPO
 rw [← hPO]
 have hbr := box_up hb1 hbl hb
 obtain ⟨k, s, n, ps, fs, vs⟩ := s
 obtain ⟨A, c, B, d, C, e, rfl, -⟩ := hr.inv
 obtain ⟨k2, s2, n2, ps2, fs2, vs2⟩ := t
 obtain ⟨A2, c2, B2, d2, C2, e2, rfl, -⟩ := hp.inv
 simp only [cells6T] at hx hy HW1 ⊢
 subst hst
 have KB := Hd (begin_stop hbr)
 have HB1 := Hd hb1'
 have HB1b := Hd hb1
 replace HW1 := Hd HW1
 replace HG1 := Hd HG1
 replace HG2 := Hd HG2
 clear hr hp hgs hgt hK hK' hb h0 h1 h2 hr0 hr1 hbl hb1 hs1 hx hy hb1' hPO hbr
 go_enter Tryz.func28, Tryz.ntmps28
 go_upto_region 1 with fail
 rw [HW1.out, HG1.out, HG2.out]
 go_wp2_with fail
 refine KB.out.mono ?_
 rintro e2 w2 ⟨rfl, hb2⟩
 have HFIN : Hid (PO (.panicked [{ v := stopV, recovered := false }]) w2) := Hd (by rw [HPO.out]; exact .inr ⟨rfl, .inr (by omega), HB1.out.same (ButG.of_below hb2)⟩)
 clear hb2 KB
 go_wp2_with fail
 first | exact HFIN.out | (simp only [bodyPost]; exact ⟨trivial, HFIN.out⟩)
theorem fits_go {K K' : Nat → Prop} {w : World} {s t : Ty} {cs ds : List Value} {b : Nat} {fuel st rows : Int} {m1 m2 : Option Nat} {asked : Value} (hr : RepT K w s cs) (hp : RepT K' w t ds) (hgs : GdT s) (hgt : GdT t) (hK : ∀ x, K x → x < w.heap.size ∧ x ≠ b) (hK' : ∀ x, K' x → x < w.heap.size ∧ x ≠ b) (hb : w.heap[b]? = some (runC fuel st m1 m2 asked rows)) (h0 : 0 ≤ st) (h1 : st ≤ fuel) (h2 : fuel ≤ 100000) (hr0 : 0 ≤ rows) (hr1 : rows ≤ st) (hst : st < fuel) (hN : ∀ rw, rows ≤ rw → rw ≤ rows + 1 → FitN b fuel (st + 3) m1 m2 asked rw) :
  Calls Tryz.prog 28 #[.pointer (some ⟨b, 0, none⟩), .agg cs.toArray, .agg ds.toArray] w (FitPost b fuel (st + 1) m1 m2 asked rows w (DeepT s t ∨ fuel < st + 3) (Fit s t)) := by
 have hbl : b < w.heap.size := (Array.getElem?_eq_some_iff.1 hb).1
 obtain ⟨w1, g1, g2, HW1, HG1, HG2, hb1, hs1, hx, hy⟩ := box_two w cs ds
 have hb1' := ButG.of_below (O := fun x => x = b) hb1
 obtain ⟨PO, hPO⟩ : ∃ PO : Ending → World → Prop, PO = FitPost b fuel (st + 1) m1 m2 asked rows w (DeepT s t ∨ fuel < st + 3) (Fit s t) := ⟨_, rfl⟩
 have HPO := Hd hPO
 rw [← hPO]
 have hbr := box_up hb1 hbl hb
 have hks := (smp_get hgs.2).1
 have hkt := (smp_get hgt.2).1
 have KB := Hd (begin_ok hbr h0 hst h2)
 have HPL := Hd (fit_pln (s := s) (t := t))
 have HKP : Hid (∀ wx, ButG (fun x => x = b) w1 wx → Calls Tryz.prog 59 #[.agg cs.toArray, .agg ds.toArray] wx fun e w' => e = .returned (.bool (plnT s t)) ∧ Below wx.heap.size wx w') := Hd fun wx hx => plainly_any (hr.but (hb1'.same hx) fun x hk => ⟨(hK x hk).2, hk⟩) (hp.but (hb1'.same hx) fun x hk => ⟨(hK' x hk).2, hk⟩)
 have HLO : Hid (∀ wx, ButG (fun x => x = b) w1 wx → wx.heap[b]? = some (runC fuel (st + 1) m1 m2 asked rows) → Calls Tryz.prog 60 #[.pointer (some ⟨b, 0, none⟩), .agg cs.toArray, .agg ds.toArray] wx (FitPost b fuel (st + 1) m1 m2 asked rows wx (DeepT s t ∨ fuel < st + 1 + 2) (Fit s t))) := Hd fun wx hx hbx => by
  have h01 := hb1'.same hx
  refine looked_fit (hr.but h01 fun x hk => ⟨(hK x hk).2, hk⟩) (hp.but h01 fun x hk => ⟨(hK' x hk).2, hk⟩) hgs hgt (fun x hk => ⟨Nat.lt_of_lt_of_le (hK x hk).1 h01.size, (hK x hk).2⟩) (fun x hk => ⟨Nat.lt_of_lt_of_le (hK' x hk).1 h01.size, (hK' x hk).2⟩) hbx (by omega) (by omega) h2 hr0 (by omega) fun rw h3 h4 => ?_
  rw [show st + 1 + 2 = st + 3 by omega]
  exact hN rw h3 h4
 obtain ⟨pl, hpl⟩ : ∃ x, x = plnT s t := ⟨_, rfl⟩
 rw [← hpl] at HKP HPL
 obtain ⟨sv, hsv⟩ : ∃ x, x = s := ⟨_, rfl⟩
 obtain ⟨tv, htv⟩ : ∃ x, x = t := ⟨_, rfl⟩
 rw [← hsv, ← htv] at HPO HLO HPL
 obtain ⟨k, s, n, ps, fs, vs⟩ := s
 obtain ⟨A, c, B, d, C, e, rfl, -⟩ := hr.inv
 obtain ⟨k2, s2, n2, ps2, fs2, vs2⟩ := t
 obtain ⟨A2, c2, B2, d2, C2, e2, rfl, -⟩ := hp.inv
 simp only [cells6T] at hx hy HW1 HKP HLO ⊢
 have n17 : (k != 17) = true := by have h : k < 16 ∨ 22 < k := hks; simp; omega
 have m17 : (k2 != 17) = true := by have h : k2 < 16 ∨ 22 < k2 := hkt; simp; omega
 have HB1 := Hd hb1'
 have HST : Hid (st + 1 ≤ fuel) := Hd (by omega)
 have HC : Hid (∀ wx, ButG (fun x => x = b) w1 wx → (wx.cell? ⟨g1, 0, none⟩ = some (.int .i64 k) ∧ wx.cell? ⟨g1, 1, none⟩ = some (.string s) ∧ wx.cell? ⟨g1, 2, none⟩ = some (.int .i64 n) ∧ wx.cell? ⟨g1, 3, none⟩ = some (.slice A ps.length c) ∧ wx.cell? ⟨g1, 4, none⟩ = some (.slice B fs.length d) ∧ wx.cell? ⟨g1, 5, none⟩ = some (.slice C vs.length e)) ∧ wx.cell? ⟨g2, 0, none⟩ = some (.int .i64 k2) ∧ wx.cell? ⟨g2, 1, none⟩ = some (.string s2) ∧ wx.cell? ⟨g2, 2, none⟩ = some (.int .i64 n2) ∧ wx.cell? ⟨g2, 3, none⟩ = some (.slice A2 ps2.length c2) ∧ wx.cell? ⟨g2, 4, none⟩ = some (.slice B2 fs2.length d2) ∧ wx.cell? ⟨g2, 5, none⟩ = some (.slice C2 vs2.length e2)) := Hd fun wx h => ⟨cz6 ((h.block g1 (by omega) (by omega)).trans hx), cz6 ((h.block g2 (by omega) (by omega)).trans hy)⟩
 replace HW1 := Hd HW1
 replace HG1 := Hd HG1
 replace HG2 := Hd HG2
 clear hr hp hgs hgt hK hK' hb h0 h1 h2 hr0 hr1 hst hN hbl hb1 hs1 hx hy hb1' hPO hbr hsv htv hpl hks hkt
 go_enter Tryz.func28, Tryz.ntmps28
 go_upto_region 1 with fail
 rw [HW1.out, HG1.out, HG2.out]
 go_wp2_with fail
 refine KB.out.mono ?_
 rintro e2 w2 ⟨rfl, hb2, hu2⟩
 have HR2 := Hd hb2
 have HB2 := Hd hu2
 clear hb2 hu2 KB
 obtain ⟨⟨x0, x1, x2, x3, x4, x5⟩, y0, y1, y2, y3, y4, y5⟩ := HC.out w2 HB2.out
 go_wp2_with fail
 refine (HKP.out _ HB2.out).mono ?_
 rintro e3 w3 ⟨rfl, hb3⟩
 have HR3 : Hid (w3.heap[b]? = some (runC fuel (st + 1) m1 m2 asked rows)) := Hd (box_up hb3 (Array.getElem?_eq_some_iff.1 HR2.out).1 HR2.out)
 have HB3 := Hd (HB2.out.low (hb3.mono HB2.out.size))
 clear hb3 x0 x1 x2 x3 x4 x5 y0 y1 y2 y3 y4 y5
 cases pl with
 | true =>
  have HFIN : Hid (PO (.returned (.bool true)) w3) := Hd (by
   rw [HPO.out]
   exact .inl ⟨true, rfl, iff_of_true rfl (HPL.out (by trivial)), st + 1, Int.le_refl _, HST.out, HR3.out, HB1.out.same HB3.out⟩)
  go_wp2_with fail
  exact HFIN.out
 | false =>
  obtain ⟨⟨x0, x1, x2, x3, x4, x5⟩, y0, y1, y2, y3, y4, y5⟩ := HC.out w3 HB3.out
  have KL := Hd (HLO.out _ HB3.out HR3.out)
  go_wp2_with fail
  refine KL.out.mono ?_
  rintro e9 w9 (⟨r, rfl, hr9, hu9⟩ | ⟨rfl, hc9, hb9⟩)
  ·have HFIN : Hid (∀ r' : Bool, r' = r → PO (.returned (.bool r')) w9) := Hd fun r' e => by
    rw [e, HPO.out]
    exact .inl ⟨r, rfl, hr9, RunI.trans (HB1.out.same HB3.out) hu9 (Int.le_refl _)⟩
   clear hr9 hu9 KL
   go_wp2_with fail
   exact HFIN.out _ rfl
  ·have HFIN : Hid (PO (.panicked [{ v := stopV, recovered := false }]) w9) := Hd (by
    rw [HPO.out]
    exact .inr ⟨rfl, hc9.imp id (fun h => by omega), (HB1.out.same HB3.out).same hb9⟩)
   clear hb9 hc9
   go_wp2_with fail
   first | exact HFIN.out | (simp only [bodyPost]; exact ⟨trivial, HFIN.out⟩)
theorem fits_all (N : Nat) : ∀ (K K' : Nat → Prop) (w : World) (s t : Ty) (cs ds : List Value) (b : Nat) (fuel st rows : Int) (m1 m2 : Option Nat) (asked : Value) (hr : RepT K w s cs) (hp : RepT K' w t ds) (hgs : GdT s) (hgt : GdT t) (hK : ∀ x, K x → x < w.heap.size ∧ x ≠ b) (hK' : ∀ x, K' x → x < w.heap.size ∧ x ≠ b) (hb : w.heap[b]? = some (runC fuel st m1 m2 asked rows)) (h0 : 0 ≤ st) (h1 : st ≤ fuel) (h2 : fuel ≤ 100000) (hr0 : 0 ≤ rows) (hr1 : rows ≤ st) (_ : fuel - st ≤ N),
  Calls Tryz.prog 28 #[.pointer (some ⟨b, 0, none⟩), .agg cs.toArray, .agg ds.toArray] w (FitPost b fuel (st + 1) m1 m2 asked rows w (DeepT s t ∨ fuel < st + 3) (Fit s t)) := by
 induction N with
 | zero =>
  intro K K' w s t cs ds b fuel st rows m1 m2 asked hr hp hgs hgt hK hK' hb h0 h1 h2 hr0 hr1 hn
  exact fits_stop hr hp hgs hgt hK hK' hb h0 h1 h2 hr0 hr1 (by omega)
 | succ N ih =>
  intro K K' w s t cs ds b fuel st rows m1 m2 asked hr hp hgs hgt hK hK' hb h0 h1 h2 hr0 hr1 hn
  rcases Int.lt_or_eq_of_le h1 with hst | hst
  ·refine fits_go hr hp hgs hgt hK hK' hb h0 h1 h2 hr0 hr1 hst fun rw h3 h4 => ?_
   intro K1 K2 wx p q ps qs hrp hrq hk1 hk2 hgp hgq hu
   obtain ⟨st', s1, s2, s3, -⟩ := hu
   have h := ih K1 K2 wx p q ps qs b fuel st' rw m1 m2 asked hrp hrq hgp hgq hk1 hk2 s3 (by omega) s2 h2 (by omega) (by omega) (by omega)
   exact h.mono fun e w' h => FitPost.trans (ButG.refl _ _) (by omega) (fun _ => trivial) Iff.rfl h
  ·exact fits_stop hr hp hgs hgt hK hK' hb h0 h1 h2 hr0 hr1 hst
end Go.Proofs.YtgjblmlibhppiaaGreatDoor
