import Derived.Test.YtgjblmlibhppiaaGreatDoorMz4
namespace Go.Proofs.YtgjblmlibhppiaaGreatDoor
open Go.RowKit
set_option maxRecDepth 100000 in
set_option maxHeartbeats 16000000 in
theorem is_top {K : Nat → Prop} {w : World} {v : Val} {t : Ty} {cs ds : List Value} (hr : RepT K w t cs) (hv : RepV w v ds) (hg : GdT t) (hn : noF t = true) (hk : t.k = 2 ∨ t.k = 3) :
  Calls Tryz.prog 17 #[.agg ds.toArray, .agg cs.toArray] w fun e w' => (∃ r : Bool, e = .returned (.bool r) ∧ (r = true ↔ IsV v t)) ∧ Below w.heap.size w w' := by
 obtain ⟨w1, g1, g2, HW1, HG1, HG2, hb1, hx, hy⟩ := box_vt w ds cs
 have hgp := fun p hp => hg.part (p := p) hp
 have hnp := (noF_get hn).2.2.1
 have hr1 := hr.later hb1
 have hv1 := hv.later hb1
 obtain ⟨vv, hvv⟩ : ∃ x, x = v := ⟨_, rfl⟩
 obtain ⟨tv, htv⟩ : ∃ x, x = t := ⟨_, rfl⟩
 obtain ⟨PO, hPO⟩ : ∃ PO : Ending → World → Prop, PO = fun e w' => (∃ r : Bool, e = .returned (.bool r) ∧ (r = true ↔ IsV v t)) ∧ Below w.heap.size w w' := ⟨_, rfl⟩
 have HPO : Hid (∀ (r : Bool) w', (r = true ↔ IsV vv tv) → Below w1.heap.size w1 w' → PO (.returned (.bool r)) w') := Lib.hid fun r w' h1 h2 => by rw [hPO]; exact ⟨⟨r, rfl, by rw [← hvv, ← htv]; exact h1⟩, hb1.trans (h2.mono hb1.size)⟩
 rw [← hPO]
 obtain ⟨k, s, n, nm, ps⟩ := v
 obtain ⟨A, c, B, d, rfl, hN, hP⟩ := hv1.inv
 obtain ⟨k2, s2, n2, ps2, fs2, vs2⟩ := t
 obtain ⟨A2, c2, B2, d2, C2, e2, rfl, -, hL, -⟩ := hr1.inv
 simp only [cells6T] at hx hy HW1 ⊢
 have HX : Hid (∀ wx, Below w1.heap.size w1 wx → (wx.cell? ⟨g1, 0, none⟩ = some (.int .i64 k) ∧ wx.cell? ⟨g1, 1, none⟩ = some (.string s) ∧ wx.cell? ⟨g1, 2, none⟩ = some (.int .i64 n) ∧ wx.cell? ⟨g1, 3, none⟩ = some (.slice A nm.length c) ∧ wx.cell? ⟨g1, 4, none⟩ = some (.slice B ps.length d)) ∧ wx.cell? ⟨g2, 0, none⟩ = some (.int .i64 k2) ∧ wx.cell? ⟨g2, 1, none⟩ = some (.string s2) ∧ wx.cell? ⟨g2, 2, none⟩ = some (.int .i64 n2) ∧ wx.cell? ⟨g2, 3, none⟩ = some (.slice A2 ps2.length c2) ∧ wx.cell? ⟨g2, 4, none⟩ = some (.slice B2 fs2.length d2) ∧ wx.cell? ⟨g2, 5, none⟩ = some (.slice C2 vs2.length e2)) := Lib.hid fun wx h => ⟨cz5 (box_up h (Array.getElem?_eq_some_iff.1 hx).1 hx), cz6 (box_up h (Array.getElem?_eq_some_iff.1 hy).1 hy)⟩
 have HVV : Hid (vv.k = k ∧ vv.t = s ∧ vv.n = n ∧ vv.parts = ps) := Lib.hid (by rw [hvv]; exact ⟨rfl, rfl, rfl, rfl⟩)
 have HTV : Hid (tv.k = k2 ∧ tv.t = s2 ∧ tv.n = n2 ∧ tv.ps = ps2) := Lib.hid (by rw [htv]; exact ⟨rfl, rfl, rfl, rfl⟩)
 have HL : Hid (∀ wx, Below w1.heap.size w1 wx → ListT K wx ps2 A2 c2) := Lib.hid fun wx h => hL.later h
 have HP : Hid (∀ wx, Below w1.heap.size w1 wx → ListW2 wx ps B) := Lib.hid fun wx h => hP.later h
 have HLN : Hid (ps2.length ≤ 1000000000000000 ∧ ps.length ≤ 1000000000000000) := Lib.hid (by obtain ⟨_, _, r2, -⟩ := hL; exact ⟨r2.big, hP.1⟩)
 have HGP : Hid (∀ p ∈ ps2, GdT p ∧ noF p = true) := Lib.hid fun p hp => ⟨hgp p hp, hnp p hp⟩
 have HRV : Hid (∀ wx, Below w1.heap.size w1 wx → RepV wx vv [.int .i64 k, .string s, .int .i64 n, .slice A nm.length c, .slice B ps.length d]) := Lib.hid fun wx h => by rw [hvv]; exact hv1.later h
 replace HW1 := Lib.hid HW1
 replace HG1 := Lib.hid HG1
 replace HG2 := Lib.hid HG2
 replace hk : k2 = 2 ∨ k2 = 3 := hk
 have HI : Hid (IsV vv tv) := Lib.hid (.top (by rw [HTV.out.1]; exact hk))
 clear hr hv hg hn hb1 hx hy hgp hnp hr1 hv1 hvv htv hPO hN hP hL
 go_enter Tryz.func17, Tryz.ntmps17
 go_upto_region 1 with fail
 rw [HW1.out, HG1.out, HG2.out]
 obtain ⟨⟨x0, x1, x2, x3, x4⟩, y0, y1, y2, y3, y4, y5⟩ := HX.out w1 (Below.refl _ _)
 rcases hk with rfl | rfl
 all_goals
  go_wp2_with fail
  exact HPO.out _ _ (iff_of_true rfl HI.out) (Below.refl _ _)
set_option maxRecDepth 100000 in
set_option maxHeartbeats 16000000 in
theorem is_prim {K : Nat → Prop} {w : World} {v : Val} {t : Ty} {cs ds : List Value} (hr : RepT K w t cs) (hv : RepV w v ds) (hg : GdT t) (hn : noF t = true) (h4 : 4 ≤ t.k) (h8 : t.k ≤ 8) :
  Calls Tryz.prog 17 #[.agg ds.toArray, .agg cs.toArray] w fun e w' => (∃ r : Bool, e = .returned (.bool r) ∧ (r = true ↔ IsV v t)) ∧ Below w.heap.size w w' := by
 obtain ⟨w1, g1, g2, HW1, HG1, HG2, hb1, hx, hy⟩ := box_vt w ds cs
 have hgp := fun p hp => hg.part (p := p) hp
 have hnp := (noF_get hn).2.2.1
 have hr1 := hr.later hb1
 have hv1 := hv.later hb1
 obtain ⟨vv, hvv⟩ : ∃ x, x = v := ⟨_, rfl⟩
 obtain ⟨tv, htv⟩ : ∃ x, x = t := ⟨_, rfl⟩
 obtain ⟨PO, hPO⟩ : ∃ PO : Ending → World → Prop, PO = fun e w' => (∃ r : Bool, e = .returned (.bool r) ∧ (r = true ↔ IsV v t)) ∧ Below w.heap.size w w' := ⟨_, rfl⟩
 have HPO : Hid (∀ (r : Bool) w', (r = true ↔ IsV vv tv) → Below w1.heap.size w1 w' → PO (.returned (.bool r)) w') := Lib.hid fun r w' h1 h2 => by rw [hPO]; exact ⟨⟨r, rfl, by rw [← hvv, ← htv]; exact h1⟩, hb1.trans (h2.mono hb1.size)⟩
 rw [← hPO]
 obtain ⟨k, s, n, nm, ps⟩ := v
 obtain ⟨A, c, B, d, rfl, hN, hP⟩ := hv1.inv
 obtain ⟨k2, s2, n2, ps2, fs2, vs2⟩ := t
 obtain ⟨A2, c2, B2, d2, C2, e2, rfl, -, hL, -⟩ := hr1.inv
 simp only [cells6T] at hx hy HW1 ⊢
 have HX : Hid (∀ wx, Below w1.heap.size w1 wx → (wx.cell? ⟨g1, 0, none⟩ = some (.int .i64 k) ∧ wx.cell? ⟨g1, 1, none⟩ = some (.string s) ∧ wx.cell? ⟨g1, 2, none⟩ = some (.int .i64 n) ∧ wx.cell? ⟨g1, 3, none⟩ = some (.slice A nm.length c) ∧ wx.cell? ⟨g1, 4, none⟩ = some (.slice B ps.length d)) ∧ wx.cell? ⟨g2, 0, none⟩ = some (.int .i64 k2) ∧ wx.cell? ⟨g2, 1, none⟩ = some (.string s2) ∧ wx.cell? ⟨g2, 2, none⟩ = some (.int .i64 n2) ∧ wx.cell? ⟨g2, 3, none⟩ = some (.slice A2 ps2.length c2) ∧ wx.cell? ⟨g2, 4, none⟩ = some (.slice B2 fs2.length d2) ∧ wx.cell? ⟨g2, 5, none⟩ = some (.slice C2 vs2.length e2)) := Lib.hid fun wx h => ⟨cz5 (box_up h (Array.getElem?_eq_some_iff.1 hx).1 hx), cz6 (box_up h (Array.getElem?_eq_some_iff.1 hy).1 hy)⟩
 have HVV : Hid (vv.k = k ∧ vv.t = s ∧ vv.n = n ∧ vv.parts = ps) := Lib.hid (by rw [hvv]; exact ⟨rfl, rfl, rfl, rfl⟩)
 have HTV : Hid (tv.k = k2 ∧ tv.t = s2 ∧ tv.n = n2 ∧ tv.ps = ps2) := Lib.hid (by rw [htv]; exact ⟨rfl, rfl, rfl, rfl⟩)
 have HL : Hid (∀ wx, Below w1.heap.size w1 wx → ListT K wx ps2 A2 c2) := Lib.hid fun wx h => hL.later h
 have HP : Hid (∀ wx, Below w1.heap.size w1 wx → ListW2 wx ps B) := Lib.hid fun wx h => hP.later h
 have HLN : Hid (ps2.length ≤ 1000000000000000 ∧ ps.length ≤ 1000000000000000) := Lib.hid (by obtain ⟨_, _, r2, -⟩ := hL; exact ⟨r2.big, hP.1⟩)
 have HGP : Hid (∀ p ∈ ps2, GdT p ∧ noF p = true) := Lib.hid fun p hp => ⟨hgp p hp, hnp p hp⟩
 have HRV : Hid (∀ wx, Below w1.heap.size w1 wx → RepV wx vv [.int .i64 k, .string s, .int .i64 n, .slice A nm.length c, .slice B ps.length d]) := Lib.hid fun wx h => by rw [hvv]; exact hv1.later h
 replace HW1 := Lib.hid HW1
 replace HG1 := Lib.hid HG1
 replace HG2 := Lib.hid HG2
 replace h4 : 4 ≤ k2 := h4
 replace h8 : k2 ≤ 8 := h8
 have HI : Hid (∀ r : Bool, r = (k == k2) → (r = true ↔ IsV vv tv)) := Lib.hid fun r e => by rw [e, isv_prim (by rw [HTV.out.1]; exact h4) (by rw [HTV.out.1]; exact h8), HVV.out.1, HTV.out.1, beq_iff_eq]
 have hk : k2 = 4 ∨ k2 = 5 ∨ k2 = 6 ∨ k2 = 7 ∨ k2 = 8 := by omega
 clear h4 h8 hr hv hg hn hb1 hx hy hgp hnp hr1 hv1 hvv htv hPO hN hP hL
 go_enter Tryz.func17, Tryz.ntmps17
 go_upto_region 1 with fail
 rw [HW1.out, HG1.out, HG2.out]
 obtain ⟨⟨x0, x1, x2, x3, x4⟩, y0, y1, y2, y3, y4, y5⟩ := HX.out w1 (Below.refl _ _)
 rcases hk with rfl | rfl | rfl | rfl | rfl
 all_goals
  go_wp2_with fail
  exact HPO.out _ _ (HI.out _ rfl) (Below.refl _ _)
set_option maxRecDepth 100000 in
set_option maxHeartbeats 16000000 in
theorem is_num {K : Nat → Prop} {w : World} {v : Val} {t : Ty} {cs ds : List Value} (hr : RepT K w t cs) (hv : RepV w v ds) (hg : GdT t) (hn : noF t = true) (hk : t.k = 9) :
  Calls Tryz.prog 17 #[.agg ds.toArray, .agg cs.toArray] w fun e w' => (∃ r : Bool, e = .returned (.bool r) ∧ (r = true ↔ IsV v t)) ∧ Below w.heap.size w w' := by
 obtain ⟨w1, g1, g2, HW1, HG1, HG2, hb1, hx, hy⟩ := box_vt w ds cs
 have hgp := fun p hp => hg.part (p := p) hp
 have hnp := (noF_get hn).2.2.1
 have hr1 := hr.later hb1
 have hv1 := hv.later hb1
 obtain ⟨vv, hvv⟩ : ∃ x, x = v := ⟨_, rfl⟩
 obtain ⟨tv, htv⟩ : ∃ x, x = t := ⟨_, rfl⟩
 obtain ⟨PO, hPO⟩ : ∃ PO : Ending → World → Prop, PO = fun e w' => (∃ r : Bool, e = .returned (.bool r) ∧ (r = true ↔ IsV v t)) ∧ Below w.heap.size w w' := ⟨_, rfl⟩
 have HPO : Hid (∀ (r : Bool) w', (r = true ↔ IsV vv tv) → Below w1.heap.size w1 w' → PO (.returned (.bool r)) w') := Lib.hid fun r w' h1 h2 => by rw [hPO]; exact ⟨⟨r, rfl, by rw [← hvv, ← htv]; exact h1⟩, hb1.trans (h2.mono hb1.size)⟩
 rw [← hPO]
 obtain ⟨k, s, n, nm, ps⟩ := v
 obtain ⟨A, c, B, d, rfl, hN, hP⟩ := hv1.inv
 obtain ⟨k2, s2, n2, ps2, fs2, vs2⟩ := t
 obtain ⟨A2, c2, B2, d2, C2, e2, rfl, -, hL, -⟩ := hr1.inv
 simp only [cells6T] at hx hy HW1 ⊢
 have HX : Hid (∀ wx, Below w1.heap.size w1 wx → (wx.cell? ⟨g1, 0, none⟩ = some (.int .i64 k) ∧ wx.cell? ⟨g1, 1, none⟩ = some (.string s) ∧ wx.cell? ⟨g1, 2, none⟩ = some (.int .i64 n) ∧ wx.cell? ⟨g1, 3, none⟩ = some (.slice A nm.length c) ∧ wx.cell? ⟨g1, 4, none⟩ = some (.slice B ps.length d)) ∧ wx.cell? ⟨g2, 0, none⟩ = some (.int .i64 k2) ∧ wx.cell? ⟨g2, 1, none⟩ = some (.string s2) ∧ wx.cell? ⟨g2, 2, none⟩ = some (.int .i64 n2) ∧ wx.cell? ⟨g2, 3, none⟩ = some (.slice A2 ps2.length c2) ∧ wx.cell? ⟨g2, 4, none⟩ = some (.slice B2 fs2.length d2) ∧ wx.cell? ⟨g2, 5, none⟩ = some (.slice C2 vs2.length e2)) := Lib.hid fun wx h => ⟨cz5 (box_up h (Array.getElem?_eq_some_iff.1 hx).1 hx), cz6 (box_up h (Array.getElem?_eq_some_iff.1 hy).1 hy)⟩
 have HVV : Hid (vv.k = k ∧ vv.t = s ∧ vv.n = n ∧ vv.parts = ps) := Lib.hid (by rw [hvv]; exact ⟨rfl, rfl, rfl, rfl⟩)
 have HTV : Hid (tv.k = k2 ∧ tv.t = s2 ∧ tv.n = n2 ∧ tv.ps = ps2) := Lib.hid (by rw [htv]; exact ⟨rfl, rfl, rfl, rfl⟩)
 have HL : Hid (∀ wx, Below w1.heap.size w1 wx → ListT K wx ps2 A2 c2) := Lib.hid fun wx h => hL.later h
 have HP : Hid (∀ wx, Below w1.heap.size w1 wx → ListW2 wx ps B) := Lib.hid fun wx h => hP.later h
 have HLN : Hid (ps2.length ≤ 1000000000000000 ∧ ps.length ≤ 1000000000000000) := Lib.hid (by obtain ⟨_, _, r2, -⟩ := hL; exact ⟨r2.big, hP.1⟩)
 have HGP : Hid (∀ p ∈ ps2, GdT p ∧ noF p = true) := Lib.hid fun p hp => ⟨hgp p hp, hnp p hp⟩
 have HRV : Hid (∀ wx, Below w1.heap.size w1 wx → RepV wx vv [.int .i64 k, .string s, .int .i64 n, .slice A nm.length c, .slice B ps.length d]) := Lib.hid fun wx h => by rw [hvv]; exact hv1.later h
 replace HW1 := Lib.hid HW1
 replace HG1 := Lib.hid HG1
 replace HG2 := Lib.hid HG2
 have HI : Hid (IsV vv tv ↔ k = 7 ∧ n = n2) := Lib.hid (by rw [isv_num (by rw [htv]; exact hk), HVV.out.1, HVV.out.2.2.1, HTV.out.2.2.1])
 obtain rfl : k2 = 9 := hk
 clear hr hv hg hn hb1 hx hy hgp hnp hr1 hv1 hvv htv hPO hN hP hL
 go_enter Tryz.func17, Tryz.ntmps17
 go_upto_region 1 with fail
 rw [HW1.out, HG1.out, HG2.out]
 obtain ⟨⟨x0, x1, x2, x3, x4⟩, y0, y1, y2, y3, y4, y5⟩ := HX.out w1 (Below.refl _ _)
 by_cases hk : k = 7
 ·have tk : (k == 7) = true := by simp [hk]
  have HK := Lib.hid hk
  clear hk
  by_cases he : n = n2
  ·have te : (n == n2) = true := by simp [he]
   have HE := Lib.hid he
   clear he
   go_wp2_with fail
   exact HPO.out _ _ (iff_of_true rfl (HI.out.2 ⟨HK.out, HE.out⟩)) (Below.refl _ _)
  ·have te : (n == n2) = false := by simp [he]
   have HE := Lib.hid he
   clear he
   go_wp2_with fail
   exact HPO.out _ _ (iff_of_false (by decide) fun h => HE.out (HI.out.1 h).2) (Below.refl _ _)
 ·have tk : (k == 7) = false := by simp [hk]
  have HK := Lib.hid hk
  clear hk
  go_wp2_with fail
  exact HPO.out _ _ (iff_of_false (by decide) fun h => HK.out (HI.out.1 h).1) (Below.refl _ _)
set_option maxRecDepth 100000 in
set_option maxHeartbeats 16000000 in
theorem is_str {K : Nat → Prop} {w : World} {v : Val} {t : Ty} {cs ds : List Value} (hr : RepT K w t cs) (hv : RepV w v ds) (hg : GdT t) (hn : noF t = true) (hk : t.k = 10) :
  Calls Tryz.prog 17 #[.agg ds.toArray, .agg cs.toArray] w fun e w' => (∃ r : Bool, e = .returned (.bool r) ∧ (r = true ↔ IsV v t)) ∧ Below w.heap.size w w' := by
 obtain ⟨w1, g1, g2, HW1, HG1, HG2, hb1, hx, hy⟩ := box_vt w ds cs
 have hgp := fun p hp => hg.part (p := p) hp
 have hnp := (noF_get hn).2.2.1
 have hr1 := hr.later hb1
 have hv1 := hv.later hb1
 obtain ⟨vv, hvv⟩ : ∃ x, x = v := ⟨_, rfl⟩
 obtain ⟨tv, htv⟩ : ∃ x, x = t := ⟨_, rfl⟩
 obtain ⟨PO, hPO⟩ : ∃ PO : Ending → World → Prop, PO = fun e w' => (∃ r : Bool, e = .returned (.bool r) ∧ (r = true ↔ IsV v t)) ∧ Below w.heap.size w w' := ⟨_, rfl⟩
 have HPO : Hid (∀ (r : Bool) w', (r = true ↔ IsV vv tv) → Below w1.heap.size w1 w' → PO (.returned (.bool r)) w') := Lib.hid fun r w' h1 h2 => by rw [hPO]; exact ⟨⟨r, rfl, by rw [← hvv, ← htv]; exact h1⟩, hb1.trans (h2.mono hb1.size)⟩
 rw [← hPO]
 obtain ⟨k, s, n, nm, ps⟩ := v
 obtain ⟨A, c, B, d, rfl, hN, hP⟩ := hv1.inv
 obtain ⟨k2, s2, n2, ps2, fs2, vs2⟩ := t
 obtain ⟨A2, c2, B2, d2, C2, e2, rfl, -, hL, -⟩ := hr1.inv
 simp only [cells6T] at hx hy HW1 ⊢
 have HX : Hid (∀ wx, Below w1.heap.size w1 wx → (wx.cell? ⟨g1, 0, none⟩ = some (.int .i64 k) ∧ wx.cell? ⟨g1, 1, none⟩ = some (.string s) ∧ wx.cell? ⟨g1, 2, none⟩ = some (.int .i64 n) ∧ wx.cell? ⟨g1, 3, none⟩ = some (.slice A nm.length c) ∧ wx.cell? ⟨g1, 4, none⟩ = some (.slice B ps.length d)) ∧ wx.cell? ⟨g2, 0, none⟩ = some (.int .i64 k2) ∧ wx.cell? ⟨g2, 1, none⟩ = some (.string s2) ∧ wx.cell? ⟨g2, 2, none⟩ = some (.int .i64 n2) ∧ wx.cell? ⟨g2, 3, none⟩ = some (.slice A2 ps2.length c2) ∧ wx.cell? ⟨g2, 4, none⟩ = some (.slice B2 fs2.length d2) ∧ wx.cell? ⟨g2, 5, none⟩ = some (.slice C2 vs2.length e2)) := Lib.hid fun wx h => ⟨cz5 (box_up h (Array.getElem?_eq_some_iff.1 hx).1 hx), cz6 (box_up h (Array.getElem?_eq_some_iff.1 hy).1 hy)⟩
 have HVV : Hid (vv.k = k ∧ vv.t = s ∧ vv.n = n ∧ vv.parts = ps) := Lib.hid (by rw [hvv]; exact ⟨rfl, rfl, rfl, rfl⟩)
 have HTV : Hid (tv.k = k2 ∧ tv.t = s2 ∧ tv.n = n2 ∧ tv.ps = ps2) := Lib.hid (by rw [htv]; exact ⟨rfl, rfl, rfl, rfl⟩)
 have HL : Hid (∀ wx, Below w1.heap.size w1 wx → ListT K wx ps2 A2 c2) := Lib.hid fun wx h => hL.later h
 have HP : Hid (∀ wx, Below w1.heap.size w1 wx → ListW2 wx ps B) := Lib.hid fun wx h => hP.later h
 have HLN : Hid (ps2.length ≤ 1000000000000000 ∧ ps.length ≤ 1000000000000000) := Lib.hid (by obtain ⟨_, _, r2, -⟩ := hL; exact ⟨r2.big, hP.1⟩)
 have HGP : Hid (∀ p ∈ ps2, GdT p ∧ noF p = true) := Lib.hid fun p hp => ⟨hgp p hp, hnp p hp⟩
 have HRV : Hid (∀ wx, Below w1.heap.size w1 wx → RepV wx vv [.int .i64 k, .string s, .int .i64 n, .slice A nm.length c, .slice B ps.length d]) := Lib.hid fun wx h => by rw [hvv]; exact hv1.later h
 replace HW1 := Lib.hid HW1
 replace HG1 := Lib.hid HG1
 replace HG2 := Lib.hid HG2
 have HI : Hid (IsV vv tv ↔ k = 8 ∧ s = s2) := Lib.hid (by rw [isv_str (by rw [htv]; exact hk), HVV.out.1, HVV.out.2.1, HTV.out.2.1])
 obtain rfl : k2 = 10 := hk
 clear hr hv hg hn hb1 hx hy hgp hnp hr1 hv1 hvv htv hPO hN hP hL
 go_enter Tryz.func17, Tryz.ntmps17
 go_upto_region 1 with fail
 rw [HW1.out, HG1.out, HG2.out]
 obtain ⟨⟨x0, x1, x2, x3, x4⟩, y0, y1, y2, y3, y4, y5⟩ := HX.out w1 (Below.refl _ _)
 by_cases hk : k = 8
 ·have tk : (k == 8) = true := by simp [hk]
  have HK := Lib.hid hk
  clear hk
  by_cases he : s = s2
  ·have te : (s.toList == s2.toList) = true := by rw [bytesEq]; exact decide_eq_true he
   have HE := Lib.hid he
   clear he
   go_wp2_with fail
   exact HPO.out _ _ (iff_of_true rfl (HI.out.2 ⟨HK.out, HE.out⟩)) (Below.refl _ _)
  ·have te : (s.toList == s2.toList) = false := by rw [bytesEq]; exact decide_eq_false he
   have HE := Lib.hid he
   clear he
   go_wp2_with fail
   exact HPO.out _ _ (iff_of_false (by decide) fun h => HE.out (HI.out.1 h).2) (Below.refl _ _)
 ·have tk : (k == 8) = false := by simp [hk]
  have HK := Lib.hid hk
  clear hk
  go_wp2_with fail
  exact HPO.out _ _ (iff_of_false (by decide) fun h => HK.out (HI.out.1 h).1) (Below.refl _ _)
set_option maxRecDepth 100000 in
set_option maxHeartbeats 16000000 in
theorem is_no {K : Nat → Prop} {w : World} {v : Val} {t : Ty} {cs ds : List Value} (hr : RepT K w t cs) (hv : RepV w v ds) (hg : GdT t) (hn : noF t = true) (hk : t.k < 2 ∨ t.k = 13 ∨ 15 < t.k) :
  Calls Tryz.prog 17 #[.agg ds.toArray, .agg cs.toArray] w fun e w' => (∃ r : Bool, e = .returned (.bool r) ∧ (r = true ↔ IsV v t)) ∧ Below w.heap.size w w' := by
 obtain ⟨w1, g1, g2, HW1, HG1, HG2, hb1, hx, hy⟩ := box_vt w ds cs
 have hgp := fun p hp => hg.part (p := p) hp
 have hnp := (noF_get hn).2.2.1
 have hr1 := hr.later hb1
 have hv1 := hv.later hb1
 obtain ⟨vv, hvv⟩ : ∃ x, x = v := ⟨_, rfl⟩
 obtain ⟨tv, htv⟩ : ∃ x, x = t := ⟨_, rfl⟩
 obtain ⟨PO, hPO⟩ : ∃ PO : Ending → World → Prop, PO = fun e w' => (∃ r : Bool, e = .returned (.bool r) ∧ (r = true ↔ IsV v t)) ∧ Below w.heap.size w w' := ⟨_, rfl⟩
 have HPO : Hid (∀ (r : Bool) w', (r = true ↔ IsV vv tv) → Below w1.heap.size w1 w' → PO (.returned (.bool r)) w') := Lib.hid fun r w' h1 h2 => by rw [hPO]; exact ⟨⟨r, rfl, by rw [← hvv, ← htv]; exact h1⟩, hb1.trans (h2.mono hb1.size)⟩
 rw [← hPO]
 obtain ⟨k, s, n, nm, ps⟩ := v
 obtain ⟨A, c, B, d, rfl, hN, hP⟩ := hv1.inv
 obtain ⟨k2, s2, n2, ps2, fs2, vs2⟩ := t
 obtain ⟨A2, c2, B2, d2, C2, e2, rfl, -, hL, -⟩ := hr1.inv
 simp only [cells6T] at hx hy HW1 ⊢
 have HX : Hid (∀ wx, Below w1.heap.size w1 wx → (wx.cell? ⟨g1, 0, none⟩ = some (.int .i64 k) ∧ wx.cell? ⟨g1, 1, none⟩ = some (.string s) ∧ wx.cell? ⟨g1, 2, none⟩ = some (.int .i64 n) ∧ wx.cell? ⟨g1, 3, none⟩ = some (.slice A nm.length c) ∧ wx.cell? ⟨g1, 4, none⟩ = some (.slice B ps.length d)) ∧ wx.cell? ⟨g2, 0, none⟩ = some (.int .i64 k2) ∧ wx.cell? ⟨g2, 1, none⟩ = some (.string s2) ∧ wx.cell? ⟨g2, 2, none⟩ = some (.int .i64 n2) ∧ wx.cell? ⟨g2, 3, none⟩ = some (.slice A2 ps2.length c2) ∧ wx.cell? ⟨g2, 4, none⟩ = some (.slice B2 fs2.length d2) ∧ wx.cell? ⟨g2, 5, none⟩ = some (.slice C2 vs2.length e2)) := Lib.hid fun wx h => ⟨cz5 (box_up h (Array.getElem?_eq_some_iff.1 hx).1 hx), cz6 (box_up h (Array.getElem?_eq_some_iff.1 hy).1 hy)⟩
 have HVV : Hid (vv.k = k ∧ vv.t = s ∧ vv.n = n ∧ vv.parts = ps) := Lib.hid (by rw [hvv]; exact ⟨rfl, rfl, rfl, rfl⟩)
 have HTV : Hid (tv.k = k2 ∧ tv.t = s2 ∧ tv.n = n2 ∧ tv.ps = ps2) := Lib.hid (by rw [htv]; exact ⟨rfl, rfl, rfl, rfl⟩)
 have HL : Hid (∀ wx, Below w1.heap.size w1 wx → ListT K wx ps2 A2 c2) := Lib.hid fun wx h => hL.later h
 have HP : Hid (∀ wx, Below w1.heap.size w1 wx → ListW2 wx ps B) := Lib.hid fun wx h => hP.later h
 have HLN : Hid (ps2.length ≤ 1000000000000000 ∧ ps.length ≤ 1000000000000000) := Lib.hid (by obtain ⟨_, _, r2, -⟩ := hL; exact ⟨r2.big, hP.1⟩)
 have HGP : Hid (∀ p ∈ ps2, GdT p ∧ noF p = true) := Lib.hid fun p hp => ⟨hgp p hp, hnp p hp⟩
 have HRV : Hid (∀ wx, Below w1.heap.size w1 wx → RepV wx vv [.int .i64 k, .string s, .int .i64 n, .slice A nm.length c, .slice B ps.length d]) := Lib.hid fun wx h => by rw [hvv]; exact hv1.later h
 replace HW1 := Lib.hid HW1
 replace HG1 := Lib.hid HG1
 replace HG2 := Lib.hid HG2
 have HI : Hid (¬ IsV vv tv) := Lib.hid (isv_no (by rw [htv]; exact hk))
 replace hk : k2 < 2 ∨ k2 = 13 ∨ 15 < k2 := hk
 have tn3 : (k2 == 3) = false := by rw [beq_eq_false_iff_ne]; omega
 have tn2 : (k2 == 2) = false := by rw [beq_eq_false_iff_ne]; omega
 have tn4 : (k2 == 4) = false := by rw [beq_eq_false_iff_ne]; omega
 have tn5 : (k2 == 5) = false := by rw [beq_eq_false_iff_ne]; omega
 have tn6 : (k2 == 6) = false := by rw [beq_eq_false_iff_ne]; omega
 have tn7 : (k2 == 7) = false := by rw [beq_eq_false_iff_ne]; omega
 have tn8 : (k2 == 8) = false := by rw [beq_eq_false_iff_ne]; omega
 have tn9 : (k2 == 9) = false := by rw [beq_eq_false_iff_ne]; omega
 have tn10 : (k2 == 10) = false := by rw [beq_eq_false_iff_ne]; omega
 have tn11 : (k2 == 11) = false := by rw [beq_eq_false_iff_ne]; omega
 have tn12 : (k2 == 12) = false := by rw [beq_eq_false_iff_ne]; omega
 have tn15 : (k2 == 15) = false := by rw [beq_eq_false_iff_ne]; omega
 have tn14 : (k2 == 14) = false := by rw [beq_eq_false_iff_ne]; omega
 clear hk hr hv hg hn hb1 hx hy hgp hnp hr1 hv1 hvv htv hPO hN hP hL
 go_enter Tryz.func17, Tryz.ntmps17
 go_upto_region 1 with fail
 rw [HW1.out, HG1.out, HG2.out]
 obtain ⟨⟨x0, x1, x2, x3, x4⟩, y0, y1, y2, y3, y4, y5⟩ := HX.out w1 (Below.refl _ _)
 go_wp2_with fail
 exact HPO.out _ _ (iff_of_false (by decide) HI.out) (Below.refl _ _)
set_option maxRecDepth 100000 in
set_option maxHeartbeats 16000000 in
theorem is_obj {K : Nat → Prop} {w : World} {v : Val} {t : Ty} {cs ds : List Value} (hr : RepT K w t cs) (hv : RepV w v ds) (hg : GdT t) (hn : noF t = true) (hk : t.k = 14) (ih : ∀ f ∈ t.fs, IsP f.2.2) :
  Calls Tryz.prog 17 #[.agg ds.toArray, .agg cs.toArray] w fun e w' => (∃ r : Bool, e = .returned (.bool r) ∧ (r = true ↔ IsV v t)) ∧ Below w.heap.size w w' := by
 obtain ⟨w1, g1, g2, HW1, HG1, HG2, hb1, hx, hy⟩ := box_vt w ds cs
 have hgp := fun p hp => hg.part (p := p) hp
 have hnp := (noF_get hn).2.2.1
 have hr1 := hr.later hb1
 have hv1 := hv.later hb1
 have hfi := fields_15 hr1 hv1 hg hk hn ih
 obtain ⟨vv, hvv⟩ : ∃ x, x = v := ⟨_, rfl⟩
 obtain ⟨tv, htv⟩ : ∃ x, x = t := ⟨_, rfl⟩
 obtain ⟨PO, hPO⟩ : ∃ PO : Ending → World → Prop, PO = fun e w' => (∃ r : Bool, e = .returned (.bool r) ∧ (r = true ↔ IsV v t)) ∧ Below w.heap.size w w' := ⟨_, rfl⟩
 have HPO : Hid (∀ (r : Bool) w', (r = true ↔ IsV vv tv) → Below w1.heap.size w1 w' → PO (.returned (.bool r)) w') := Lib.hid fun r w' h1 h2 => by rw [hPO]; exact ⟨⟨r, rfl, by rw [← hvv, ← htv]; exact h1⟩, hb1.trans (h2.mono hb1.size)⟩
 rw [← hPO]
 obtain ⟨k, s, n, nm, ps⟩ := v
 obtain ⟨A, c, B, d, rfl, hN, hP⟩ := hv1.inv
 obtain ⟨k2, s2, n2, ps2, fs2, vs2⟩ := t
 obtain ⟨A2, c2, B2, d2, C2, e2, rfl, -, hL, -⟩ := hr1.inv
 simp only [cells6T] at hx hy HW1 hfi ⊢
 have HX : Hid (∀ wx, Below w1.heap.size w1 wx → (wx.cell? ⟨g1, 0, none⟩ = some (.int .i64 k) ∧ wx.cell? ⟨g1, 1, none⟩ = some (.string s) ∧ wx.cell? ⟨g1, 2, none⟩ = some (.int .i64 n) ∧ wx.cell? ⟨g1, 3, none⟩ = some (.slice A nm.length c) ∧ wx.cell? ⟨g1, 4, none⟩ = some (.slice B ps.length d)) ∧ wx.cell? ⟨g2, 0, none⟩ = some (.int .i64 k2) ∧ wx.cell? ⟨g2, 1, none⟩ = some (.string s2) ∧ wx.cell? ⟨g2, 2, none⟩ = some (.int .i64 n2) ∧ wx.cell? ⟨g2, 3, none⟩ = some (.slice A2 ps2.length c2) ∧ wx.cell? ⟨g2, 4, none⟩ = some (.slice B2 fs2.length d2) ∧ wx.cell? ⟨g2, 5, none⟩ = some (.slice C2 vs2.length e2)) := Lib.hid fun wx h => ⟨cz5 (box_up h (Array.getElem?_eq_some_iff.1 hx).1 hx), cz6 (box_up h (Array.getElem?_eq_some_iff.1 hy).1 hy)⟩
 have HVV : Hid (vv.k = k ∧ vv.t = s ∧ vv.n = n ∧ vv.parts = ps) := Lib.hid (by rw [hvv]; exact ⟨rfl, rfl, rfl, rfl⟩)
 have HTV : Hid (tv.k = k2 ∧ tv.t = s2 ∧ tv.n = n2 ∧ tv.ps = ps2) := Lib.hid (by rw [htv]; exact ⟨rfl, rfl, rfl, rfl⟩)
 have HL : Hid (∀ wx, Below w1.heap.size w1 wx → ListT K wx ps2 A2 c2) := Lib.hid fun wx h => hL.later h
 have HP : Hid (∀ wx, Below w1.heap.size w1 wx → ListW2 wx ps B) := Lib.hid fun wx h => hP.later h
 have HLN : Hid (ps2.length ≤ 1000000000000000 ∧ ps.length ≤ 1000000000000000) := Lib.hid (by obtain ⟨_, _, r2, -⟩ := hL; exact ⟨r2.big, hP.1⟩)
 have HGP : Hid (∀ p ∈ ps2, GdT p ∧ noF p = true) := Lib.hid fun p hp => ⟨hgp p hp, hnp p hp⟩
 have HRV : Hid (∀ wx, Below w1.heap.size w1 wx → RepV wx vv [.int .i64 k, .string s, .int .i64 n, .slice A nm.length c, .slice B ps.length d]) := Lib.hid fun wx h => by rw [hvv]; exact hv1.later h
 replace HW1 := Lib.hid HW1
 replace HG1 := Lib.hid HG1
 replace HG2 := Lib.hid HG2
 have HI : Hid (IsV vv tv ↔ k = 14 ∧ ∀ f ∈ tv.fs, FldOne vv f) := Lib.hid (by rw [isv_obj (by rw [htv]; exact hk), HVV.out.1])
 obtain rfl : k2 = 14 := hk
 have hfi2 : Calls Tryz.prog 33 #[.agg #[.int .i64 k, .string s, .int .i64 n, .slice A nm.length c, .slice B ps.length d], .agg #[.int .i64 14, .string s2, .int .i64 n2, .slice A2 ps2.length c2, .slice B2 fs2.length d2, .slice C2 vs2.length e2]] w1 fun e w' => (∃ r : Bool, e = .returned (.bool r) ∧ (r = true ↔ ∀ f ∈ tv.fs, FldOne vv f)) ∧ Below w1.heap.size w1 w' := by rw [hvv, htv]; exact hfi
 have HFI := Lib.hid hfi2
 clear ih hfi hfi2 hr hv hg hn hb1 hx hy hgp hnp hr1 hv1 hvv htv hPO hN hP hL
 go_enter Tryz.func17, Tryz.ntmps17
 go_upto_region 1 with fail
 rw [HW1.out, HG1.out, HG2.out]
 obtain ⟨⟨x0, x1, x2, x3, x4⟩, y0, y1, y2, y3, y4, y5⟩ := HX.out w1 (Below.refl _ _)
 by_cases hk : k = 14
 ·have tk : (k == 14) = true := by simp [hk]
  have HK := Lib.hid hk
  clear hk
  go_wp2_with fail
  refine HFI.out.mono ?_
  rintro e5 w5 ⟨⟨r, rfl, hr5⟩, hb5⟩
  have HFIN : Hid (∀ r' : Bool, r' = r → PO (.returned (.bool r')) w5) := Lib.hid fun r' e => HPO.out r' w5 (by rw [e, hr5, HI.out]; exact ⟨fun h => ⟨HK.out, h⟩, fun h => h.2⟩) hb5
  clear hr5 hb5
  go_wp2_with fail
  exact HFIN.out _ rfl
 ·have tk : (k == 14) = false := by simp [hk]
  have HK := Lib.hid hk
  clear hk
  go_wp2_with fail
  exact HPO.out _ _ (iff_of_false (by decide) fun h => HK.out (HI.out.1 h).1) (Below.refl _ _)
end Go.Proofs.YtgjblmlibhppiaaGreatDoor
