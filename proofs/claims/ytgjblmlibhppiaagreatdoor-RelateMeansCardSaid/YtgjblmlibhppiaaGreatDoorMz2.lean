import Derived.Test.YtgjblmlibhppiaaGreatDoorMz0
namespace Go.Proofs.YtgjblmlibhppiaaGreatDoor
open Go.RowKit
theorem cz5 {W : World} {b : Nat} {T : TypeId} {x0 x1 x2 x3 x4 : Value} (h : W.heap[b]? = some (.cells #[x0, x1, x2, x3, x4] T (0, 0))) : W.cell? ⟨b, 0, none⟩ = some x0 ∧ W.cell? ⟨b, 1, none⟩ = some x1 ∧ W.cell? ⟨b, 2, none⟩ = some x2 ∧ W.cell? ⟨b, 3, none⟩ = some x3 ∧ W.cell? ⟨b, 4, none⟩ = some x4 := ⟨Lib.cell_of_heap h 0, Lib.cell_of_heap h 1, Lib.cell_of_heap h 2, Lib.cell_of_heap h 3, Lib.cell_of_heap h 4⟩
def WoP (t : Ty) : Prop := ∀ (K : Nat → Prop) (w : World) (cs : List Value), RepT K w t cs → Calls Tryz.prog 16 #[.agg cs.toArray] w fun e w' => e = .returned (.bool (noF t)) ∧ Below w.heap.size w w'
set_option maxRecDepth 100000 in
set_option maxHeartbeats 16000000 in
theorem without_15 (t : Ty) : WoP t := by
 refine Ty.ind (C := WoP) (fun k s n ps fs vs hp hf _ => ?_) t
 intro K w cs hr
 obtain ⟨A, c, B, d, C, e, rfl, ht, hL, hF, hV⟩ := hr.inv
 simp only [cells6T]
 obtain ⟨g, hg⟩ : ∃ g, g = w.heap.size := ⟨_, rfl⟩
 obtain ⟨w1, hw1⟩ : ∃ x, x = w.alloc (.cells #[.int .i64 k, .string s, .int .i64 n, .slice A ps.length c, .slice B fs.length d, .slice C vs.length e] 26) := ⟨_, rfl⟩
 have hb1 : Below w.heap.size w w1 := by rw [hw1]; exact (Below.refl _ _).alloc (Nat.le_refl _) _
 have hx1 : w1.heap[g]? = some (.cells #[.int .i64 k, .string s, .int .i64 n, .slice A ps.length c, .slice B fs.length d, .slice C vs.length e] 26 (0, 0)) := by rw [hw1, hg]; exact heap_alloc_new w _
 have hgl := (Array.getElem?_eq_some_iff.1 hx1).1
 have HX : Hid (∀ wx, Below w1.heap.size w1 wx → wx.cell? ⟨g, 0, none⟩ = some (.int .i64 k) ∧ wx.cell? ⟨g, 1, none⟩ = some (.string s) ∧ wx.cell? ⟨g, 2, none⟩ = some (.int .i64 n) ∧ wx.cell? ⟨g, 3, none⟩ = some (.slice A ps.length c) ∧ wx.cell? ⟨g, 4, none⟩ = some (.slice B fs.length d) ∧ wx.cell? ⟨g, 5, none⟩ = some (.slice C vs.length e)) := Lib.hid fun wx hx => cz6 (box_up hx hgl hx1)
 have HP : Hid (∀ wx, Below w1.heap.size w1 wx → ListT K wx ps A c) := Lib.hid fun wx hx => (hL.later hb1).later hx
 have HF : Hid (∀ wx, Below w1.heap.size w1 wx → ListF K wx fs B d) := Lib.hid fun wx hx => (hF.later hb1).later hx
 have HIP := Lib.hid hp
 have HIF := Lib.hid hf
 have HLN : Hid (ps.length ≤ 1000000000000000 ∧ fs.length ≤ 1000000000000000) := Lib.hid (by obtain ⟨_, _, r1, -⟩ := hL; obtain ⟨_, _, r2, -⟩ := hF; exact ⟨r1.big, r2.big⟩)
 have HB1 := Lib.hid hb1
 have HW1 := Lib.hid hw1
 have HG := Lib.hid hg
 obtain ⟨R, hR⟩ : ∃ R, R = noF (.mk k s n ps fs vs) := ⟨_, rfl⟩
 rw [← hR]
 rw [noF_mk] at hR
 have HR0 := Lib.hid hR
 clear hr hL hF hV hp hf hg hw1 hb1 hx1 hgl hR
 go_enter Tryz.func16, Tryz.ntmps16
 go_upto_region 1 with fail
 rw [← HW1.out, ← HG.out]
 obtain ⟨x0, x1, x2, x3, x4, x5⟩ := HX.out w1 (Below.refl _ _)
 by_cases h13 : k = 13
 ·have te : (k == 13) = true := by simp [h13]
  have HRF : Hid (R = false) := Lib.hid (by rw [HR0.out, te]; rfl)
  clear h13
  go_wp2_with fail
  go_ret
  exact ⟨by rw [HRF.out]; rfl, HB1.out⟩
 have te : (k == 13) = false := by simp [h13]
 by_cases h23 : k = 23
 ·have tf : (k == 23) = true := by simp [h23]
  have HRF : Hid (R = false) := Lib.hid (by rw [HR0.out, te, tf]; rfl)
  clear h13 h23
  go_wp2_with fail
  go_ret
  exact ⟨by rw [HRF.out]; rfl, HB1.out⟩
 have tf : (k == 23) = false := by simp [h23]
 have HRR : Hid (((∀ p ∈ ps, noF p = true) → (∀ f ∈ fs, noF f.2.2 = true) → R = true) ∧ (False ∨ (∃ p ∈ ps, noF p = false) ∨ (∃ f ∈ fs, noF f.2.2 = false) → R = false)) := Lib.hid (by
  rw [HR0.out, te, tf]
  refine ⟨fun h2 h3 => ?_, ?_⟩
  ·rw [List.all_eq_true.2 h2, List.all_eq_true.2 h3]
   rfl
  ·rintro (h | ⟨p, hp, h⟩ | ⟨p, hp, h⟩)
   ·exact h.elim
   ·rw [List.all_eq_false.2 ⟨p, hp, by rw [h]; decide⟩]
    rfl
   ·rw [List.all_eq_false.2 ⟨p, hp, by rw [h]; decide⟩, Bool.and_false]
    rfl)
 have HBI : Hid (Below w1.heap.size w1 w1) := Lib.hid (Below.refl _ _)
 clear h13 h23
 go_wp2_with fail
 clear te tf x0 x1 x2 x3 x4 x5
 go_loopw [3] (fun v wj => ∃ j : Nat, j ≤ ps.length ∧ v = .int .i64 j ∧ Below w1.heap.size w1 wj ∧ ∀ p ∈ ps.take j, noF p = true) (fun v _ => ps.length - (intOf v).toNat)
 case atStart => exact ⟨0, Nat.zero_le _, rfl, HBI.out, fun p hp => absurd hp (by simp)⟩
 case round =>
  obtain ⟨j, hj, rfl, hb, hno⟩ := hrel
  have HB := Lib.hid hb
  have hln := HLN.out
  obtain ⟨x0, x1, x2, x3, x4, x5⟩ := HX.out _ hb
  by_cases hjn : j < ps.length
  ·have t2 : decide ((j : Int) < (ps.length : Int)) = true := by simp; omega
   have wr3 : wrap64 ((j : Int) + 1) = ((j + 1 : Nat) : Int) := wrap_one (by omega)
   have HM2 := Lib.hid (measI hjn)
   have HJn : Hid (j + 1 ≤ ps.length) := Lib.hid hjn
   obtain ⟨tb, tq, hA, -, hbat⟩ := (HP.out _ hb).at (Nat.lt_of_le_of_lt (Nat.zero_le j) hjn)
   subst hA
   obtain ⟨es, hes, hrq⟩ := hbat j hjn
   have hmem := List.getElem_mem hjn
   have hih := HIP.out (ps[j]'hjn) hmem
   have HNX : Hid (noF (ps[j]'hjn) = true → ∀ p ∈ ps.take (j + 1), noF p = true) := Lib.hid fun h => mem_take_next (Q := fun p => noF p = true) hjn hno h
   have HTR : Hid (noF (ps[j]'hjn) = false → R = false) := Lib.hid fun h => HRR.out.2 (.inr (.inl ⟨_, hmem, h⟩))
   have KH := Lib.hid (hih K _ es hrq)
   have j1 : (0 : Int) ≤ (j : Int) := by omega
   have j2 : (j : Int) < (ps.length : Int) := by omega
   generalize (ps[j]'hjn) = pi at hrq KH HNX HTR
   obtain ⟨q, hq⟩ : ∃ q, q = noF pi := ⟨_, rfl⟩
   rw [← hq] at KH HNX HTR
   clear hj hb hno hln hbat hmem hih hq
   obtain ⟨k2, s2, n2, ps2, fs2, vs2⟩ := pi
   obtain ⟨A2, c2, B2, d2, C2, e2, rfl, -⟩ := hrq.inv
   simp only [cells6T] at hes KH
   obtain ⟨y0, y1, y2, y3, y4, y5⟩ : (wr.cell? ⟨tb, tq + j * 6, none⟩ = some (.int .i64 k2) ∧ wr.cell? ⟨tb, tq + j * 6 + 1, none⟩ = some (.string s2) ∧ wr.cell? ⟨tb, tq + j * 6 + 2, none⟩ = some (.int .i64 n2) ∧ wr.cell? ⟨tb, tq + j * 6 + 3, none⟩ = some (.slice A2 ps2.length c2) ∧ wr.cell? ⟨tb, tq + j * 6 + 4, none⟩ = some (.slice B2 fs2.length d2) ∧ wr.cell? ⟨tb, tq + j * 6 + 5, none⟩ = some (.slice C2 vs2.length e2)) := ⟨hes 0 _ rfl, hes 1 _ rfl, hes 2 _ rfl, hes 3 _ rfl, hes 4 _ rfl, hes 5 _ rfl⟩
   clear hes hrq
   go_wp2_with fail
   refine KH.out.mono ?_
   rintro r w5 ⟨rfl, hb5⟩
   have HB5 : Hid (Below w1.heap.size w1 w5) := Lib.hid (HB.out.trans (hb5.mono HB.out.size))
   clear hb5 KH y0 y1 y2 y3 y4 y5 x0 x1 x2 x3 x4 x5
   cases q with
   | false =>
    go_wp2_with fail
    go_ret
    exact ⟨by rw [HTR.out (by trivial)]; rfl, HB1.out.trans (HB5.out.mono HB1.out.size)⟩
   | true =>
    go_wp2_with fail
    refine ⟨⟨j + 1, HJn.out, by first | rfl | rw [wr3], HB5.out, HNX.out (by trivial)⟩, ?_⟩
    first | exact HM2.out | (rw [wr3]; exact HM2.out)
  ·have t2 : decide ((j : Int) < (ps.length : Int)) = false := by simp; omega
   rw [List.take_of_length_le (by omega)] at hno
   have HNP := Lib.hid hno
   clear hj hb hno hln
   go_wp2_with fail
   clear t2 hjn x0 x1 x2 x3 x4 x5
   obtain ⟨wi2, hwi⟩ : ∃ x : World, x = wr := ⟨_, rfl⟩
   have HBI : Hid (Below w1.heap.size w1 wi2) := Lib.hid (by rw [hwi]; exact HB.out)
   rw [← hwi]
   clear HB hwi
   go_loopw [4] (fun v wj => ∃ j : Nat, j ≤ fs.length ∧ v = .int .i64 j ∧ Below w1.heap.size w1 wj ∧ ∀ p ∈ fs.take j, noF p.2.2 = true) (fun v _ => fs.length - (intOf v).toNat)
   case atStart => exact ⟨0, Nat.zero_le _, rfl, HBI.out, fun p hp => absurd hp (by simp)⟩
   case round =>
    obtain ⟨j, hj, rfl, hb, hno⟩ := hrel
    have HB := Lib.hid hb
    have hln := HLN.out
    obtain ⟨x0, x1, x2, x3, x4, x5⟩ := HX.out _ hb
    by_cases hjn : j < fs.length
    ·have t2 : decide ((j : Int) < (fs.length : Int)) = true := by simp; omega
     have wr3 : wrap64 ((j : Int) + 1) = ((j + 1 : Nat) : Int) := wrap_one (by omega)
     have HM2 := Lib.hid (measI hjn)
     have HJn : Hid (j + 1 ≤ fs.length) := Lib.hid hjn
     obtain ⟨tb, tq, hA, -, hbat⟩ := (HF.out _ hb).at (Nat.lt_of_le_of_lt (Nat.zero_le j) hjn)
     subst hA
     obtain ⟨-, -, -, es, hes, hrq⟩ := hbat j hjn
     have hmem := List.getElem_mem hjn
     have hih := HIF.out (fs[j]'hjn) hmem
     have HNX : Hid (noF (fs[j]'hjn).2.2 = true → ∀ p ∈ fs.take (j + 1), noF p.2.2 = true) := Lib.hid fun h => mem_take_next (Q := fun p => noF p.2.2 = true) hjn hno h
     have HTR : Hid (noF (fs[j]'hjn).2.2 = false → R = false) := Lib.hid fun h => HRR.out.2 (.inr (.inr ⟨_, hmem, h⟩))
     have KH := Lib.hid (hih K _ es hrq)
     have j1 : (0 : Int) ≤ (j : Int) := by omega
     have j2 : (j : Int) < (fs.length : Int) := by omega
     generalize (fs[j]'hjn).2.2 = pi at hrq KH HNX HTR
     obtain ⟨q, hq⟩ : ∃ q, q = noF pi := ⟨_, rfl⟩
     rw [← hq] at KH HNX HTR
     clear hj hb hno hln hbat hmem hih hq
     obtain ⟨k2, s2, n2, ps2, fs2, vs2⟩ := pi
     obtain ⟨A2, c2, B2, d2, C2, e2, rfl, -⟩ := hrq.inv
     simp only [cells6T] at hes KH
     obtain ⟨y0, y1, y2, y3, y4, y5⟩ : (wr.cell? ⟨tb, tq + j * 8 + 2, none⟩ = some (.int .i64 k2) ∧ wr.cell? ⟨tb, tq + j * 8 + 2 + 1, none⟩ = some (.string s2) ∧ wr.cell? ⟨tb, tq + j * 8 + 2 + 2, none⟩ = some (.int .i64 n2) ∧ wr.cell? ⟨tb, tq + j * 8 + 2 + 3, none⟩ = some (.slice A2 ps2.length c2) ∧ wr.cell? ⟨tb, tq + j * 8 + 2 + 4, none⟩ = some (.slice B2 fs2.length d2) ∧ wr.cell? ⟨tb, tq + j * 8 + 2 + 5, none⟩ = some (.slice C2 vs2.length e2)) := ⟨hes 0 _ rfl, hes 1 _ rfl, hes 2 _ rfl, hes 3 _ rfl, hes 4 _ rfl, hes 5 _ rfl⟩
     clear hes hrq
     go_wp2_with fail
     refine KH.out.mono ?_
     rintro r w5 ⟨rfl, hb5⟩
     have HB5 : Hid (Below w1.heap.size w1 w5) := Lib.hid (HB.out.trans (hb5.mono HB.out.size))
     clear hb5 KH y0 y1 y2 y3 y4 y5 x0 x1 x2 x3 x4 x5
     cases q with
     | false =>
      go_wp2_with fail
      go_ret
      exact ⟨by rw [HTR.out (by trivial)]; rfl, HB1.out.trans (HB5.out.mono HB1.out.size)⟩
     | true =>
      go_wp2_with fail
      refine ⟨⟨j + 1, HJn.out, by first | rfl | rw [wr3], HB5.out, HNX.out (by trivial)⟩, ?_⟩
      first | exact HM2.out | (rw [wr3]; exact HM2.out)
    ·have t2 : decide ((j : Int) < (fs.length : Int)) = false := by simp; omega
     rw [List.take_of_length_le (by omega)] at hno
     have HNF := Lib.hid hno
     clear hj hb hno hln
     go_wp2_with fail
     go_ret
     exact ⟨by rw [HRR.out.1 HNP.out HNF.out]; rfl, HB1.out.trans (HB.out.mono HB1.out.size)⟩
set_option maxRecDepth 100000 in
set_option maxHeartbeats 16000000 in
theorem size_15 {w : World} {v : Val} {cs : List Value} (h : RepV w v cs) : ∀ wx, Below w.heap.size w wx → Calls Tryz.prog 15 #[.agg cs.toArray] wx fun e w' => (∃ z, e = .returned (.int .i64 z)) ∧ Below wx.heap.size wx w' := by
 induction h with
 | mk k s n nm ps A c B d nb no pb po pc h1 h2 h3 h4 ncell pcell prep ih =>
 intro w0 hb0
 obtain ⟨w1, hw1⟩ : ∃ x, x = w0.alloc (.cells #[.int .i64 k, .string s, .int .i64 n, .slice A nm.length c, .slice B ps.length d] 41) := ⟨_, rfl⟩
 obtain ⟨g, hg⟩ : ∃ x, x = w0.heap.size := ⟨_, rfl⟩
 have hb1 : Below w0.heap.size w0 w1 := by rw [hw1]; exact (Below.refl _ _).alloc (Nat.le_refl _) _
 have hx1 : w1.heap[g]? = some (.cells #[.int .i64 k, .string s, .int .i64 n, .slice A nm.length c, .slice B ps.length d] 41 (0, 0)) := by rw [hw1, hg]; exact heap_alloc_new w0 _
 have hw01 : Below w.heap.size w w1 := hb0.trans (hb1.mono hb0.size)
 have HX : Hid (∀ wx, Below w1.heap.size w1 wx → wx.cell? ⟨g, 4, none⟩ = some (.slice B ps.length d)) := Lib.hid fun wx h => Lib.cell_of_heap (box_up h (Array.getElem?_eq_some_iff.1 hx1).1 hx1) 4
 have HP : Hid (∀ wx, Below w1.heap.size w1 wx → ∀ i (h : i < ps.length), B = some ⟨pb, po, none⟩ ∧ (∀ j u, (pc i)[j]? = some u → wx.cell? ⟨pb, po + i * 5 + j, none⟩ = some u) ∧ RepV w (ps[i]'h) (pc i)) := Lib.hid fun wx hx i hi => ⟨h4 (by omega), fun j u hu => cell_stays (hw01.trans (hx.mono hw01.size)) (pcell i hi j u hu), prep i hi⟩
 have HIH : Hid (∀ i (hi : i < ps.length) wx, Below w1.heap.size w1 wx → Calls Tryz.prog 15 #[.agg (pc i).toArray] wx fun e w' => (∃ z, e = .returned (.int .i64 z)) ∧ Below wx.heap.size wx w') := Lib.hid fun i hi wx hx => ih i hi wx (hw01.trans (hx.mono hw01.size))
 have HLN := Lib.hid h2
 have HB1 := Lib.hid hb1
 have HW1 := Lib.hid hw1
 have HG := Lib.hid hg
 clear h1 h2 h3 h4 ncell pcell prep ih hw1 hg hb1 hx1 hw01
 go_enter Tryz.func15, Tryz.ntmps15
 go_upto_region 1 with fail
 rw [← HW1.out, ← HG.out]
 go_wp2_with fail
 go_loopw [3, 4] (fun u v wr => ∃ (z : Int) (i : Nat), u = .int .i64 z ∧ v = .int .i64 i ∧ i ≤ ps.length ∧ Below w1.heap.size w1 wr) (fun _ v _ => ps.length - (intOf v).toNat)
 case atStart => exact ⟨1, 0, rfl, rfl, Nat.zero_le _, Below.refl _ _⟩
 case round =>
  obtain ⟨z, i, rfl, rfl, hi, hb⟩ := hrel
  have HB := Lib.hid hb
  have hln := HLN.out
  have x4 := HX.out _ hb
  by_cases hin : i < ps.length
  ·have t1 : decide ((i : Int) < (ps.length : Int)) = true := by simp; omega
   by_cases hz : z ≤ 1000
   ·have t2 : decide (z ≤ 1000) = true := decide_eq_true hz
    have wr2 : wrap64 ((i : Int) + 1) = ((i + 1 : Nat) : Int) := wrap_one (by omega)
    have HM := Lib.hid (measI hin)
    have HIn : Hid (i + 1 ≤ ps.length) := Lib.hid hin
    obtain ⟨hA, hat, hrv⟩ := HP.out _ hb i hin
    subst hA
    have KH := Lib.hid (HIH.out i hin _ hb)
    have i1 : (0 : Int) ≤ (i : Int) := by omega
    have i2 : (i : Int) < (ps.length : Int) := by omega
    generalize hes : pc i = es at hat hrv KH
    generalize ps[i]'hin = pv at hrv
    obtain ⟨k3, s3, n3, nm3, ps3⟩ := pv
    obtain ⟨A3, c3, B3, d3, rfl, -, -⟩ := hrv.inv
    obtain ⟨y0, y1, y2, y3, y4⟩ : (wr.cell? ⟨pb, po + i * 5, none⟩ = some (.int .i64 k3) ∧ wr.cell? ⟨pb, po + i * 5 + 1, none⟩ = some (.string s3) ∧ wr.cell? ⟨pb, po + i * 5 + 2, none⟩ = some (.int .i64 n3) ∧ wr.cell? ⟨pb, po + i * 5 + 3, none⟩ = some (.slice A3 nm3.length c3) ∧ wr.cell? ⟨pb, po + i * 5 + 4, none⟩ = some (.slice B3 ps3.length d3)) := ⟨hat 0 _ rfl, hat 1 _ rfl, hat 2 _ rfl, hat 3 _ rfl, hat 4 _ rfl⟩
    clear hi hb hln hat hrv hes
    go_wp2_with fail
    refine KH.out.mono ?_
    rintro e5 w5 ⟨⟨z5, rfl⟩, hb5⟩
    have HB5 : Hid (Below w1.heap.size w1 w5) := Lib.hid (HB.out.trans (hb5.mono HB.out.size))
    clear hb5 KH y0 y1 y2 y3 y4 x4
    go_wp2_with fail
    refine ⟨⟨_, i + 1, rfl, by first | rfl | rw [wr2], HIn.out, HB5.out⟩, ?_⟩
    first | exact HM.out | (rw [wr2]; exact HM.out)
   ·have t2 : decide (z ≤ 1000) = false := decide_eq_false hz
    clear hi hb hln
    go_wp2_with fail
    go_ret
    exact ⟨⟨_, rfl⟩, HB1.out.trans (HB.out.mono HB1.out.size)⟩
  ·have t1 : decide ((i : Int) < (ps.length : Int)) = false := by simp; omega
   clear hi hb hln
   go_wp2_with fail
   go_ret
   exact ⟨⟨_, rfl⟩, HB1.out.trans (HB.out.mono HB1.out.size)⟩
end Go.Proofs.YtgjblmlibhppiaaGreatDoor
