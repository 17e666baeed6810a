import Derived.Test.YteakkjhcdpbidaaGreatDoorMk30
import Derived.Test.YteakkjhcdpbidaaGreatDoorMk31
namespace Go.Proofs.YteakkjhcdpbidaaGreatDoor
set_option maxRecDepth 100000
set_option maxHeartbeats 64000000
open Go.RowKit
theorem six_heapR {b g : Nat} (W : World) (y0 y1 y2 y3 y4 y5 : Value) (h : b ≠ g) : ((((((W.setCell ⟨g, 0, none⟩ y0).setCell ⟨g, 1, none⟩ y1).setCell ⟨g, 2, none⟩ y2).setCell ⟨g, 3, none⟩ y3).setCell ⟨g, 4, none⟩ y4).setCell ⟨g, 5, none⟩ y5).heap[b]? = W.heap[b]? := by
 rw [Below.heap_setCell _ _ _ _ h, Below.heap_setCell _ _ _ _ h, Below.heap_setCell _ _ _ _ h, Below.heap_setCell _ _ _ _ h, Below.heap_setCell _ _ _ _ h, Below.heap_setCell _ _ _ _ h]
theorem of_r13 (k : Int) (w : World) : Calls Tryz.prog 30 #[.int .i64 k] w fun e w' => e = .returned (.agg #[.int .i64 k, .string ⟨#[]⟩, .int .i64 0, .slice none 0 0, .slice none 0 0, .slice none 0 0]) ∧ Below w.heap.size w w' := by
 go_enter Tryz.func30, Tryz.ntmps30
 go_wp2_with fail
 exact bodyPost_ret (v := .agg #[.int .i64 k, .string ⟨#[]⟩, .int .i64 0, .slice none 0 0, .slice none 0 0, .slice none 0 0]) (by simp [results, Tryz.results30, go_sem]) rfl ⟨rfl, (Below.refl _ _).alloc (Nat.le_refl _) _⟩
def FdT (K : Nat → Prop) (w : World) (t : Ty) : Ending → World → Prop := fun e w' => ∃ rs, e = .returned (.agg rs.toArray) ∧ RepT (fun b => K b ∨ w.heap.size ≤ b) w' t rs ∧ Below w.heap.size w w'
theorem field_here {fs : FsT} {i : Nat} {s : ByteArray} (hi : i < fs.length) (h : fieldT fs s = fieldT (fs.drop i) s) (he : fs[i].1 = s) : fieldT fs s = heldT fs[i] := by
 rw [h, List.drop_eq_getElem_cons hi]
 unfold fieldT
 rw [List.find?_cons_of_pos (by simpa using he)]
theorem field_next {fs : FsT} {i : Nat} {s : ByteArray} (hi : i < fs.length) (h : fieldT fs s = fieldT (fs.drop i) s) (he : ¬ fs[i].1 = s) : fieldT fs s = fieldT (fs.drop (i + 1)) s := by
 rw [h, List.drop_eq_getElem_cons hi]
 unfold fieldT
 rw [List.find?_cons_of_neg (by simpa using he)]
theorem held_odd {nm : ByteArray} {fl : Int} {t : Ty} (h : fl % 2 = 1) : heldT (nm, fl, t) = unionT [t, tyK 4] := by
 unfold heldT
 rw [if_pos h]
 exact union_same fun x => by simp only [List.mem_cons, List.not_mem_nil, or_false]; exact or_comm
theorem held_even {nm : ByteArray} {fl : Int} {t : Ty} (h : ¬ fl % 2 = 1) : heldT (nm, fl, t) = t := by
 unfold heldT
 rw [if_neg h]
theorem field_ref {K : Nat → Prop} {w : World} {k : Int} {s : ByteArray} {n : Int} {ps : List Ty} {fs : FsT} {vs : VsT} {cs : List Value} (s0 : ByteArray) (hr : RepT K w (.mk k s n ps fs vs) cs) (hlo : ∀ b, K b → b < w.heap.size) (hfs : ∀ f ∈ fs, (formT f.2.2 = true ∧ cntT f.2.2 ≤ 1000000) ∧ 0 ≤ f.2.1 ∧ f.2.1 ≤ 3) :
  Calls Tryz.prog 37 #[.agg cs.toArray, .string s0] w (FdT K w (fieldT fs s0)) := by
 unfold FdT
 obtain ⟨A, c, B, d, C, e, rfl, -, -, hF, -⟩ := hr.inv
 have hll : fs.length ≤ 1000000000000000 := by obtain ⟨_, _, h1, _⟩ := hF; exact h1.big
 simp only [cells6T] at hr ⊢
 obtain ⟨w1, hw1⟩ : ∃ x, x = w.alloc (.cells #[.int .i64 k, .string s, .int .i64 n, .slice A ps.length c, .slice B fs.length d, .slice C vs.length e] 26) := ⟨_, rfl⟩
 obtain ⟨w2, hw2⟩ : ∃ x, x = w1.alloc (.cells #[.int .i64 0, .string ⟨#[]⟩, .int .i64 0, .slice none 0 0, .slice none 0 0, .slice none 0 0] 26) := ⟨_, rfl⟩
 have hb1 : Below w.heap.size w w1 := by rw [hw1]; exact (Below.refl _ _).alloc (Nat.le_refl _) _
 have hb2 : Below w1.heap.size w1 w2 := by rw [hw2]; exact (Below.refl _ _).alloc (Nat.le_refl _) _
 have hs1 : w1.heap.size = w.heap.size + 1 := by rw [hw1]; simp
 have hs2 : w2.heap.size = w.heap.size + 2 := by rw [hw2]; simp [hs1]
 have hb12 : Below w.heap.size w w2 := hb1.trans (hb2.mono hb1.size)
 have hx0 : w1.heap[w.heap.size]? = some (.cells #[.int .i64 k, .string s, .int .i64 n, .slice A ps.length c, .slice B fs.length d, .slice C vs.length e] 26 (0, 0)) := by rw [hw1]; exact heap_alloc_new w _
 have hy0 : w2.heap[w.heap.size + 1]? = some (.cells #[.int .i64 0, .string ⟨#[]⟩, .int .i64 0, .slice none 0 0, .slice none 0 0, .slice none 0 0] 26 (0, 0)) := by
  have h := heap_alloc_new w1 (.cells #[.int .i64 0, .string ⟨#[]⟩, .int .i64 0, .slice none 0 0, .slice none 0 0, .slice none 0 0] 26)
  rw [hs1, ← hw2] at h
  exact h
 have HF := Hd (hF.later hb12)
 have HB := Hd hb12
 have HS := Hd hs2
 have HX := Hd (box_up hb2 (Array.getElem?_eq_some_iff.1 hx0).1 hx0)
 have HY := Hd hy0
 have HW1 := Hd hw1
 have HW2 := Hd hw2
 have HLO := Hd hlo
 have HFS := Hd hfs
 obtain ⟨g, hg⟩ : ∃ g, g = w.heap.size + 1 := ⟨_, rfl⟩
 have HG := Hd hg
 clear hr hF hlo hfs hb1 hb2 hs1 hs2 hb12 hx0 hy0 hw1 hw2 hg
 rw [← HG.out] at HY
 go_enter Tryz.func37, Tryz.ntmps37
 go_upto_region 1 with fail
 rw [← HW1.out, ← HW2.out, ← HG.out]
 have y4 : w2.cell? ⟨w.heap.size, 4, none⟩ = some (.slice B fs.length d) := Ch HX.out 4
 go_wp2_with fail
 go_loopw [5] (fun v wr => ∃ (i : Nat), i ≤ fs.length ∧ v = .int .i64 i ∧ fieldT fs s0 = fieldT (fs.drop i) s0 ∧ Below w2.heap.size w2 wr) (fun v _ => fs.length - (intOf v).toNat)
 case atStart => exact ⟨0, by omega, rfl, by rw [List.drop_zero], Below.refl _ _⟩
 case round =>
  clear y4
  obtain ⟨i, hi, rfl, he, hb⟩ := hrel
  have HE := Hd he
  have HBR := Hd hb
  have y4 : wr.cell? ⟨w.heap.size, 4, none⟩ = some (.slice B fs.length d) := Ch (box_up hb (Array.getElem?_eq_some_iff.1 HX.out).1 HX.out) 4
  clear he hb
  by_cases hin : i < fs.length
  ·have t1 : decide ((i : Int) < (fs.length : Int)) = true := by simp; omega
   have wr2 : wrap64 ((i : Int) + 1) = ((i + 1 : Nat) : Int) := wrap_one (by omega)
   have HM := Hd (measI hin)
   have HIn : Hid (i + 1 ≤ fs.length) := Hd hin
   have hfi := HFS.out _ (List.getElem_mem hin)
   have hhere := field_here hin HE.out
   have hnext := field_next hin HE.out
   obtain ⟨fb, fo, hA, hKb, hatf⟩ := HF.out.at (by omega)
   subst hA
   obtain ⟨hn0, hn1, hn2, hn3⟩ := hatf i hin
   generalize fs[i] = f at hn0 hn1 hn2 hn3 hfi hhere hnext
   obtain ⟨nm, fl, q⟩ := f
   obtain ⟨cs3, hcs3, hr3⟩ := hn3
   have HR3 := Hd hr3
   obtain ⟨k3, s3, n3, ps3, fs3, vs3⟩ := q
   obtain ⟨A3, c3, B3, d3, C3, e3, rfl, -⟩ := hr3.inv
   simp only [cells6T] at hcs3 HR3
   have z0 := cell_stays HBR.out hn0
   have z1 := cell_stays HBR.out hn1
   have z2 := cell_stays HBR.out (hcs3 0 _ rfl)
   have z3 := cell_stays HBR.out (hcs3 1 _ rfl)
   have z4 := cell_stays HBR.out (hcs3 2 _ rfl)
   have z5 := cell_stays HBR.out (hcs3 3 _ rfl)
   have z6 := cell_stays HBR.out (hcs3 4 _ rfl)
   have z7 := cell_stays HBR.out (hcs3 5 _ rfl)
   have HHR := Hd hhere
   have HNX := Hd hnext
   have HFI := Hd hfi
   clear hi hfi hhere hnext hatf hn0 hn1 hn2 hcs3 hr3
   obtain ⟨wa, hwa⟩ : ∃ x, x = wr.alloc (.cells #[.string nm, .int .i64 fl, .int .i64 k3, .string s3, .int .i64 n3, .slice A3 ps3.length c3, .slice B3 fs3.length d3, .slice C3 vs3.length e3] 37) := ⟨_, rfl⟩
   have hba : Below wr.heap.size wr wa := by rw [hwa]; exact (Below.refl _ _).alloc (Nat.le_refl _) _
   have hxa : wa.heap[wr.heap.size]? = some (.cells #[.string nm, .int .i64 fl, .int .i64 k3, .string s3, .int .i64 n3, .slice A3 ps3.length c3, .slice B3 fs3.length d3, .slice C3 vs3.length e3] 37 (0, 0)) := by rw [hwa]; exact heap_alloc_new wr _
   have HBA := Hd (HBR.out.trans (hba.mono HBR.out.size))
   have HXA := Hd hxa
   have HGL : Hid (g < wr.heap.size ∧ g < wa.heap.size ∧ g < w2.heap.size) := Hd (by have h1 := HG.out; have h2 := HS.out; have h3 := HBR.out.size; have h4 := hba.size; omega)
   have HWA := Hd hwa
   have i1 : (0 : Int) ≤ (i : Int) := by omega
   have i2 : (i : Int) < (fs.length : Int) := by omega
   clear hwa hba hxa
   go_upto_region 5 with fail
   rw [← HWA.out]
   clear y4 z0 z1 z2 z3 z4 z5 z6 z7
   obtain ⟨u0, u1, u2, u3, u4, u5, u6, u7⟩ := cz8 HXA.out
   by_cases hnm : nm = s0
   ·have e1 : (nm.toList == s0.toList) = true := by rw [eqT]; exact decide_eq_true hnm
    have HHE := Hd (HHR.out hnm)
    clear hnm HHR HNX
    have hfl := HFI.out.2
    by_cases hod : fl % 2 = 1
    ·have e2 : (fl.tmod 2 == 1) = true := by rw [Int.tmod_eq_emod_of_nonneg hfl.1]; simpa using hod
     have HHE2 : Hid (fieldT fs s0 = unionT [.mk k3 s3 n3 ps3 fs3 vs3, tyK 4]) := Hd (by rw [HHE.out, held_odd hod])
     clear hod hfl HHE
     go_upto_region 7 with fail
     clear u0 u1 u2 u3 u4 u5 u6 u7
     have HS7 : Hid (∀ wx, Below wa.heap.size wa wx → wx.cell? ⟨wr.heap.size, 2, none⟩ = some (.int .i64 k3) ∧ wx.cell? ⟨wr.heap.size, 3, none⟩ = some (.string s3) ∧ wx.cell? ⟨wr.heap.size, 4, none⟩ = some (.int .i64 n3) ∧ wx.cell? ⟨wr.heap.size, 5, none⟩ = some (.slice A3 ps3.length c3) ∧ wx.cell? ⟨wr.heap.size, 6, none⟩ = some (.slice B3 fs3.length d3) ∧ wx.cell? ⟨wr.heap.size, 7, none⟩ = some (.slice C3 vs3.length e3)) := Hd fun wx hx => by
      have h := box_up hx (Array.getElem?_eq_some_iff.1 HXA.out).1 HXA.out
      exact ⟨Ch h 2, Ch h 3, Ch h 4, Ch h 5, Ch h 6, Ch h 7⟩
     refine wp_region_held_drew (S := (fun w' => w'.cell? ⟨wr.heap.size, 2, none⟩ = some (.int .i64 k3) ∧ w'.cell? ⟨wr.heap.size, 3, none⟩ = some (.string s3) ∧ w'.cell? ⟨wr.heap.size, 4, none⟩ = some (.int .i64 n3) ∧ w'.cell? ⟨wr.heap.size, 5, none⟩ = some (.slice A3 ps3.length c3) ∧ w'.cell? ⟨wr.heap.size, 6, none⟩ = some (.slice B3 fs3.length d3) ∧ w'.cell? ⟨wr.heap.size, 7, none⟩ = some (.slice C3 vs3.length e3))) (by kernel_rfl) (HS7.out _ (Below.refl _ _).drew) (fun hHeld => ?_)
     refine Plan.start [0, 1] ?_
     iterate 2 (refine Plan.tk (so rfl) hHeld ?_; try simp only [Act.put, pz1, pz2, pz3])
     refine Plan.done ?_
     refine wpAnyH_ready (rs := [2]) (by kernel_rfl) (by simp) ?_
     refine AllReadyH.cons (sd (some 29) rfl) (fun Kx hK => ?_) AllReadyH.nil
     go_simp
     refine (of_r13 4 _).mono ?_
     rintro e w5 ⟨rfl, hb⟩
     have HB5 := Hd (HBA.out.drew.trans (hb.mono HBA.out.drew.size))
     have H5A : Hid (Below wa.heap.size wa w5) := Hd ((Below.refl _ _).drew.trans hb)
     clear hb
     go_wp2_with fail
     refine hK.out _ _ (HS7.out _ H5A.out) (fun hHeld => ?_)
     clear hK Kx
     try simp only [Act.put, pz1, pz2, pz3]
     refine wpAnyH_ready (rs := [3]) (by kernel_rfl) (by simp) ?_
     refine AllReadyH.cons (sd (some 30) rfl) (fun Kx hK => ?_) AllReadyH.nil
     go_simp
     generalize hW : World.alloc w5 (.cells #[.int .i64 k3, .string s3, .int .i64 n3, .slice A3 ps3.length c3, .slice B3 fs3.length d3, .slice C3 vs3.length e3, .int .i64 4, .string ⟨#[]⟩, .int .i64 0, .slice none 0 0, .slice none 0 0, .slice none 0 0] 26) = w6
     have hb : Below w5.heap.size w5 w6 := by rw [← hW]; exact (Below.refl _ _).alloc (Nat.le_refl _) _
     have hx : w6.heap[w5.heap.size]? = some (.cells #[.int .i64 k3, .string s3, .int .i64 n3, .slice A3 ps3.length c3, .slice B3 fs3.length d3, .slice C3 vs3.length e3, .int .i64 4, .string ⟨#[]⟩, .int .i64 0, .slice none 0 0, .slice none 0 0, .slice none 0 0] 26 (0, 0)) := by rw [← hW]; exact heap_alloc_new w5 _
     have HB6 := Hd (HB5.out.trans (hb.mono HB5.out.size))
     have H6A : Hid (Below wa.heap.size wa w6) := Hd (H5A.out.trans (hb.mono H5A.out.size))
     have KU := Hd (uni2_ref (HR3.out.later HB6.out) (rep_k K w6 4) hx HFI.out.1.1 (form_tyK (by decide) (by decide)) (by have := HFI.out.1.2; omega) (by rw [cnt_kind]; omega))
     have HL5 : Hid (w2.heap.size ≤ w5.heap.size ∧ w2.heap.size ≤ w6.heap.size) := Hd ⟨HB5.out.size, HB6.out.size⟩
     rw [← HHE2.out] at KU
     clear hW hb hx
     refine hK.out _ _ (HS7.out _ H6A.out) (fun hHeld => ?_)
     clear hK Kx
     try simp only [Act.put, pz1, pz2, pz3]
     refine wpAnyH_ready (rs := [4]) (by kernel_rfl) (by simp) ?_
     refine AllReadyH.cons (sd (some 31) rfl) (fun Kx hK => ?_) AllReadyH.nil
     go_simp
     refine KU.out.mono ?_
     rintro e w7 ⟨rs, rfl, hr7, hb⟩
     have HB7 := Hd (HB6.out.trans (hb.mono HB6.out.size))
     have H7A : Hid (Below wa.heap.size wa w7) := Hd (H6A.out.trans (hb.mono H6A.out.size))
     have hr' : RepT (fun b => K b ∨ g < b) w7 (fieldT fs s0) rs := hr7.weak fun b h => by
      have h1 := HL5.out
      have h2 := HGL.out
      rcases h with h | h | h
      ·exact .inl h
      ·exact .inr (by omega)
      ·exact .inr (by omega)
     have HRR := Hd hr'
     generalize hu : fieldT fs s0 = u8 at hr' HRR
     obtain ⟨k8, s8, n8, ps8, fs8, vs8⟩ := u8
     obtain ⟨A8, c8, B8, d8, C8, e8, rfl, -⟩ := hr'.inv
     simp only [cells6T] at HRR ⊢
     have HUE := Hd hu
     clear KU hr7 hr' hb hu
     go_wp2_with fail
     refine hK.out _ _ (HS7.out _ H7A.out) (fun hHeld => ?_)
     clear hK Kx
     try simp only [Act.put, pz1, pz2, pz3]
     refine wpAnyH_ready (rs := [5]) (by kernel_rfl) (by simp) ?_
     refine AllReadyH.cons (sd none rfl) (fun Kx hK => ?_) AllReadyH.nil
     go_simp
     have rb := box_up HB7.out HGL.out.2.2 HY.out
     obtain ⟨q0, q1, q2, q3, q4, q5, z0, z1, z2, z3, z4, z5⟩ := qz6 rb
     have RBX := Hd rb
     clear rb
     go_simp
     have rs := six_set RBX.out (.int .i64 k8) (.string s8) (.int .i64 n8) (.slice A8 ps8.length c8) (.slice B8 fs8.length d8) (.slice C8 vs8.length e8)
     obtain ⟨r0, r1, r2, r3, r4, r5⟩ := cz6 rs
     have hfin : RepT (fun b => K b ∨ w.heap.size ≤ b) (World.setCell (World.setCell (World.setCell (World.setCell (World.setCell (World.setCell w7 ⟨g, 0, none⟩ (.int .i64 k8)) ⟨g, 1, none⟩ (.string s8)) ⟨g, 2, none⟩ (.int .i64 n8)) ⟨g, 3, none⟩ (.slice A8 ps8.length c8)) ⟨g, 4, none⟩ (.slice B8 fs8.length d8)) ⟨g, 5, none⟩ (.slice C8 vs8.length e8)) _ _ ∧ Below w.heap.size w (World.setCell (World.setCell (World.setCell (World.setCell (World.setCell (World.setCell w7 ⟨g, 0, none⟩ (.int .i64 k8)) ⟨g, 1, none⟩ (.string s8)) ⟨g, 2, none⟩ (.int .i64 n8)) ⟨g, 3, none⟩ (.slice A8 ps8.length c8)) ⟨g, 4, none⟩ (.slice B8 fs8.length d8)) ⟨g, 5, none⟩ (.slice C8 vs8.length e8)) ∧ (World.setCell (World.setCell (World.setCell (World.setCell (World.setCell (World.setCell w7 ⟨g, 0, none⟩ (.int .i64 k8)) ⟨g, 1, none⟩ (.string s8)) ⟨g, 2, none⟩ (.int .i64 n8)) ⟨g, 3, none⟩ (.slice A8 ps8.length c8)) ⟨g, 4, none⟩ (.slice B8 fs8.length d8)) ⟨g, 5, none⟩ (.slice C8 vs8.length e8)).heap[wr.heap.size]? = w7.heap[wr.heap.size]? := ⟨ret_box HRR.out (fun b h => by have h1 := HLO.out b h; have h2 := HG.out; omega) (by have := HG.out; omega) _ _ _ _ _ _, set_six_below (HB.out.trans (HB7.out.mono HB.out.size)) (by have := HG.out; omega) _ _ _ _ _ _, six_heapR w7 _ _ _ _ _ _ (by have := HGL.out; omega)⟩
     clear q0 q1 q2 q3 q4 q5 z0 z1 z2 z3 z4 z5 RBX rs
     generalize hW : (World.setCell (World.setCell (World.setCell (World.setCell (World.setCell (World.setCell w7 ⟨g, 0, none⟩ (.int .i64 k8)) ⟨g, 1, none⟩ (.string s8)) ⟨g, 2, none⟩ (.int .i64 n8)) ⟨g, 3, none⟩ (.slice A8 ps8.length c8)) ⟨g, 4, none⟩ (.slice B8 fs8.length d8)) ⟨g, 5, none⟩ (.slice C8 vs8.length e8)) = w8 at r0 r1 r2 r3 r4 r5 hfin
     have HFIN := Hd hfin
     clear hW hfin
     refine hK.out _ _ (by have h := HFIN.out.2.2.trans (box_up H7A.out (Array.getElem?_eq_some_iff.1 HXA.out).1 HXA.out); exact ⟨Ch h 2, Ch h 3, Ch h 4, Ch h 5, Ch h 6, Ch h 7⟩) (fun hHeld => ?_)
     clear hK Kx
     try simp only [Act.put, pz1, pz2, pz3]
     refine wpAnyH_done (by kernel_rfl) ?_ _
     clear hHeld
     go_wp2_with fail
     refine bodyPost_ret (v := .agg #[.int .i64 k8, .string s8, .int .i64 n8, .slice A8 ps8.length c8, .slice B8 fs8.length d8, .slice C8 vs8.length e8]) (by simp [results, Tryz.results37, go_sem, r0, r1, r2, r3, r4, r5]) rfl ?_
     exact ⟨[.int .i64 k8, .string s8, .int .i64 n8, .slice A8 ps8.length c8, .slice B8 fs8.length d8, .slice C8 vs8.length e8], rfl, by rw [HUE.out]; exact HFIN.out.1, HFIN.out.2.1⟩
    ·have e2 : (fl.tmod 2 == 1) = false := by rw [Int.tmod_eq_emod_of_nonneg hfl.1]; simpa using hod
     have HHE2 : Hid (fieldT fs s0 = .mk k3 s3 n3 ps3 fs3 vs3) := Hd (by rw [HHE.out, held_even hod])
     clear hod hfl HHE
     have rb := box_up HBA.out HGL.out.2.2 HY.out
     have HRR := Hd ((HR3.out.later HBA.out).weak (K' := fun b => K b ∨ g < b) fun b h => .inl h)
     obtain ⟨q0, q1, q2, q3, q4, q5, z0, z1, z2, z3, z4, z5⟩ := qz6 rb
     have RBX := Hd rb
     clear rb
     go_wp2_with fail
     have rs := six_set RBX.out (.int .i64 k3) (.string s3) (.int .i64 n3) (.slice A3 ps3.length c3) (.slice B3 fs3.length d3) (.slice C3 vs3.length e3)
     obtain ⟨r0, r1, r2, r3, r4, r5⟩ := cz6 rs
     clear q0 q1 q2 q3 q4 q5 z0 z1 z2 z3 z4 z5 RBX rs
     refine bodyPost_ret (v := .agg #[.int .i64 k3, .string s3, .int .i64 n3, .slice A3 ps3.length c3, .slice B3 fs3.length d3, .slice C3 vs3.length e3]) (by simp [results, Tryz.results37, go_sem, r0, r1, r2, r3, r4, r5]) rfl ?_
     clear r0 r1 r2 r3 r4 r5
     exact ⟨[.int .i64 k3, .string s3, .int .i64 n3, .slice A3 ps3.length c3, .slice B3 fs3.length d3, .slice C3 vs3.length e3], rfl, by rw [HHE2.out]; exact ret_box HRR.out (fun b h => by have h1 := HLO.out b h; have h2 := HG.out; omega) (by have := HG.out; omega) _ _ _ _ _ _, set_six_below (HB.out.trans (HBA.out.mono HB.out.size)) (by have := HG.out; omega) _ _ _ _ _ _⟩
   ·have e1 : (nm.toList == s0.toList) = false := by rw [eqT]; exact decide_eq_false hnm
    have HN2 := Hd (HNX.out hnm)
    clear hnm
    go_wp2_with fail
    refine ⟨⟨i + 1, HIn.out, by first | rfl | rw [wr2], HN2.out, HBA.out⟩, ?_⟩
    first | exact HM.out | (rw [wr2]; exact HM.out)
  ·have t1 : decide ((i : Int) < (fs.length : Int)) = false := by simp; omega
   have HE1 : Hid (fieldT fs s0 = tyK 2) := Hd (by rw [HE.out, List.drop_eq_nil_of_le (by omega)]; rfl)
   clear hi
   go_wp2_with fail
   refine (of_r13 2 _).mono ?_
   rintro e w5 ⟨rfl, hb⟩
   have HB5 := Hd (HBR.out.trans (hb.mono HBR.out.size))
   have rb := box_up HB5.out (by have h1 := HG.out; have h2 := HS.out; omega) HY.out
   clear y4 hb
   obtain ⟨q0, q1, q2, q3, q4, q5, z0, z1, z2, z3, z4, z5⟩ := qz6 rb
   have RBX := Hd rb
   clear rb
   go_wp2_with fail
   have rs := six_set RBX.out (.int .i64 2) (.string ⟨#[]⟩) (.int .i64 0) (.slice none 0 0) (.slice none 0 0) (.slice none 0 0)
   obtain ⟨r0, r1, r2, r3, r4, r5⟩ := cz6 rs
   clear q0 q1 q2 q3 q4 q5 z0 z1 z2 z3 z4 z5 RBX rs
   refine bodyPost_ret (v := .agg #[.int .i64 2, .string ⟨#[]⟩, .int .i64 0, .slice none 0 0, .slice none 0 0, .slice none 0 0]) (by simp [results, Tryz.results37, go_sem, r0, r1, r2, r3, r4, r5]) rfl ?_
   clear r0 r1 r2 r3 r4 r5
   exact ⟨_, rfl, by rw [HE1.out]; exact rep_k _ _ 2, set_six_below (HB.out.trans (HB5.out.mono HB.out.size)) (by have := HG.out; omega) _ _ _ _ _ _⟩
structure FPre (k : Int) (t : ByteArray) (n : Int) (ps : List Ty) (fs : FsT) (vs : VsT) (K : Nat → Prop) (w : World) (A : Option Addr) (c : Nat) (A' : Option Addr) (c' : Nat) (A'' : Option Addr) (c'' : Nat) (w1 : World) : Prop where
 HXC : Hid (∀ wx, Below w1.heap.size w1 wx → wx.cell? ⟨w.heap.size, 0, none⟩ = some (.int .i64 k) ∧ wx.cell? ⟨w.heap.size, 1, none⟩ = some (.string t) ∧ wx.cell? ⟨w.heap.size, 2, none⟩ = some (.int .i64 n) ∧ wx.cell? ⟨w.heap.size, 3, none⟩ = some (.slice A ps.length c) ∧ wx.cell? ⟨w.heap.size, 4, none⟩ = some (.slice A' fs.length c') ∧ wx.cell? ⟨w.heap.size, 5, none⟩ = some (.slice A'' vs.length c''))
 KAll : Hid (∀ wx, Below w1.heap.size w1 wx → Calls Tryz.prog 56 #[.slice A ps.length c] wx fun e w' => e = .returned (.bool (ps.all formT)) ∧ Below wx.heap.size wx w')
 KPl : Hid (∀ wx, Calls Tryz.prog 57 #[.agg #[.int .i64 k, .string t, .int .i64 n, .slice A ps.length c, .slice A' fs.length c', .slice A'' vs.length c'']] wx fun e w' => e = .returned (.bool (t.toList == [] && n == 0)) ∧ Below wx.heap.size wx w')
 KNm : Hid (∀ wx, Calls Tryz.prog 60 #[.string t] wx fun e w' => e = .returned (.bool (nameT t)) ∧ Below wx.heap.size wx w')
 KOb : Hid (∀ wx, Below w1.heap.size w1 wx → Calls Tryz.prog 59 #[.slice A' fs.length c'] wx fun e w' => e = .returned (.bool (fieldsB (fieldsT fs formT))) ∧ Below wx.heap.size wx w')
 KBi : Hid (∀ wx, Below w1.heap.size w1 wx → Calls Tryz.prog 58 #[.slice A'' vs.length c''] wx fun e w' => e = .returned (.bool (varsB (varsT vs formT))) ∧ Below wx.heap.size wx w')
 KOv : Hid (∀ wx, Below w1.heap.size w1 wx → Calls Tryz.prog 61 #[.slice A ps.length c] wx fun e w' => e = .returned (.bool (overT ps)) ∧ w' = wx)
 HREP : Hid (RepT K w (.mk k t n ps fs vs) [.int .i64 k, .string t, .int .i64 n, .slice A ps.length c, .slice A' fs.length c', .slice A'' vs.length c''])
 HCN : Hid (1 + (cntL ps + (cntF fs + cntV vs)) ≤ 1000000)
 HBZ : Hid (Below w.heap.size w w1)
 HB : Hid (Below w1.heap.size w1 w1)
 HS1 : Hid (w1.heap.size = w.heap.size + 1)
 HX0 : Hid (w1.heap[w.heap.size]? = some (.cells #[.int .i64 k, .string t, .int .i64 n, .slice A ps.length c, .slice A' fs.length c', .slice A'' vs.length c''] 26 (0, 0)))
 HW1 : Hid (w1 = w.alloc (.cells #[.int .i64 k, .string t, .int .i64 n, .slice A ps.length c, .slice A' fs.length c', .slice A'' vs.length c''] 26))
 hlp : ps.length ≤ 1000000000000000
 hlf : fs.length ≤ 1000000000000000
 hlv : vs.length ≤ 1000000000000000
theorem form_pre (k : Int) (t : ByteArray) (n : Int) (ps : List Ty) (fs : FsT) (vs : VsT) (hp : ∀ p ∈ ps, FormR p) (hf : ∀ f ∈ fs, FormR f.2.2) (hv : ∀ v ∈ vs, ∀ b ∈ v.2, FormR b)
  (main : ∀ (K : Nat → Prop) (w : World) (A : Option Addr) (c : Nat) (A' : Option Addr) (c' : Nat) (A'' : Option Addr) (c'' : Nat) (w1 : World), FPre k t n ps fs vs K w A c A' c' A'' c'' w1 →
   Calls Tryz.prog 28 #[.agg #[.int .i64 k, .string t, .int .i64 n, .slice A ps.length c, .slice A' fs.length c', .slice A'' vs.length c'']] w fun e w' => e = .returned (.bool (formT (.mk k t n ps fs vs))) ∧ Below w.heap.size w w') : FormR (.mk k t n ps fs vs) := by
 intro K w cs hrep hc
 obtain ⟨A, c, A', c', A'', c'', rfl, hts, hL, hF, hV⟩ := hrep.inv
 simp only [cells6T]
 obtain ⟨w1, hw1⟩ : ∃ x, x = w.alloc (.cells #[.int .i64 k, .string t, .int .i64 n, .slice A ps.length c, .slice A' fs.length c', .slice A'' vs.length c''] 26) := ⟨_, rfl⟩
 have hb1 : Below w.heap.size w w1 := by rw [hw1]; exact (Below.refl _ _).alloc (Nat.le_refl _) _
 have hs1 : w1.heap.size = w.heap.size + 1 := by rw [hw1]; simp
 have hx0 : w1.heap[w.heap.size]? = some (.cells #[.int .i64 k, .string t, .int .i64 n, .slice A ps.length c, .slice A' fs.length c', .slice A'' vs.length c''] 26 (0, 0)) := by rw [hw1]; exact heap_alloc_new w _
 have HXC : Hid (∀ wx, Below w1.heap.size w1 wx → wx.cell? ⟨w.heap.size, 0, none⟩ = some (.int .i64 k) ∧ wx.cell? ⟨w.heap.size, 1, none⟩ = some (.string t) ∧ wx.cell? ⟨w.heap.size, 2, none⟩ = some (.int .i64 n) ∧ wx.cell? ⟨w.heap.size, 3, none⟩ = some (.slice A ps.length c) ∧ wx.cell? ⟨w.heap.size, 4, none⟩ = some (.slice A' fs.length c') ∧ wx.cell? ⟨w.heap.size, 5, none⟩ = some (.slice A'' vs.length c'')) := Hd fun wx hx => by
  have h := box_up hx (by omega) hx0
  exact ⟨Ch h 0, Ch h 1, Ch h 2, Ch h 3, Ch h 4, Ch h 5⟩
 have hcn : 1 + (cntL ps + (cntF fs + cntV vs)) ≤ 1000000 := by rw [← cntT_mk k t n ps fs vs]; exact hc
 have KAll := Hd fun wx (hx : Below w1.heap.size w1 wx) => all_ref ps hp (hL.later (hb1.trans (hx.mono hb1.size))) (by omega)
 have KPl := Hd fun wx => plain_ref (w := wx) k t n A ps.length c A' fs.length c' A'' vs.length c''
 have KNm := Hd fun wx => name_ref t wx hts
 have KOb := Hd fun wx (hx : Below w1.heap.size w1 wx) => object_ref fs hf (hF.later (hb1.trans (hx.mono hb1.size))) (by omega)
 have hlv : vs.length ≤ 1000000000000000 := by obtain ⟨_, _, hr, _⟩ := hV; exact hr.big
 have KBi := Hd fun wx (hx : Below w1.heap.size w1 wx) => binds_ref vs hv (hV.later (hb1.trans (hx.mono hb1.size))) hlv (by omega)
 have KOv := Hd fun wx (hx : Below w1.heap.size w1 wx) => over_ref (hL.later (hb1.trans (hx.mono hb1.size)))
 have HREP := Hd hrep
 have HL := Hd hL
 have HCN := Hd hcn
 have HBZ := Hd hb1
 have HB : Hid (Below w1.heap.size w1 w1) := Hd (Below.refl _ _)
 have HS1 := Hd hs1
 have HX0 := Hd hx0
 have HW1 := Hd hw1
 have hlp := hL.short
 have hlf := hF.shortF
 have HP := Hd hp
 have HF' := Hd hf
 have HV' := Hd hv
 exact main K w A c A' c' A'' c'' w1 ⟨HXC, KAll, KPl, KNm, KOb, KBi, KOv, HREP, HCN, HBZ, HB, HS1, HX0, HW1, hlp, hlf, hlv⟩
end Go.Proofs.YteakkjhcdpbidaaGreatDoor
