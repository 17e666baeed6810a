import Derived.Test.YteakkjhcdpbidaaGreatDoorMk24
namespace Go.Proofs.YteakkjhcdpbidaaGreatDoor
set_option maxRecDepth 100000
set_option maxHeartbeats 64000000
open Go.RowKit
theorem each_1 (hU : UnionP) {K : Nat → Prop} {w : World} {l : List Ty} {A : Option Addr} {c : Nat} {t : Ty} {cs : List Value} {gb : Nat} (f : Ty → Ty) (hL : ListT K w l A c) (hr : RepT K w t cs) (hlo : ∀ b, K b → b < w.heap.size) (hgl : gb < w.heap.size) (hg : w.heap[gb]? = some (.cells cs.toArray 26 (0, 0)))
  (KA : ∀ p ∈ l, ∀ wx ds, Below w.heap.size w wx → RepT K wx p ds → Calls Tryz.prog 20 #[.agg cs.toArray, .agg ds.toArray] wx (TyPost K wx (f p))) (hn : (flatU (l.map f)).length ≤ 1099511627776) (hll : l.length ≤ 1099511627776) :
  Calls Tryz.prog 32 #[.slice A l.length c, .func (.func 33) #[] #[.pointer (some ⟨gb, 0, none⟩)]] w (TyPost K w (unionT (l.map f))) := by
 obtain ⟨w1, hw1⟩ : ∃ x, x = w.alloc (.cells #[.int .i64 0, .string ⟨#[]⟩, .int .i64 0, .slice none 0 0, .slice none 0 0, .slice none 0 0] 26) := ⟨_, rfl⟩
 have hb1 : Below w.heap.size w w1 := by rw [hw1]; exact (Below.refl _ _).alloc (Nat.le_refl _) _
 have hs1 : w1.heap.size = w.heap.size + 1 := by rw [hw1]; simp
 have hx1 : w1.heap[w.heap.size]? = some (.cells #[.int .i64 0, .string ⟨#[]⟩, .int .i64 0, .slice none 0 0, .slice none 0 0, .slice none 0 0] 26 (0, 0)) := by rw [hw1]; exact heap_alloc_new w _
 obtain ⟨g, hgg⟩ : ∃ g, g = w.heap.size + 1 := ⟨_, rfl⟩
 obtain ⟨w2, hw2⟩ : ∃ x, x = w1.alloc (.cells (madeCells zeroT6 (l.length * 6)) 26) := ⟨_, rfl⟩
 have hb2 : Below w1.heap.size w1 w2 := by rw [hw2]; exact (Below.refl _ _).alloc (Nat.le_refl _) _
 have hf2 : FillT K w2 g l.length [] := by rw [hw2, hgg, ← hs1]; exact FillT.start K w1 l.length
 have hmk := make_types l.length hll
 have HB1 := Hd hb1
 have HS1 := Hd hs1
 have HX1 := Hd hx1
 have HW1 := Hd hw1
 have HW2 := Hd hw2
 have HG := Hd hgg
 have HB2 := Hd hb2
 have HF2 := Hd hf2
 have HL := Hd hL
 have HLO := Hd hlo
 have HR := Hd hr
 have HGB := Hd (And.intro hgl hg)
 have HKA := Hd KA
 have HN := Hd hn
 have HU := Hd hU
 generalize hu : unionT (l.map f) = u
 have HUE := Hd hu
 obtain ⟨k2, s2, n2, ps2, fs2, vs2⟩ := u
 unfold TyPost
 clear hL hr hlo hgl hg KA hn hU hb1 hs1 hx1 hw1 hgg hw2 hb2 hf2 hu
 go_enter Tryz.func32, Tryz.ntmps32
 go_upto_region 3 with fail
 rw [← HW1.out, ← HG.out, ← HW2.out]
 go_wp2_with fail
 go_loopw [13] (fun v wr => ∃ (i : Nat), i ≤ l.length ∧ v = .int .i64 i ∧ FillT K wr g l.length ((l.take i).map f) ∧ Below w1.heap.size w1 wr) (fun v _ => l.length - (intOf v).toNat)
 case atStart => exact ⟨0, by omega, rfl, by simpa using HF2.out, HB2.out⟩
 case round =>
  obtain ⟨i, hi, rfl, hfl, hb⟩ := hrel
  have HFL := Hd hfl
  have HB := Hd hb
  have HBE := Hd (HB1.out.trans (hb.mono HB1.out.size))
  clear hfl hb
  by_cases hin : i < l.length
  ·have t1 : decide ((i : Int) < (l.length : Int)) = true := by simp; omega
   have wr2 : wrap64 ((i : Int) + 1) = ((i + 1 : Nat) : Int) := wrap_one (by omega)
   have HM := Hd (measI hin)
   have HIn : Hid (i + 1 ≤ l.length) := Hd hin
   have HTake : Hid ((l.take (i + 1)).map f = (l.take i).map f ++ [f l[i]] ∧ ((l.take i).map f).length = i) := Hd ⟨by rw [List.take_succ_eq_append_getElem hin, List.map_append]; rfl, by simp; omega⟩
   obtain ⟨b, o, hA, hKb, hat⟩ := HL.out.at (by omega)
   subst hA
   obtain ⟨ds, hds, hrep⟩ := hat i hin
   have HKI := Hd (HKA.out l[i] (List.getElem_mem hin))
   have HPR : Hid (l[i] = l[i]) := Hd rfl
   generalize hfi : f l[i] = fi at HTake HKI
   generalize l[i] = p at hrep HKI
   obtain ⟨k3, s3, n3, ps3, fs3, vs3⟩ := p
   obtain ⟨A3, c3, B3, d3, C3, e3, rfl, -⟩ := hrep.inv
   have HRP := Hd hrep
   have z0 : wr.cell? ⟨b, o + i * 6, none⟩ = some (.int .i64 k3) := cell_stays HBE.out (hds 0 _ rfl)
   have z1 : wr.cell? ⟨b, o + i * 6 + 1, none⟩ = some (.string s3) := cell_stays HBE.out (hds 1 _ rfl)
   have z2 : wr.cell? ⟨b, o + i * 6 + 2, none⟩ = some (.int .i64 n3) := cell_stays HBE.out (hds 2 _ rfl)
   have z3 : wr.cell? ⟨b, o + i * 6 + 3, none⟩ = some (.slice A3 ps3.length c3) := cell_stays HBE.out (hds 3 _ rfl)
   have z4 : wr.cell? ⟨b, o + i * 6 + 4, none⟩ = some (.slice B3 fs3.length d3) := cell_stays HBE.out (hds 4 _ rfl)
   have z5 : wr.cell? ⟨b, o + i * 6 + 5, none⟩ = some (.slice C3 vs3.length e3) := cell_stays HBE.out (hds 5 _ rfl)
   clear hat hds hrep hfi hi HPR hKb
   go_upto_region 5 with fail
   generalize hW : wr.alloc (.cells #[.int .i64 k3, .string s3, .int .i64 n3, .slice A3 ps3.length c3, .slice B3 fs3.length d3, .slice C3 vs3.length e3] 26) = W
   have hbW : Below wr.heap.size wr W := by rw [← hW]; exact (Below.refl _ _).alloc (Nat.le_refl _) _
   have hx5 : W.heap[wr.heap.size]? = some (.cells #[.int .i64 k3, .string s3, .int .i64 n3, .slice A3 ps3.length c3, .slice B3 fs3.length d3, .slice C3 vs3.length e3] 26 (0, 0)) := by rw [← hW]; exact heap_alloc_new wr _
   have hbE := HBE.out.trans (hbW.mono HBE.out.size)
   have hsW : w.heap.size ≤ W.heap.size := hbE.size
   have KC := Hd (clo_1 (K := K) (w := W) (HR.out.later hbE) (HRP.out.later hbE) (fun b h => Nat.lt_of_lt_of_le (HLO.out b h) hsW) (Nat.lt_of_lt_of_le HGB.out.1 hsW) (box_up hbE HGB.out.1 HGB.out.2) fun wx hx => HKI.out wx _ (hbE.trans (hx.mono hbE.size)) ((HRP.out.later hbE).later hx))
   have HBW := Hd (HB.out.trans (hbW.mono HB.out.size))
   have HFW := Hd (HFL.out.below hbW)
   obtain ⟨x0, x1, x2, x3, x4, x5⟩ := cz6 hx5
   clear hW hbW hx5 hbE hsW z0 z1 z2 z3 z4 z5
   simp only [cells6T] at KC
   obtain ⟨k4, s4, n4, ps4, fs4, vs4⟩ := fi
   go_wp2_with fail
   refine KC.out.mono ?_
   rintro e w5 ⟨rs, rfl, hr5, hb5⟩
   have HB5 := Hd (HBW.out.trans (hb5.mono HBW.out.size))
   have hf5 := HFW.out.below hb5
   have hr6 : RepT (fun b => K b ∨ g < b) w5 (.mk k4 s4 n4 ps4 fs4 vs4) rs := hr5.weak fun b h => h.imp id fun h => by have := HFW.out.lt; omega
   obtain ⟨Aq, cq, Ag, cg, Ah, ch, rfl, -⟩ := hr6.inv
   simp only [cells6T] at hr6 ⊢
   have HPUT := Hd (hf5.put (fun b h => by have := HLO.out b h; have := HG.out; omega) (by rw [HTake.out.2]; exact hin) hr6)
   obtain ⟨u0, q0⟩ := hf5.cell (i * 6) (by omega)
   obtain ⟨u1, q1⟩ := hf5.cell (i * 6 + 1) (by omega)
   obtain ⟨u2, q2⟩ := hf5.cell (i * 6 + 2) (by omega)
   obtain ⟨u3, q3⟩ := hf5.cell (i * 6 + 3) (by omega)
   obtain ⟨u4, q4⟩ := hf5.cell (i * 6 + 4) (by omega)
   obtain ⟨u5, q5⟩ := hf5.cell (i * 6 + 5) (by omega)
   have y0 := hf5.free (i * 6)
   have y1 := hf5.free (i * 6 + 1)
   have y2 := hf5.free (i * 6 + 2)
   have y3 := hf5.free (i * 6 + 3)
   have y4 := hf5.free (i * 6 + 4)
   have y5 := hf5.free (i * 6 + 5)
   rw [HTake.out.2] at HPUT
   have HTE := Hd HTake.out.1
   have HGE : Hid (w1.heap.size ≤ g) := Hd (by have := HG.out; have := HS1.out; omega)
   clear hr5 hr6 hf5 hb5 KC x0 x1 x2 x3 x4 x5
   go_wp2_with fail
   refine ⟨⟨i + 1, HIn.out, by first | rfl | rw [wr2], ?f1, ?f2⟩, ?f3⟩
   case f1 => rw [HTE.out]; exact HPUT.out
   case f2 => exact put6_below HB5.out HGE.out _ _ _ _ _ _
   case f3 => first | exact HM.out | (rw [wr2]; exact HM.out)
  ·have t1 : decide ((i : Int) < (l.length : Int)) = false := by simp; omega
   have hfull : FillT K wr g (l.map f).length (l.map f) := by
    have h := HFL.out
    rw [List.take_of_length_le (by omega)] at h
    rw [List.length_map]; exact h
   have hlist := hfull.list (by rw [List.length_map]; omega)
   have ku := HU.out _ wr (l.map f) _ _ hlist.both HN.out fun b h => h.2
   rw [List.length_map] at ku
   have KU := Hd ku
   clear hfull hlist ku hi
   go_wp2_with fail
   refine KU.out.mono ?_
   rintro e w5 ⟨rs, rfl, hr5, hb5⟩
   have HB5 := Hd (HBE.out.trans (hb5.mono HBE.out.size))
   have rb := box_up (HB.out.trans (hb5.mono HB.out.size)) (by have := HS1.out; omega) HX1.out
   have hr6 : RepT (fun b => K b ∨ w.heap.size < b) w5 (unionT (l.map f)) rs := hr5.weak fun b h => by
    rcases h with ⟨h | h, -⟩ | h
    ·exact .inl h
    ·exact .inr (by have := HG.out; omega)
    ·exact .inr (by have := HB.out.size; have := HS1.out; omega)
   rw [HUE.out] at hr6
   obtain ⟨Aq, cq, Ag, cg, Ah, ch, rfl, -⟩ := hr6.inv
   have HR6 := Hd hr6
   simp only [cells6T] at HR6 ⊢
   clear hr5 hb5 hr6 KU
   obtain ⟨q0, q1, q2, q3, q4, q5, z0, z1, z2, z3, z4, z5⟩ := qz6 rb
   have RBX := Hd rb
   clear rb
   go_wp2_with fail
   have rs := six_set RBX.out (.int .i64 k2) (.string s2) (.int .i64 n2) (.slice Aq ps2.length cq) (.slice Ag fs2.length cg) (.slice Ah vs2.length ch)
   obtain ⟨r0, r1, r2, r3, r4, r5⟩ := cz6 rs
   clear q0 q1 q2 q3 q4 q5 z0 z1 z2 z3 z4 z5 RBX rs
   refine bodyPost_ret (v := .agg #[.int .i64 k2, .string s2, .int .i64 n2, .slice Aq ps2.length cq, .slice Ag fs2.length cg, .slice Ah vs2.length ch]) (by simp [results, Tryz.results32, go_sem, r0, r1, r2, r3, r4, r5]) rfl ?_
   clear r0 r1 r2 r3 r4 r5
   exact ⟨[.int .i64 k2, .string s2, .int .i64 n2, .slice Aq ps2.length cq, .slice Ag fs2.length cg, .slice Ah vs2.length ch], rfl, ret_box HR6.out HLO.out (Nat.le_refl _) _ _ _ _ _ _, set_six_below HB5.out (Nat.le_refl _) _ _ _ _ _ _⟩
theorem each_2 (hU : UnionP) {K : Nat → Prop} {w : World} {l : List Ty} {A : Option Addr} {c : Nat} {t : Ty} {cs : List Value} {gb : Nat} (f : Ty → Ty) (hL : ListT K w l A c) (hr : RepT K w t cs) (hlo : ∀ b, K b → b < w.heap.size) (hgl : gb < w.heap.size) (hg : w.heap[gb]? = some (.cells cs.toArray 26 (0, 0)))
  (KA : ∀ p ∈ l, ∀ wx ds, Below w.heap.size w wx → RepT K wx p ds → Calls Tryz.prog 20 #[.agg ds.toArray, .agg cs.toArray] wx (TyPost K wx (f p))) (hn : (flatU (l.map f)).length ≤ 1099511627776) (hll : l.length ≤ 1099511627776) :
  Calls Tryz.prog 32 #[.slice A l.length c, .func (.func 34) #[] #[.pointer (some ⟨gb, 0, none⟩)]] w (TyPost K w (unionT (l.map f))) := by
 obtain ⟨w1, hw1⟩ : ∃ x, x = w.alloc (.cells #[.int .i64 0, .string ⟨#[]⟩, .int .i64 0, .slice none 0 0, .slice none 0 0, .slice none 0 0] 26) := ⟨_, rfl⟩
 have hb1 : Below w.heap.size w w1 := by rw [hw1]; exact (Below.refl _ _).alloc (Nat.le_refl _) _
 have hs1 : w1.heap.size = w.heap.size + 1 := by rw [hw1]; simp
 have hx1 : w1.heap[w.heap.size]? = some (.cells #[.int .i64 0, .string ⟨#[]⟩, .int .i64 0, .slice none 0 0, .slice none 0 0, .slice none 0 0] 26 (0, 0)) := by rw [hw1]; exact heap_alloc_new w _
 obtain ⟨g, hgg⟩ : ∃ g, g = w.heap.size + 1 := ⟨_, rfl⟩
 obtain ⟨w2, hw2⟩ : ∃ x, x = w1.alloc (.cells (madeCells zeroT6 (l.length * 6)) 26) := ⟨_, rfl⟩
 have hb2 : Below w1.heap.size w1 w2 := by rw [hw2]; exact (Below.refl _ _).alloc (Nat.le_refl _) _
 have hf2 : FillT K w2 g l.length [] := by rw [hw2, hgg, ← hs1]; exact FillT.start K w1 l.length
 have hmk := make_types l.length hll
 have HB1 := Hd hb1
 have HS1 := Hd hs1
 have HX1 := Hd hx1
 have HW1 := Hd hw1
 have HW2 := Hd hw2
 have HG := Hd hgg
 have HB2 := Hd hb2
 have HF2 := Hd hf2
 have HL := Hd hL
 have HLO := Hd hlo
 have HR := Hd hr
 have HGB := Hd (And.intro hgl hg)
 have HKA := Hd KA
 have HN := Hd hn
 have HU := Hd hU
 generalize hu : unionT (l.map f) = u
 have HUE := Hd hu
 obtain ⟨k2, s2, n2, ps2, fs2, vs2⟩ := u
 unfold TyPost
 clear hL hr hlo hgl hg KA hn hU hb1 hs1 hx1 hw1 hgg hw2 hb2 hf2 hu
 go_enter Tryz.func32, Tryz.ntmps32
 go_upto_region 3 with fail
 rw [← HW1.out, ← HG.out, ← HW2.out]
 go_wp2_with fail
 go_loopw [13] (fun v wr => ∃ (i : Nat), i ≤ l.length ∧ v = .int .i64 i ∧ FillT K wr g l.length ((l.take i).map f) ∧ Below w1.heap.size w1 wr) (fun v _ => l.length - (intOf v).toNat)
 case atStart => exact ⟨0, by omega, rfl, by simpa using HF2.out, HB2.out⟩
 case round =>
  obtain ⟨i, hi, rfl, hfl, hb⟩ := hrel
  have HFL := Hd hfl
  have HB := Hd hb
  have HBE := Hd (HB1.out.trans (hb.mono HB1.out.size))
  clear hfl hb
  by_cases hin : i < l.length
  ·have t1 : decide ((i : Int) < (l.length : Int)) = true := by simp; omega
   have wr2 : wrap64 ((i : Int) + 1) = ((i + 1 : Nat) : Int) := wrap_one (by omega)
   have HM := Hd (measI hin)
   have HIn : Hid (i + 1 ≤ l.length) := Hd hin
   have HTake : Hid ((l.take (i + 1)).map f = (l.take i).map f ++ [f l[i]] ∧ ((l.take i).map f).length = i) := Hd ⟨by rw [List.take_succ_eq_append_getElem hin, List.map_append]; rfl, by simp; omega⟩
   obtain ⟨b, o, hA, hKb, hat⟩ := HL.out.at (by omega)
   subst hA
   obtain ⟨ds, hds, hrep⟩ := hat i hin
   have HKI := Hd (HKA.out l[i] (List.getElem_mem hin))
   have HPR : Hid (l[i] = l[i]) := Hd rfl
   generalize hfi : f l[i] = fi at HTake HKI
   generalize l[i] = p at hrep HKI
   obtain ⟨k3, s3, n3, ps3, fs3, vs3⟩ := p
   obtain ⟨A3, c3, B3, d3, C3, e3, rfl, -⟩ := hrep.inv
   have HRP := Hd hrep
   have z0 : wr.cell? ⟨b, o + i * 6, none⟩ = some (.int .i64 k3) := cell_stays HBE.out (hds 0 _ rfl)
   have z1 : wr.cell? ⟨b, o + i * 6 + 1, none⟩ = some (.string s3) := cell_stays HBE.out (hds 1 _ rfl)
   have z2 : wr.cell? ⟨b, o + i * 6 + 2, none⟩ = some (.int .i64 n3) := cell_stays HBE.out (hds 2 _ rfl)
   have z3 : wr.cell? ⟨b, o + i * 6 + 3, none⟩ = some (.slice A3 ps3.length c3) := cell_stays HBE.out (hds 3 _ rfl)
   have z4 : wr.cell? ⟨b, o + i * 6 + 4, none⟩ = some (.slice B3 fs3.length d3) := cell_stays HBE.out (hds 4 _ rfl)
   have z5 : wr.cell? ⟨b, o + i * 6 + 5, none⟩ = some (.slice C3 vs3.length e3) := cell_stays HBE.out (hds 5 _ rfl)
   clear hat hds hrep hfi hi HPR hKb
   go_upto_region 5 with fail
   generalize hW : wr.alloc (.cells #[.int .i64 k3, .string s3, .int .i64 n3, .slice A3 ps3.length c3, .slice B3 fs3.length d3, .slice C3 vs3.length e3] 26) = W
   have hbW : Below wr.heap.size wr W := by rw [← hW]; exact (Below.refl _ _).alloc (Nat.le_refl _) _
   have hx5 : W.heap[wr.heap.size]? = some (.cells #[.int .i64 k3, .string s3, .int .i64 n3, .slice A3 ps3.length c3, .slice B3 fs3.length d3, .slice C3 vs3.length e3] 26 (0, 0)) := by rw [← hW]; exact heap_alloc_new wr _
   have hbE := HBE.out.trans (hbW.mono HBE.out.size)
   have hsW : w.heap.size ≤ W.heap.size := hbE.size
   have KC := Hd (clo_2 (K := K) (w := W) (HR.out.later hbE) (HRP.out.later hbE) (fun b h => Nat.lt_of_lt_of_le (HLO.out b h) hsW) (Nat.lt_of_lt_of_le HGB.out.1 hsW) (box_up hbE HGB.out.1 HGB.out.2) fun wx hx => HKI.out wx _ (hbE.trans (hx.mono hbE.size)) ((HRP.out.later hbE).later hx))
   have HBW := Hd (HB.out.trans (hbW.mono HB.out.size))
   have HFW := Hd (HFL.out.below hbW)
   obtain ⟨x0, x1, x2, x3, x4, x5⟩ := cz6 hx5
   clear hW hbW hx5 hbE hsW z0 z1 z2 z3 z4 z5
   simp only [cells6T] at KC
   obtain ⟨k4, s4, n4, ps4, fs4, vs4⟩ := fi
   go_wp2_with fail
   refine KC.out.mono ?_
   rintro e w5 ⟨rs, rfl, hr5, hb5⟩
   have HB5 := Hd (HBW.out.trans (hb5.mono HBW.out.size))
   have hf5 := HFW.out.below hb5
   have hr6 : RepT (fun b => K b ∨ g < b) w5 (.mk k4 s4 n4 ps4 fs4 vs4) rs := hr5.weak fun b h => h.imp id fun h => by have := HFW.out.lt; omega
   obtain ⟨Aq, cq, Ag, cg, Ah, ch, rfl, -⟩ := hr6.inv
   simp only [cells6T] at hr6 ⊢
   have HPUT := Hd (hf5.put (fun b h => by have := HLO.out b h; have := HG.out; omega) (by rw [HTake.out.2]; exact hin) hr6)
   obtain ⟨u0, q0⟩ := hf5.cell (i * 6) (by omega)
   obtain ⟨u1, q1⟩ := hf5.cell (i * 6 + 1) (by omega)
   obtain ⟨u2, q2⟩ := hf5.cell (i * 6 + 2) (by omega)
   obtain ⟨u3, q3⟩ := hf5.cell (i * 6 + 3) (by omega)
   obtain ⟨u4, q4⟩ := hf5.cell (i * 6 + 4) (by omega)
   obtain ⟨u5, q5⟩ := hf5.cell (i * 6 + 5) (by omega)
   have y0 := hf5.free (i * 6)
   have y1 := hf5.free (i * 6 + 1)
   have y2 := hf5.free (i * 6 + 2)
   have y3 := hf5.free (i * 6 + 3)
   have y4 := hf5.free (i * 6 + 4)
   have y5 := hf5.free (i * 6 + 5)
   rw [HTake.out.2] at HPUT
   have HTE := Hd HTake.out.1
   have HGE : Hid (w1.heap.size ≤ g) := Hd (by have := HG.out; have := HS1.out; omega)
   clear hr5 hr6 hf5 hb5 KC x0 x1 x2 x3 x4 x5
   go_wp2_with fail
   refine ⟨⟨i + 1, HIn.out, by first | rfl | rw [wr2], ?f1, ?f2⟩, ?f3⟩
   case f1 => rw [HTE.out]; exact HPUT.out
   case f2 => exact put6_below HB5.out HGE.out _ _ _ _ _ _
   case f3 => first | exact HM.out | (rw [wr2]; exact HM.out)
  ·have t1 : decide ((i : Int) < (l.length : Int)) = false := by simp; omega
   have hfull : FillT K wr g (l.map f).length (l.map f) := by
    have h := HFL.out
    rw [List.take_of_length_le (by omega)] at h
    rw [List.length_map]; exact h
   have hlist := hfull.list (by rw [List.length_map]; omega)
   have ku := HU.out _ wr (l.map f) _ _ hlist.both HN.out fun b h => h.2
   rw [List.length_map] at ku
   have KU := Hd ku
   clear hfull hlist ku hi
   go_wp2_with fail
   refine KU.out.mono ?_
   rintro e w5 ⟨rs, rfl, hr5, hb5⟩
   have HB5 := Hd (HBE.out.trans (hb5.mono HBE.out.size))
   have rb := box_up (HB.out.trans (hb5.mono HB.out.size)) (by have := HS1.out; omega) HX1.out
   have hr6 : RepT (fun b => K b ∨ w.heap.size < b) w5 (unionT (l.map f)) rs := hr5.weak fun b h => by
    rcases h with ⟨h | h, -⟩ | h
    ·exact .inl h
    ·exact .inr (by have := HG.out; omega)
    ·exact .inr (by have := HB.out.size; have := HS1.out; omega)
   rw [HUE.out] at hr6
   obtain ⟨Aq, cq, Ag, cg, Ah, ch, rfl, -⟩ := hr6.inv
   have HR6 := Hd hr6
   simp only [cells6T] at HR6 ⊢
   clear hr5 hb5 hr6 KU
   obtain ⟨q0, q1, q2, q3, q4, q5, z0, z1, z2, z3, z4, z5⟩ := qz6 rb
   have RBX := Hd rb
   clear rb
   go_wp2_with fail
   have rs := six_set RBX.out (.int .i64 k2) (.string s2) (.int .i64 n2) (.slice Aq ps2.length cq) (.slice Ag fs2.length cg) (.slice Ah vs2.length ch)
   obtain ⟨r0, r1, r2, r3, r4, r5⟩ := cz6 rs
   clear q0 q1 q2 q3 q4 q5 z0 z1 z2 z3 z4 z5 RBX rs
   refine bodyPost_ret (v := .agg #[.int .i64 k2, .string s2, .int .i64 n2, .slice Aq ps2.length cq, .slice Ag fs2.length cg, .slice Ah vs2.length ch]) (by simp [results, Tryz.results32, go_sem, r0, r1, r2, r3, r4, r5]) rfl ?_
   clear r0 r1 r2 r3 r4 r5
   exact ⟨[.int .i64 k2, .string s2, .int .i64 n2, .slice Aq ps2.length cq, .slice Ag fs2.length cg, .slice Ah vs2.length ch], rfl, ret_box HR6.out HLO.out (Nat.le_refl _) _ _ _ _ _ _, set_six_below HB5.out (Nat.le_refl _) _ _ _ _ _ _⟩
theorem at_i1 (hU : UnionP) {K : Nat → Prop} {w : World} (s : ByteArray) (n : Int) (ps : List Ty) (fs : FsT) (vs : VsT) (s3 : ByteArray) (m : Nat) (ps3 : List Ty) (fs3 : FsT) (vs3 : VsT) {cs ds : List Value} (hr : RepT K w (.mk 12 s n ps fs vs) cs) (hp : RepT K w (.mk 9 s3 (m : Int) ps3 fs3 vs3) ds) (hlo : ∀ b, K b → b < w.heap.size) (hm : m < ps.length) :
  Calls Tryz.prog 20 #[.agg cs.toArray, .agg ds.toArray] w (TyPost K w (ps[m])) := by
 generalize hu : ps[m] = u
 obtain ⟨k2, s2, n2, ps2, fs2, vs2⟩ := u
 refine at_pre hr hp hlo fun A c A' c' A'' c'' A3 c3 B3 d3 C3 e3 w1 g hcs hds h => ?_
 clear hr hp
 subst hcs hds
 obtain ⟨HB1, HS1, HX0, HY0, HX1, HW1, HG, HR, HP, HL, HL3, HLO1, hlp, hlp3⟩ := h
 have HLO := Hd hlo
 have HU := Hd hU
 have HUE := Hd hu
 have hb1 := HB1.out
 have hs1 := HS1.out
 have hx0 := HX0.out
 have hy0 := HY0.out
 have hr := HR.out
 have hp := HP.out
 have hL := HL.out
 have hL3 := HL3.out
 have hx1 := HX1.out
 have hw1 := HW1.out
 have hgg := HG.out
 have i1 : (0 : Int) ≤ (m : Int) := by omega
 have i2 : decide ((m : Int) < 0) = false := decide_eq_false (by omega)
 have i3 : decide ((ps.length : Int) ≤ (m : Int)) = false := decide_eq_false (by omega)
 have i4 : decide (ps.length ≤ m) = false := decide_eq_false (by omega)
 have i5 : (m : Int) < (ps.length : Int) := by omega
 obtain ⟨b, o, hA, _, hat⟩ := hL.at (by omega)
 subst hA
 obtain ⟨dq, hdq, hrep⟩ := hat m hm
 rw [hu] at hrep
 obtain ⟨Aq, cq, Ag, cg, Ah, ch, rfl, -⟩ := hrep.inv
 have HQ := Hd (hrep.later hb1)
 have z0 : w1.cell? ⟨b, o + m * 6, none⟩ = some (.int .i64 k2) := cell_stays hb1 (hdq 0 _ rfl)
 have z1 : w1.cell? ⟨b, o + m * 6 + 1, none⟩ = some (.string s2) := cell_stays hb1 (hdq 1 _ rfl)
 have z2 : w1.cell? ⟨b, o + m * 6 + 2, none⟩ = some (.int .i64 n2) := cell_stays hb1 (hdq 2 _ rfl)
 have z3 : w1.cell? ⟨b, o + m * 6 + 3, none⟩ = some (.slice Aq ps2.length cq) := cell_stays hb1 (hdq 3 _ rfl)
 have z4 : w1.cell? ⟨b, o + m * 6 + 4, none⟩ = some (.slice Ag fs2.length cg) := cell_stays hb1 (hdq 4 _ rfl)
 have z5 : w1.cell? ⟨b, o + m * 6 + 5, none⟩ = some (.slice Ah vs2.length ch) := cell_stays hb1 (hdq 5 _ rfl)
 clear hat hdq hrep HUE
 unfold TyPost
 clear hr hp hlo hU hb1 hs1 hx0 hy0 hx1 hw1 hgg hL hL3 hu
 go_enter Tryz.func20, Tryz.ntmps20
 go_upto_region 1 with fail
 rw [← HW1.out, ← HG.out]
 obtain ⟨x0, x1, x2, x3, x4, x5⟩ := cz6 HX0.out
 obtain ⟨y0, y1, y2, y3, y4, y5⟩ := cz6 HY0.out
 go_upto_region 17 with fail
 have rb := HX1.out
 obtain ⟨q0, q1, q2, q3, q4, q5, z0, z1, z2, z3, z4, z5⟩ := qz6 rb
 have RBX := Hd rb
 clear rb
 go_wp2_with fail
 have rs := six_set RBX.out (.int .i64 k2) (.string s2) (.int .i64 n2) (.slice Aq ps2.length cq) (.slice Ag fs2.length cg) (.slice Ah vs2.length ch)
 obtain ⟨r0, r1, r2, r3, r4, r5⟩ := cz6 rs
 clear q0 q1 q2 q3 q4 q5 z0 z1 z2 z3 z4 z5 RBX rs
 refine bodyPost_ret (v := .agg #[.int .i64 k2, .string s2, .int .i64 n2, .slice Aq ps2.length cq, .slice Ag fs2.length cg, .slice Ah vs2.length ch]) (by simp [results, Tryz.results20, go_sem, r0, r1, r2, r3, r4, r5]) rfl ?_
 clear r0 r1 r2 r3 r4 r5
 exact ⟨[.int .i64 k2, .string s2, .int .i64 n2, .slice Aq ps2.length cq, .slice Ag fs2.length cg, .slice Ah vs2.length ch], rfl, ret_box (HQ.out.weak fun b h => Or.inl h) (fun b h => by have := HLO.out b h; have := HG.out; omega) (by have := HG.out; omega) _ _ _ _ _ _, set_six_below (HB1.out) (by have := HG.out; omega) _ _ _ _ _ _⟩
theorem at_u0 (hU : UnionP) {K : Nat → Prop} {w : World} (k : Int) (s : ByteArray) (n : Int) (ps : List Ty) (fs : FsT) (vs : VsT) (k3 : Int) (s3 : ByteArray) (n3 : Int) (ps3 : List Ty) (fs3 : FsT) (vs3 : VsT) {cs ds : List Value} (hr : RepT K w (.mk k s n ps fs vs) cs) (hp : RepT K w (.mk k3 s3 n3 ps3 fs3 vs3) ds) (hlo : ∀ b, K b → b < w.heap.size) (h1 : k3 ≠ 1) (h15 : k3 ≠ 15) (h3 : k ≠ 3) (h4 : k ≠ 1) (h5 : k ≠ 15) (h6 : k ≠ 14) (h7 : k ≠ 11) (h8 : k ≠ 12) :
  Calls Tryz.prog 20 #[.agg cs.toArray, .agg ds.toArray] w (TyPost K w (tyK 2)) := by
 generalize hu : tyK 2 = u
 obtain ⟨k2, s2, n2, ps2, fs2, vs2⟩ := u
 refine at_pre hr hp hlo fun A c A' c' A'' c'' A3 c3 B3 d3 C3 e3 w1 g hcs hds h => ?_
 clear hr hp
 subst hcs hds
 obtain ⟨HB1, HS1, HX0, HY0, HX1, HW1, HG, HR, HP, HL, HL3, HLO1, hlp, hlp3⟩ := h
 have HLO := Hd hlo
 have HU := Hd hU
 have HUE := Hd hu
 have hb1 := HB1.out
 have hs1 := HS1.out
 have hx0 := HX0.out
 have hy0 := HY0.out
 have hr := HR.out
 have hp := HP.out
 have hL := HL.out
 have hL3 := HL3.out
 have hx1 := HX1.out
 have hw1 := HW1.out
 have hgg := HG.out
 have f_k3_1 : (k3 == 1) = false := beq_eq_false_iff_ne.2 (by omega)
 have f_k3_15 : (k3 == 15) = false := beq_eq_false_iff_ne.2 (by omega)
 have f_k_3 : (k == 3) = false := beq_eq_false_iff_ne.2 (by omega)
 have f_k_1 : (k == 1) = false := beq_eq_false_iff_ne.2 (by omega)
 have f_k_15 : (k == 15) = false := beq_eq_false_iff_ne.2 (by omega)
 have f_k_14 : (k == 14) = false := beq_eq_false_iff_ne.2 (by omega)
 have f_k_11 : (k == 11) = false := beq_eq_false_iff_ne.2 (by omega)
 have f_k_12 : (k == 12) = false := beq_eq_false_iff_ne.2 (by omega)
 unfold TyPost
 clear hr hp hlo hU hb1 hs1 hx0 hy0 hx1 hw1 hgg hL hL3 hu
 go_enter Tryz.func20, Tryz.ntmps20
 go_upto_region 1 with fail
 rw [← HW1.out, ← HG.out]
 obtain ⟨x0, x1, x2, x3, x4, x5⟩ := cz6 HX0.out
 obtain ⟨y0, y1, y2, y3, y4, y5⟩ := cz6 HY0.out
 go_upto_region 20 with fail
 have rb := HX1.out
 obtain ⟨q0, q1, q2, q3, q4, q5, z0, z1, z2, z3, z4, z5⟩ := qz6 rb
 have RBX := Hd rb
 clear rb
 go_wp2_with fail
 have rs := six_set RBX.out (.int .i64 2) (.string ⟨#[]⟩) (.int .i64 0) (.slice none 0 0) (.slice none 0 0) (.slice none 0 0)
 obtain ⟨r0, r1, r2, r3, r4, r5⟩ := cz6 rs
 clear q0 q1 q2 q3 q4 q5 z0 z1 z2 z3 z4 z5 RBX rs
 refine bodyPost_ret (v := .agg #[.int .i64 2, .string ⟨#[]⟩, .int .i64 0, .slice none 0 0, .slice none 0 0, .slice none 0 0]) (by simp [results, Tryz.results20, go_sem, r0, r1, r2, r3, r4, r5]) rfl ?_
 clear r0 r1 r2 r3 r4 r5
 rw [← HUE.out]
 exact ⟨[.int .i64 2, .string ⟨#[]⟩, .int .i64 0, .slice none 0 0, .slice none 0 0, .slice none 0 0], rfl, ret_box (rep_k (fun b => K b ∨ g < b) w1 2) (fun b h => by have := HLO.out b h; have := HG.out; omega) (by have := HG.out; omega) _ _ _ _ _ _, set_six_below (HB1.out) (by have := HG.out; omega) _ _ _ _ _ _⟩
theorem at_u1 (hU : UnionP) {K : Nat → Prop} {w : World} (s : ByteArray) (n : Int) (ps : List Ty) (fs : FsT) (vs : VsT) (k3 : Int) (s3 : ByteArray) (n3 : Int) (ps3 : List Ty) (fs3 : FsT) (vs3 : VsT) {cs ds : List Value} (hr : RepT K w (.mk 14 s n ps fs vs) cs) (hp : RepT K w (.mk k3 s3 n3 ps3 fs3 vs3) ds) (hlo : ∀ b, K b → b < w.heap.size) (h1 : k3 ≠ 1) (h15 : k3 ≠ 15) (h10 : k3 ≠ 10) :
  Calls Tryz.prog 20 #[.agg cs.toArray, .agg ds.toArray] w (TyPost K w (tyK 2)) := by
 generalize hu : tyK 2 = u
 obtain ⟨k2, s2, n2, ps2, fs2, vs2⟩ := u
 refine at_pre hr hp hlo fun A c A' c' A'' c'' A3 c3 B3 d3 C3 e3 w1 g hcs hds h => ?_
 clear hr hp
 subst hcs hds
 obtain ⟨HB1, HS1, HX0, HY0, HX1, HW1, HG, HR, HP, HL, HL3, HLO1, hlp, hlp3⟩ := h
 have HLO := Hd hlo
 have HU := Hd hU
 have HUE := Hd hu
 have hb1 := HB1.out
 have hs1 := HS1.out
 have hx0 := HX0.out
 have hy0 := HY0.out
 have hr := HR.out
 have hp := HP.out
 have hL := HL.out
 have hL3 := HL3.out
 have hx1 := HX1.out
 have hw1 := HW1.out
 have hgg := HG.out
 have f_k3_1 : (k3 == 1) = false := beq_eq_false_iff_ne.2 (by omega)
 have f_k3_15 : (k3 == 15) = false := beq_eq_false_iff_ne.2 (by omega)
 have f_k3_10 : (k3 == 10) = false := beq_eq_false_iff_ne.2 (by omega)
 unfold TyPost
 clear hr hp hlo hU hb1 hs1 hx0 hy0 hx1 hw1 hgg hL hL3 hu
 go_enter Tryz.func20, Tryz.ntmps20
 go_upto_region 1 with fail
 rw [← HW1.out, ← HG.out]
 obtain ⟨x0, x1, x2, x3, x4, x5⟩ := cz6 HX0.out
 obtain ⟨y0, y1, y2, y3, y4, y5⟩ := cz6 HY0.out
 go_upto_region 20 with fail
 have rb := HX1.out
 obtain ⟨q0, q1, q2, q3, q4, q5, z0, z1, z2, z3, z4, z5⟩ := qz6 rb
 have RBX := Hd rb
 clear rb
 go_wp2_with fail
 have rs := six_set RBX.out (.int .i64 2) (.string ⟨#[]⟩) (.int .i64 0) (.slice none 0 0) (.slice none 0 0) (.slice none 0 0)
 obtain ⟨r0, r1, r2, r3, r4, r5⟩ := cz6 rs
 clear q0 q1 q2 q3 q4 q5 z0 z1 z2 z3 z4 z5 RBX rs
 refine bodyPost_ret (v := .agg #[.int .i64 2, .string ⟨#[]⟩, .int .i64 0, .slice none 0 0, .slice none 0 0, .slice none 0 0]) (by simp [results, Tryz.results20, go_sem, r0, r1, r2, r3, r4, r5]) rfl ?_
 clear r0 r1 r2 r3 r4 r5
 rw [← HUE.out]
 exact ⟨[.int .i64 2, .string ⟨#[]⟩, .int .i64 0, .slice none 0 0, .slice none 0 0, .slice none 0 0], rfl, ret_box (rep_k (fun b => K b ∨ g < b) w1 2) (fun b h => by have := HLO.out b h; have := HG.out; omega) (by have := HG.out; omega) _ _ _ _ _ _, set_six_below (HB1.out) (by have := HG.out; omega) _ _ _ _ _ _⟩
theorem at_u2 (hU : UnionP) {K : Nat → Prop} {w : World} (s : ByteArray) (n : Int) (ps : List Ty) (fs : FsT) (vs : VsT) (k3 : Int) (s3 : ByteArray) (n3 : Int) (ps3 : List Ty) (fs3 : FsT) (vs3 : VsT) {cs ds : List Value} (hr : RepT K w (.mk 11 s n ps fs vs) cs) (hp : RepT K w (.mk k3 s3 n3 ps3 fs3 vs3) ds) (hlo : ∀ b, K b → b < w.heap.size) (h1 : k3 ≠ 1) (h15 : k3 ≠ 15) (h7 : k3 ≠ 7) (h9 : k3 ≠ 9) :
  Calls Tryz.prog 20 #[.agg cs.toArray, .agg ds.toArray] w (TyPost K w (tyK 2)) := by
 generalize hu : tyK 2 = u
 obtain ⟨k2, s2, n2, ps2, fs2, vs2⟩ := u
 refine at_pre hr hp hlo fun A c A' c' A'' c'' A3 c3 B3 d3 C3 e3 w1 g hcs hds h => ?_
 clear hr hp
 subst hcs hds
 obtain ⟨HB1, HS1, HX0, HY0, HX1, HW1, HG, HR, HP, HL, HL3, HLO1, hlp, hlp3⟩ := h
 have HLO := Hd hlo
 have HU := Hd hU
 have HUE := Hd hu
 have hb1 := HB1.out
 have hs1 := HS1.out
 have hx0 := HX0.out
 have hy0 := HY0.out
 have hr := HR.out
 have hp := HP.out
 have hL := HL.out
 have hL3 := HL3.out
 have hx1 := HX1.out
 have hw1 := HW1.out
 have hgg := HG.out
 have f_k3_1 : (k3 == 1) = false := beq_eq_false_iff_ne.2 (by omega)
 have f_k3_15 : (k3 == 15) = false := beq_eq_false_iff_ne.2 (by omega)
 have f_k3_7 : (k3 == 7) = false := beq_eq_false_iff_ne.2 (by omega)
 have f_k3_9 : (k3 == 9) = false := beq_eq_false_iff_ne.2 (by omega)
 unfold TyPost
 clear hr hp hlo hU hb1 hs1 hx0 hy0 hx1 hw1 hgg hL hL3 hu
 go_enter Tryz.func20, Tryz.ntmps20
 go_upto_region 1 with fail
 rw [← HW1.out, ← HG.out]
 obtain ⟨x0, x1, x2, x3, x4, x5⟩ := cz6 HX0.out
 obtain ⟨y0, y1, y2, y3, y4, y5⟩ := cz6 HY0.out
 go_upto_region 20 with fail
 have rb := HX1.out
 obtain ⟨q0, q1, q2, q3, q4, q5, z0, z1, z2, z3, z4, z5⟩ := qz6 rb
 have RBX := Hd rb
 clear rb
 go_wp2_with fail
 have rs := six_set RBX.out (.int .i64 2) (.string ⟨#[]⟩) (.int .i64 0) (.slice none 0 0) (.slice none 0 0) (.slice none 0 0)
 obtain ⟨r0, r1, r2, r3, r4, r5⟩ := cz6 rs
 clear q0 q1 q2 q3 q4 q5 z0 z1 z2 z3 z4 z5 RBX rs
 refine bodyPost_ret (v := .agg #[.int .i64 2, .string ⟨#[]⟩, .int .i64 0, .slice none 0 0, .slice none 0 0, .slice none 0 0]) (by simp [results, Tryz.results20, go_sem, r0, r1, r2, r3, r4, r5]) rfl ?_
 clear r0 r1 r2 r3 r4 r5
 rw [← HUE.out]
 exact ⟨[.int .i64 2, .string ⟨#[]⟩, .int .i64 0, .slice none 0 0, .slice none 0 0, .slice none 0 0], rfl, ret_box (rep_k (fun b => K b ∨ g < b) w1 2) (fun b h => by have := HLO.out b h; have := HG.out; omega) (by have := HG.out; omega) _ _ _ _ _ _, set_six_below (HB1.out) (by have := HG.out; omega) _ _ _ _ _ _⟩
theorem at_u3 (hU : UnionP) {K : Nat → Prop} {w : World} (s : ByteArray) (n : Int) (ps : List Ty) (fs : FsT) (vs : VsT) (k3 : Int) (s3 : ByteArray) (n3 : Int) (ps3 : List Ty) (fs3 : FsT) (vs3 : VsT) {cs ds : List Value} (hr : RepT K w (.mk 12 s n ps fs vs) cs) (hp : RepT K w (.mk k3 s3 n3 ps3 fs3 vs3) ds) (hlo : ∀ b, K b → b < w.heap.size) (h1 : k3 ≠ 1) (h15 : k3 ≠ 15) (h7 : k3 ≠ 7) (h9 : k3 ≠ 9) :
  Calls Tryz.prog 20 #[.agg cs.toArray, .agg ds.toArray] w (TyPost K w (tyK 2)) := by
 generalize hu : tyK 2 = u
 obtain ⟨k2, s2, n2, ps2, fs2, vs2⟩ := u
 refine at_pre hr hp hlo fun A c A' c' A'' c'' A3 c3 B3 d3 C3 e3 w1 g hcs hds h => ?_
 clear hr hp
 subst hcs hds
 obtain ⟨HB1, HS1, HX0, HY0, HX1, HW1, HG, HR, HP, HL, HL3, HLO1, hlp, hlp3⟩ := h
 have HLO := Hd hlo
 have HU := Hd hU
 have HUE := Hd hu
 have hb1 := HB1.out
 have hs1 := HS1.out
 have hx0 := HX0.out
 have hy0 := HY0.out
 have hr := HR.out
 have hp := HP.out
 have hL := HL.out
 have hL3 := HL3.out
 have hx1 := HX1.out
 have hw1 := HW1.out
 have hgg := HG.out
 have f_k3_1 : (k3 == 1) = false := beq_eq_false_iff_ne.2 (by omega)
 have f_k3_15 : (k3 == 15) = false := beq_eq_false_iff_ne.2 (by omega)
 have f_k3_7 : (k3 == 7) = false := beq_eq_false_iff_ne.2 (by omega)
 have f_k3_9 : (k3 == 9) = false := beq_eq_false_iff_ne.2 (by omega)
 unfold TyPost
 clear hr hp hlo hU hb1 hs1 hx0 hy0 hx1 hw1 hgg hL hL3 hu
 go_enter Tryz.func20, Tryz.ntmps20
 go_upto_region 1 with fail
 rw [← HW1.out, ← HG.out]
 obtain ⟨x0, x1, x2, x3, x4, x5⟩ := cz6 HX0.out
 obtain ⟨y0, y1, y2, y3, y4, y5⟩ := cz6 HY0.out
 go_upto_region 20 with fail
 have rb := HX1.out
 obtain ⟨q0, q1, q2, q3, q4, q5, z0, z1, z2, z3, z4, z5⟩ := qz6 rb
 have RBX := Hd rb
 clear rb
 go_wp2_with fail
 have rs := six_set RBX.out (.int .i64 2) (.string ⟨#[]⟩) (.int .i64 0) (.slice none 0 0) (.slice none 0 0) (.slice none 0 0)
 obtain ⟨r0, r1, r2, r3, r4, r5⟩ := cz6 rs
 clear q0 q1 q2 q3 q4 q5 z0 z1 z2 z3 z4 z5 RBX rs
 refine bodyPost_ret (v := .agg #[.int .i64 2, .string ⟨#[]⟩, .int .i64 0, .slice none 0 0, .slice none 0 0, .slice none 0 0]) (by simp [results, Tryz.results20, go_sem, r0, r1, r2, r3, r4, r5]) rfl ?_
 clear r0 r1 r2 r3 r4 r5
 rw [← HUE.out]
 exact ⟨[.int .i64 2, .string ⟨#[]⟩, .int .i64 0, .slice none 0 0, .slice none 0 0, .slice none 0 0], rfl, ret_box (rep_k (fun b => K b ∨ g < b) w1 2) (fun b h => by have := HLO.out b h; have := HG.out; omega) (by have := HG.out; omega) _ _ _ _ _ _, set_six_below (HB1.out) (by have := HG.out; omega) _ _ _ _ _ _⟩
end Go.Proofs.YteakkjhcdpbidaaGreatDoor
