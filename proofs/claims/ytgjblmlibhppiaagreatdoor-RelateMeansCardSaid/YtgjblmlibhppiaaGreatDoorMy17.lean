import Derived.Test.YtgjblmlibhppiaaGreatDoorMy15
namespace Go.Proofs.YtgjblmlibhppiaaGreatDoor
set_option maxRecDepth 100000
set_option maxHeartbeats 64000000
open Go.RowKit
theorem OutT.nil (K : Nat → Prop) (w0 w : World) : OutT K w0 w (.slice none 0 0) [] := ⟨[], World.ownsRow_nil _ _ _ _, fun i h => absurd h (by simp)⟩
theorem nilF (K : Nat → Prop) (w : World) : ListF K w [] none 0 := ⟨⟨0, 0, ⟨by simp, by decide, fun _ => rfl, fun h => absurd h (by simp)⟩, fun i h => absurd h (by simp)⟩⟩
theorem nilV (K : Nat → Prop) (w : World) : ListV K w [] none 0 := ⟨⟨0, 0, ⟨by simp, by decide, fun _ => rfl, fun h => absurd h (by simp)⟩, fun i h => absurd h (by simp)⟩⟩
theorem wide_many {K : Nat → Prop} {w w1 W : World} {A : Option Addr} {c : Nat} {l : List Ty} (h : OutT K w1 W (.slice A l.length c) l) (hlo : ∀ b, K b → b < w.heap.size) (hb : Below w1.heap.size w1 W) (hg : w.heap.size < w1.heap.size) (hl : l.length ≤ 1099511627776) (y0 y1 y2 y3 y4 y5 : Value) :
  RepT (fun b => K b ∨ w.heap.size ≤ b) ((((((W.setCell ⟨w.heap.size, 0, none⟩ y0).setCell ⟨w.heap.size, 1, none⟩ y1).setCell ⟨w.heap.size, 2, none⟩ y2).setCell ⟨w.heap.size, 3, none⟩ y3).setCell ⟨w.heap.size, 4, none⟩ y4).setCell ⟨w.heap.size, 5, none⟩ y5) (.mk 15 emptyB 0 l [] []) [.int .i64 15, .string ⟨#[]⟩, .int .i64 0, .slice A l.length c, .slice none 0 0, .slice none 0 0] := by
 refine RepT.of (by decide) ?_ (nilF _ _) (nilV _ _)
 rcases InT.of_out h with ⟨hv, hn⟩ | ⟨g, c1, hv, hgg, hi⟩
 ·subst hn
  injection hv with h1 h2 h3
  subst h1 h3
  exact ⟨0, 0, ⟨by simp, by simp, fun _ => rfl, fun h => absurd h (by simp)⟩, fun i h => absurd h (by simp)⟩
 ·injection hv with h1 h2 h3
  subst h1 h3
  refine ⟨g, 0, ⟨hi.le, by omega, (fun h => by cases h), fun _ => ⟨rfl, .inr (by omega)⟩⟩, fun i hi2 => ?_⟩
  obtain ⟨cs, h4, h5⟩ := hi.reps i _ (List.getElem?_eq_getElem hi2)
  refine ⟨cs, fun j u hj => ?_, rep_box h4 hlo hb _ _ _ _ _ _⟩
  rw [six_other W y0 y1 y2 y3 y4 y5 (p := ⟨g, 0 + i * 6 + j, none⟩) (by show g ≠ _; omega), Nat.zero_add]; exact h5 j u hj
theorem wide_one {K : Nat → Prop} {w0 w : World} {v : Value} {x : Ty} (h : OutT K w0 w v [x]) : ∃ g c, v = .slice (some ⟨g, 0, none⟩) 1 c ∧ ∃ cs, RepT K w0 x cs ∧ ∀ j u, cs[j]? = some u → w.cell? ⟨g, j, none⟩ = some u := by
 rcases InT.of_out h with ⟨-, hn⟩ | ⟨g, c1, hv, -, hi⟩
 ·exact absurd hn (by simp)
 ·obtain ⟨cs, h4, h5⟩ := hi.reps 0 x rfl
  refine ⟨g, c1, hv, cs, h4, fun j u hj => ?_⟩
  have := h5 j u hj
  rw [Nat.zero_mul, Nat.zero_add] at this
  exact this
theorem len_insT (t : Ty) : ∀ l, (insT t l).length ≤ l.length + 1
 | [] => by simp [insT]
 | x :: l => by
  have := len_insT t l
  unfold insT
  repeat' split
  all_goals simp only [List.length_cons] at *
  all_goals omega
theorem filter_takeQ {q : Ty → Bool} {l : List Ty} {i : Nat} (h : i < l.length) : (l.take (i + 1)).filter q = (l.take i).filter q ++ (if q l[i] then [l[i]] else []) := by
 rw [List.take_succ_eq_append_getElem h, List.filter_append]
 simp only [List.filter_cons, List.filter_nil]
theorem union_ref {K : Nat → Prop} {w : World} {l : List Ty} {A : Option Addr} {c : Nat} (hL : ListT K w l A c) (hlo : ∀ b, K b → b < w.heap.size) (hn : ∀ t ∈ flatU l, (namesI t).length ≤ 1099511627776) (hl : (flatU l).length + 1 ≤ 1099511627776) :
  Calls Tryz.prog 14 #[.slice A l.length c] w fun e w' => ∃ cs, e = .returned (.agg cs.toArray) ∧ RepT (fun b => K b ∨ w.heap.size ≤ b) w' (shutU (sortT (keptR l))) cs ∧ Below w.heap.size w w' := by
 obtain ⟨wb, hwb⟩ : ∃ x, x = w.alloc (.cells #[.int .i64 0, .string ⟨#[]⟩, .int .i64 0, .slice none 0 0, .slice none 0 0, .slice none 0 0] 26) := ⟨_, rfl⟩
 have HWB : Hid (Below w.heap.size w wb) := Hd (by rw [hwb]; exact (Below.refl _ _).alloc (Nat.le_refl _) _)
 have HWS : Hid (wb.heap.size = w.heap.size + 1) := Hd (by rw [hwb]; simp)
 have HRB : Hid (wb.heap[w.heap.size]? = some (.cells #[.int .i64 0, .string ⟨#[]⟩, .int .i64 0, .slice none 0 0, .slice none 0 0, .slice none 0 0] 26 (0, 0))) := Hd (by rw [hwb]; exact heap_alloc_new w _)
 have KF := Hd (flatr_any l _ wb wb A c (.slice none 0 0) [] (hL.later HWB.out) (Below.refl _ _) (OutT.nil _ _ _) (by simp only [List.length_nil]; omega))
 have HN := Hd fun t (h : t ∈ nonN l) => hn t (mem_nonN.1 h).1
 have HNL : Hid ((nonN l).length + 1 ≤ 1099511627776) := Hd (by have := nonN_len l; omega)
 have HLO := Hd hlo
 clear hL hn hl hlo
 go_enter Tryz.func14, Tryz.ntmps14
 go_wp2_with fail
 rw [← hwb]
 clear hwb
 refine KF.out.mono ?_
 rintro e w1 ⟨v1, rfl, ho, hb⟩
 rw [List.nil_append] at ho
 have HO0 := Hd ho
 have HB0 := Hd hb
 obtain ⟨A0, c0, rfl, hs⟩ := OutT.src ho (by have := HNL.out; omega)
 have HS0 := Hd hs
 have KH3 := Hd (has_src (c := c0) hs 3)
 have KH2 := Hd (has_src (c := c0) hs 2)
 clear ho hb KF hs
 go_wp2_with fail
 refine KH3.out.mono ?_
 rintro e w2 ⟨rfl, rfl⟩
 clear KH3
 cases h3 : hasK 3 (nonN l) with
 | true =>
  have KB := Hd (beside_ref (c := c0) 3 (fun b (h : K b) => by have := HWS.out; have := HLO.out b h; omega) HB0.out HS0.out HN.out HNL.out)
  have hfe : besT 3 (nonN l) = allR l := by rw [allR, h3, if_pos rfl]
  have hlen : (besT 3 (nonN l)).length ≤ 1099511627776 := Nat.le_trans (besT_len _ _) HNL.out
  generalize besT 3 (nonN l) = F at *
  have HFE := Hd hfe
  have HFL := Hd hlen
  clear hfe hlen h3 HN KH2
  go_wp2_with fail
  refine KB.out.mono ?_
  rintro e w2 ⟨v2, rfl, ho2, hb2⟩
  have HB1 := Hd (HB0.out.trans (hb2.mono HB0.out.size))
  obtain ⟨A1, c1, rfl, hs2⟩ := OutT.src ho2 HFL.out
  have HSRC := Hd hs2
  clear ho2 hb2 hs2 KB HO0 HB0 HS0 HNL
  have KH7 := Hd (has_src (c := c1) HSRC.out 7)
  have KH8 := Hd (has_src (c := c1) HSRC.out 8)
  obtain ⟨qn, hqn⟩ : ∃ q, q = hasK 7 F := ⟨_, rfl⟩
  obtain ⟨qs, hqs⟩ : ∃ q, q = hasK 8 F := ⟨_, rfl⟩
  rw [← hqn] at KH7
  rw [← hqs] at KH8
  have HKE : Hid (keptR l = F.filter fun t => !dropR qn qs t) := Hd (by rw [keptR, ← HFE.out, ← hqn, ← hqs])
  clear hqn hqs
  go_wp2_with fail
  refine KH7.out.mono ?_
  rintro e wa ⟨rfl, rfl⟩
  go_wp2_with fail
  refine KH8.out.mono ?_
  rintro e wd ⟨rfl, rfl⟩
  go_wp2_with fail
  obtain ⟨b, hAA, hll, hat⟩ := HSRC.out
  have HAA := Hd hAA
  have HAT := Hd hat
  clear hAA hat KH7 KH8
  go_loopw [6, 7] (fun ov iv wr => ∃ (i : Nat) (acc : List Ty), i ≤ F.length ∧ iv = .int .i64 i ∧ Asc acc ∧ (∀ x, x ∈ acc ↔ x ∈ (F.take i).filter fun t => !dropR qn qs t) ∧ acc.length ≤ i ∧ OutT K wd wr ov acc ∧ Below wd.heap.size wd wr) (fun _ v _ => F.length - (intOf v).toNat)
  case atStart => exact ⟨0, [], by omega, rfl, List.Pairwise.nil, fun x => by simp, Nat.le_refl _, OutT.nil _ _ _, Below.refl _ _⟩
  case round =>
   obtain ⟨i, acc, hi, rfl, has, hmem, hal, ho, hb⟩ := hrel
   have HAS := Hd has
   have HMEM := Hd hmem
   have HAL := Hd hal
   have HO2 := Hd (And.intro ho hb)
   obtain ⟨vs, hvs, -⟩ := ho
   obtain ⟨A2, c2, rfl, -⟩ := sliceT hvs
   clear hvs hb has hmem hal
   by_cases hin : i < F.length
   ·have t1 : decide ((i : Int) < (F.length : Int)) = true := by simp; omega
    have wr2 : wrap64 ((i : Int) + 1) = ((i + 1 : Nat) : Int) := wrap_one (by omega)
    have HM := Hd (measI hin)
    have hA2 := HAA.out (by omega)
    obtain ⟨cs, hrep, hcs⟩ := HAT.out i hin
    have HFT := Hd (filter_takeQ (q := fun t => !dropR qn qs t) hin)
    subst hA2
    generalize F[i] = t at hrep HFT
    obtain ⟨k2, s2, n2, ps2, fs2, vs2⟩ := t
    have KP := Hd (put_any HO2.out.1 HAS.out (hrep.later HB1.out) HO2.out.2 (by have := HAL.out; have := HFL.out; omega))
    unfold PutPost at KP
    obtain ⟨Aq, cq, Ag, cg, Ah, ch, rfl, -⟩ := hrep.inv
    have HIn : Hid (i + 1 ≤ F.length) := Hd hin
    have y0 := cell_stays HO2.out.2 (hcs 0 _ rfl)
    have y1 := cell_stays HO2.out.2 (hcs 1 _ rfl)
    have y2 := cell_stays HO2.out.2 (hcs 2 _ rfl)
    have y3 := cell_stays HO2.out.2 (hcs 3 _ rfl)
    have y4 := cell_stays HO2.out.2 (hcs 4 _ rfl)
    have y5 := cell_stays HO2.out.2 (hcs 5 _ rfl)
    rw [Nat.add_zero] at y0
    simp only [cells6T] at KP
    clear hi hcs hrep
    by_cases h9 : k2 = 9
    ·have g9 : (k2 == 9) = true := by simpa using h9
     have g10 : (k2 == 10) = false := by subst h9; rfl
     cases qn with
     | true =>
      have HQ : Hid ((!dropR true qs (.mk k2 s2 n2 ps2 fs2 vs2)) = false) := Hd (by simp [dropR, Ty.k, h9])
      clear h9 KP
      go_wp2_with fail
      refine ⟨⟨i + 1, acc, HIn.out, by first | rfl | rw [wr2], HAS.out, fun x => ?p1, Nat.le_succ_of_le HAL.out, HO2.out.1, HO2.out.2⟩, ?p3⟩
      case p1 => rw [HFT.out, HQ.out]; simpa using HMEM.out x
      case p3 => first | exact HM.out | (rw [wr2]; exact HM.out)
     | false =>
      have HQ : Hid ((!dropR false qs (.mk k2 s2 n2 ps2 fs2 vs2)) = true) := Hd (by simp [dropR, Ty.k, h9])
      clear h9
      go_wp2_with fail
      refine KP.out.mono ?_
      rintro e w2 ⟨v2, rfl, ho2, hb2⟩
      have HP2 := Hd (And.intro ho2 hb2)
      clear ho2 hb2 KP y0 y1 y2 y3 y4 y5
      go_wp2_with fail
      refine ⟨⟨i + 1, _, HIn.out, by first | rfl | rw [wr2], asc_insT _ HAS.out, fun x => ?p1, ?p2, HP2.out.1, HP2.out.2⟩, ?p3⟩
      case p1 => rw [HFT.out, HQ.out, mem_insT, HMEM.out]; simp [or_comm]
      case p2 => exact Nat.le_trans (len_insT _ _) (Nat.succ_le_succ HAL.out)
      case p3 => first | exact HM.out | (rw [wr2]; exact HM.out)
    ·have g9 : (k2 == 9) = false := by simpa using h9
     by_cases h10 : k2 = 10
     ·have g10 : (k2 == 10) = true := by simpa using h10
      cases qs with
      | true =>
       have HQ : Hid ((!dropR qn true (.mk k2 s2 n2 ps2 fs2 vs2)) = false) := Hd (by simp [dropR, Ty.k, h10])
       clear h9 h10 KP
       go_wp2_with fail
       refine ⟨⟨i + 1, acc, HIn.out, by first | rfl | rw [wr2], HAS.out, fun x => ?p1, Nat.le_succ_of_le HAL.out, HO2.out.1, HO2.out.2⟩, ?p3⟩
       case p1 => rw [HFT.out, HQ.out]; simpa using HMEM.out x
       case p3 => first | exact HM.out | (rw [wr2]; exact HM.out)
      | false =>
       have HQ : Hid ((!dropR qn false (.mk k2 s2 n2 ps2 fs2 vs2)) = true) := Hd (by simp [dropR, Ty.k, h9])
       clear h9 h10
       go_wp2_with fail
       refine KP.out.mono ?_
       rintro e w2 ⟨v2, rfl, ho2, hb2⟩
       have HP2 := Hd (And.intro ho2 hb2)
       clear ho2 hb2 KP y0 y1 y2 y3 y4 y5
       go_wp2_with fail
       refine ⟨⟨i + 1, _, HIn.out, by first | rfl | rw [wr2], asc_insT _ HAS.out, fun x => ?p1, ?p2, HP2.out.1, HP2.out.2⟩, ?p3⟩
       case p1 => rw [HFT.out, HQ.out, mem_insT, HMEM.out]; simp [or_comm]
       case p2 => exact Nat.le_trans (len_insT _ _) (Nat.succ_le_succ HAL.out)
       case p3 => first | exact HM.out | (rw [wr2]; exact HM.out)
     ·have g10 : (k2 == 10) = false := by simpa using h10
      have HQ : Hid ((!dropR qn qs (.mk k2 s2 n2 ps2 fs2 vs2)) = true) := Hd (by simp [dropR, Ty.k, h9, h10])
      clear h9 h10
      go_wp2_with fail
      refine KP.out.mono ?_
      rintro e w2 ⟨v2, rfl, ho2, hb2⟩
      have HP2 := Hd (And.intro ho2 hb2)
      clear ho2 hb2 KP y0 y1 y2 y3 y4 y5
      go_wp2_with fail
      refine ⟨⟨i + 1, _, HIn.out, by first | rfl | rw [wr2], asc_insT _ HAS.out, fun x => ?p1, ?p2, HP2.out.1, HP2.out.2⟩, ?p3⟩
      case p1 => rw [HFT.out, HQ.out, mem_insT, HMEM.out]; simp [or_comm]
      case p2 => exact Nat.le_trans (len_insT _ _) (Nat.succ_le_succ HAL.out)
      case p3 => first | exact HM.out | (rw [wr2]; exact HM.out)
   ·have t1 : decide ((i : Int) < (F.length : Int)) = false := by simp; omega
    have HE : Hid (sortT (keptR l) = acc) := Hd (sortT_of HAS.out fun x => by rw [HMEM.out, List.take_of_length_le (by omega), HKE.out])
    have HBT := Hd (HB1.out.trans (HO2.out.2.mono HB1.out.size))
    have HBE := Hd (HWB.out.trans (HBT.out.mono HWB.out.size))
    have rb := box_later HRB.out HBT.out
    have q0 := Ch rb 0
    have q1 := Ch rb 1
    have q2 := Ch rb 2
    have q3 := Ch rb 3
    have q4 := Ch rb 4
    have q5 := Ch rb 5
    have z0 := Lib.frozen_of_heap rb 0
    have z1 := Lib.frozen_of_heap rb 1
    have z2 := Lib.frozen_of_heap rb 2
    have z3 := Lib.frozen_of_heap rb 3
    have z4 := Lib.frozen_of_heap rb 4
    have z5 := Lib.frozen_of_heap rb 5
    have HAC : Hid (acc.length ≤ 1099511627776) := Hd (by have := HAL.out; have := HFL.out; omega)
    clear hi
    have HWI := Hd (wide_many (w := w) HO2.out.1 HLO.out HO2.out.2 (by have h1 := HWS.out; have h2 := HB1.out.size; omega) HAC.out)
    rcases acc with _ | ⟨x, _ | ⟨y, d⟩⟩
    ·have hnone : True := trivial
     have rs := six_set rb (.int .i64 1) (.string ⟨#[]⟩) (.int .i64 0) (.slice none 0 0) (.slice none 0 0) (.slice none 0 0)
     have r0 := Ch rs 0
     have r1 := Ch rs 1
     have r2 := Ch rs 2
     have r3 := Ch rs 3
     have r4 := Ch rs 4
     have r5 := Ch rs 5
     clear rb rs
     go_wp2_with fail
     refine bodyPost_ret (v := .agg #[.int .i64 1, .string ⟨#[]⟩, .int .i64 0, .slice none 0 0, .slice none 0 0, .slice none 0 0]) (by simp [results, Tryz.results14, go_sem, r0, r1, r2, r3, r4, r5]) rfl ?_
     clear r0 r1 r2 r3 r4 r5 q0 q1 q2 q3 q4 q5 z0 z1 z2 z3 z4 z5
     rw [HE.out]
     exact ⟨[.int .i64 1, .string ⟨#[]⟩, .int .i64 0, .slice none 0 0, .slice none 0 0, .slice none 0 0], rfl, rep_kind _ _ 1, set_six_below HBE.out (Nat.le_refl _) _ _ _ _ _ _⟩
    ·obtain ⟨g, c3, hv3, zz⟩ := wide_one HO2.out.1
     obtain ⟨k2, s2, n2, ps2, fs2, vs2⟩ := x
     obtain ⟨cs, hrep, hcs⟩ := zz
     obtain ⟨Aq, cq, Ag, cg, Ah, ch, rfl, -⟩ := hrep.inv
     have HRW := Hd hrep
     simp only [cells6T] at hcs HRW
     have y0 := hcs 0 _ rfl
     have y1 := hcs 1 _ rfl
     have y2 := hcs 2 _ rfl
     have y3 := hcs 3 _ rfl
     have y4 := hcs 4 _ rfl
     have y5 := hcs 5 _ rfl
     injection hv3 with hv3 hv4 hv5
     subst hv3
     clear hcs hrep
     have rs := six_set rb (.int .i64 k2) (.string s2) (.int .i64 n2) (.slice Aq ps2.length cq) (.slice Ag fs2.length cg) (.slice Ah vs2.length ch)
     have r0 := Ch rs 0
     have r1 := Ch rs 1
     have r2 := Ch rs 2
     have r3 := Ch rs 3
     have r4 := Ch rs 4
     have r5 := Ch rs 5
     clear rb rs
     go_wp2_with fail
     refine bodyPost_ret (v := .agg #[.int .i64 k2, .string s2, .int .i64 n2, .slice Aq ps2.length cq, .slice Ag fs2.length cg, .slice Ah vs2.length ch]) (by simp [results, Tryz.results14, go_sem, r0, r1, r2, r3, r4, r5]) rfl ?_
     clear r0 r1 r2 r3 r4 r5 q0 q1 q2 q3 q4 q5 z0 z1 z2 z3 z4 z5
     rw [HE.out]
     exact ⟨[.int .i64 k2, .string s2, .int .i64 n2, .slice Aq ps2.length cq, .slice Ag fs2.length cg, .slice Ah vs2.length ch], rfl, rep_box HRW.out HLO.out HO2.out.2 _ _ _ _ _ _, set_six_below HBE.out (Nat.le_refl _) _ _ _ _ _ _⟩
    ·have hd0 : ((x :: y :: d).length : Int) ≠ 0 := by simp; omega
     have hd1 : ((x :: y :: d).length : Int) ≠ 1 := by simp; omega
     have te0 : (((x :: y :: d).length : Int) == 0) = false := by simpa using hd0
     have te1 : (((x :: y :: d).length : Int) == 1) = false := by simpa using hd1
     have hun : shutU (x :: y :: d) = .mk 15 emptyB 0 (x :: y :: d) [] [] := rfl
     clear hd0 hd1
     generalize x :: y :: d = dd at *
     have HUN := Hd hun
     clear hun
     have rs := six_set rb (.int .i64 15) (.string ⟨#[]⟩) (.int .i64 0) (.slice A2 dd.length c2) (.slice none 0 0) (.slice none 0 0)
     have r0 := Ch rs 0
     have r1 := Ch rs 1
     have r2 := Ch rs 2
     have r3 := Ch rs 3
     have r4 := Ch rs 4
     have r5 := Ch rs 5
     clear rb rs
     go_wp2_with fail
     refine bodyPost_ret (v := .agg #[.int .i64 15, .string ⟨#[]⟩, .int .i64 0, .slice A2 dd.length c2, .slice none 0 0, .slice none 0 0]) (by simp [results, Tryz.results14, go_sem, r0, r1, r2, r3, r4, r5]) rfl ?_
     clear r0 r1 r2 r3 r4 r5 q0 q1 q2 q3 q4 q5 z0 z1 z2 z3 z4 z5
     rw [HE.out, HUN.out]
     exact ⟨[.int .i64 15, .string ⟨#[]⟩, .int .i64 0, .slice A2 dd.length c2, .slice none 0 0, .slice none 0 0], rfl, HWI.out _ _ _ _ _ _, set_six_below HBE.out (Nat.le_refl _) _ _ _ _ _ _⟩
 | false =>
  go_wp2_with fail
  refine KH2.out.mono ?_
  rintro e w3 ⟨rfl, rfl⟩
  clear KH2
  cases h2 : hasK 2 (nonN l) with
  | true =>
   have KB := Hd (beside_ref (c := c0) 2 (fun b (h : K b) => by have := HWS.out; have := HLO.out b h; omega) HB0.out HS0.out HN.out HNL.out)
   have hfe : besT 2 (nonN l) = allR l := by rw [allR, h3, h2, if_neg (by decide), if_pos rfl]
   have hlen : (besT 2 (nonN l)).length ≤ 1099511627776 := Nat.le_trans (besT_len _ _) HNL.out
   generalize besT 2 (nonN l) = F at *
   have HFE := Hd hfe
   have HFL := Hd hlen
   clear hfe hlen h3 h2 HN
   go_wp2_with fail
   refine KB.out.mono ?_
   rintro e w2 ⟨v2, rfl, ho2, hb2⟩
   have HB1 := Hd (HB0.out.trans (hb2.mono HB0.out.size))
   obtain ⟨A1, c1, rfl, hs2⟩ := OutT.src ho2 HFL.out
   have HSRC := Hd hs2
   clear ho2 hb2 hs2 KB HO0 HB0 HS0 HNL
   have KH7 := Hd (has_src (c := c1) HSRC.out 7)
   have KH8 := Hd (has_src (c := c1) HSRC.out 8)
   obtain ⟨qn, hqn⟩ : ∃ q, q = hasK 7 F := ⟨_, rfl⟩
   obtain ⟨qs, hqs⟩ : ∃ q, q = hasK 8 F := ⟨_, rfl⟩
   rw [← hqn] at KH7
   rw [← hqs] at KH8
   have HKE : Hid (keptR l = F.filter fun t => !dropR qn qs t) := Hd (by rw [keptR, ← HFE.out, ← hqn, ← hqs])
   clear hqn hqs
   go_wp2_with fail
   refine KH7.out.mono ?_
   rintro e wa ⟨rfl, rfl⟩
   go_wp2_with fail
   refine KH8.out.mono ?_
   rintro e wd ⟨rfl, rfl⟩
   go_wp2_with fail
   obtain ⟨b, hAA, hll, hat⟩ := HSRC.out
   have HAA := Hd hAA
   have HAT := Hd hat
   clear hAA hat KH7 KH8
   go_loopw [6, 7] (fun ov iv wr => ∃ (i : Nat) (acc : List Ty), i ≤ F.length ∧ iv = .int .i64 i ∧ Asc acc ∧ (∀ x, x ∈ acc ↔ x ∈ (F.take i).filter fun t => !dropR qn qs t) ∧ acc.length ≤ i ∧ OutT K wd wr ov acc ∧ Below wd.heap.size wd wr) (fun _ v _ => F.length - (intOf v).toNat)
   case atStart => exact ⟨0, [], by omega, rfl, List.Pairwise.nil, fun x => by simp, Nat.le_refl _, OutT.nil _ _ _, Below.refl _ _⟩
   case round =>
    obtain ⟨i, acc, hi, rfl, has, hmem, hal, ho, hb⟩ := hrel
    have HAS := Hd has
    have HMEM := Hd hmem
    have HAL := Hd hal
    have HO2 := Hd (And.intro ho hb)
    obtain ⟨vs, hvs, -⟩ := ho
    obtain ⟨A2, c2, rfl, -⟩ := sliceT hvs
    clear hvs hb has hmem hal
    by_cases hin : i < F.length
    ·have t1 : decide ((i : Int) < (F.length : Int)) = true := by simp; omega
     have wr2 : wrap64 ((i : Int) + 1) = ((i + 1 : Nat) : Int) := wrap_one (by omega)
     have HM := Hd (measI hin)
     have hA2 := HAA.out (by omega)
     obtain ⟨cs, hrep, hcs⟩ := HAT.out i hin
     have HFT := Hd (filter_takeQ (q := fun t => !dropR qn qs t) hin)
     subst hA2
     generalize F[i] = t at hrep HFT
     obtain ⟨k2, s2, n2, ps2, fs2, vs2⟩ := t
     have KP := Hd (put_any HO2.out.1 HAS.out (hrep.later HB1.out) HO2.out.2 (by have := HAL.out; have := HFL.out; omega))
     unfold PutPost at KP
     obtain ⟨Aq, cq, Ag, cg, Ah, ch, rfl, -⟩ := hrep.inv
     have HIn : Hid (i + 1 ≤ F.length) := Hd hin
     have y0 := cell_stays HO2.out.2 (hcs 0 _ rfl)
     have y1 := cell_stays HO2.out.2 (hcs 1 _ rfl)
     have y2 := cell_stays HO2.out.2 (hcs 2 _ rfl)
     have y3 := cell_stays HO2.out.2 (hcs 3 _ rfl)
     have y4 := cell_stays HO2.out.2 (hcs 4 _ rfl)
     have y5 := cell_stays HO2.out.2 (hcs 5 _ rfl)
     rw [Nat.add_zero] at y0
     simp only [cells6T] at KP
     clear hi hcs hrep
     by_cases h9 : k2 = 9
     ·have g9 : (k2 == 9) = true := by simpa using h9
      have g10 : (k2 == 10) = false := by subst h9; rfl
      cases qn with
      | true =>
       have HQ : Hid ((!dropR true qs (.mk k2 s2 n2 ps2 fs2 vs2)) = false) := Hd (by simp [dropR, Ty.k, h9])
       clear h9 KP
       go_wp2_with fail
       refine ⟨⟨i + 1, acc, HIn.out, by first | rfl | rw [wr2], HAS.out, fun x => ?p1, Nat.le_succ_of_le HAL.out, HO2.out.1, HO2.out.2⟩, ?p3⟩
       case p1 => rw [HFT.out, HQ.out]; simpa using HMEM.out x
       case p3 => first | exact HM.out | (rw [wr2]; exact HM.out)
      | false =>
       have HQ : Hid ((!dropR false qs (.mk k2 s2 n2 ps2 fs2 vs2)) = true) := Hd (by simp [dropR, Ty.k, h9])
       clear h9
       go_wp2_with fail
       refine KP.out.mono ?_
       rintro e w2 ⟨v2, rfl, ho2, hb2⟩
       have HP2 := Hd (And.intro ho2 hb2)
       clear ho2 hb2 KP y0 y1 y2 y3 y4 y5
       go_wp2_with fail
       refine ⟨⟨i + 1, _, HIn.out, by first | rfl | rw [wr2], asc_insT _ HAS.out, fun x => ?p1, ?p2, HP2.out.1, HP2.out.2⟩, ?p3⟩
       case p1 => rw [HFT.out, HQ.out, mem_insT, HMEM.out]; simp [or_comm]
       case p2 => exact Nat.le_trans (len_insT _ _) (Nat.succ_le_succ HAL.out)
       case p3 => first | exact HM.out | (rw [wr2]; exact HM.out)
     ·have g9 : (k2 == 9) = false := by simpa using h9
      by_cases h10 : k2 = 10
      ·have g10 : (k2 == 10) = true := by simpa using h10
       cases qs with
       | true =>
        have HQ : Hid ((!dropR qn true (.mk k2 s2 n2 ps2 fs2 vs2)) = false) := Hd (by simp [dropR, Ty.k, h10])
        clear h9 h10 KP
        go_wp2_with fail
        refine ⟨⟨i + 1, acc, HIn.out, by first | rfl | rw [wr2], HAS.out, fun x => ?p1, Nat.le_succ_of_le HAL.out, HO2.out.1, HO2.out.2⟩, ?p3⟩
        case p1 => rw [HFT.out, HQ.out]; simpa using HMEM.out x
        case p3 => first | exact HM.out | (rw [wr2]; exact HM.out)
       | false =>
        have HQ : Hid ((!dropR qn false (.mk k2 s2 n2 ps2 fs2 vs2)) = true) := Hd (by simp [dropR, Ty.k, h9])
        clear h9 h10
        go_wp2_with fail
        refine KP.out.mono ?_
        rintro e w2 ⟨v2, rfl, ho2, hb2⟩
        have HP2 := Hd (And.intro ho2 hb2)
        clear ho2 hb2 KP y0 y1 y2 y3 y4 y5
        go_wp2_with fail
        refine ⟨⟨i + 1, _, HIn.out, by first | rfl | rw [wr2], asc_insT _ HAS.out, fun x => ?p1, ?p2, HP2.out.1, HP2.out.2⟩, ?p3⟩
        case p1 => rw [HFT.out, HQ.out, mem_insT, HMEM.out]; simp [or_comm]
        case p2 => exact Nat.le_trans (len_insT _ _) (Nat.succ_le_succ HAL.out)
        case p3 => first | exact HM.out | (rw [wr2]; exact HM.out)
      ·have g10 : (k2 == 10) = false := by simpa using h10
       have HQ : Hid ((!dropR qn qs (.mk k2 s2 n2 ps2 fs2 vs2)) = true) := Hd (by simp [dropR, Ty.k, h9, h10])
       clear h9 h10
       go_wp2_with fail
       refine KP.out.mono ?_
       rintro e w2 ⟨v2, rfl, ho2, hb2⟩
       have HP2 := Hd (And.intro ho2 hb2)
       clear ho2 hb2 KP y0 y1 y2 y3 y4 y5
       go_wp2_with fail
       refine ⟨⟨i + 1, _, HIn.out, by first | rfl | rw [wr2], asc_insT _ HAS.out, fun x => ?p1, ?p2, HP2.out.1, HP2.out.2⟩, ?p3⟩
       case p1 => rw [HFT.out, HQ.out, mem_insT, HMEM.out]; simp [or_comm]
       case p2 => exact Nat.le_trans (len_insT _ _) (Nat.succ_le_succ HAL.out)
       case p3 => first | exact HM.out | (rw [wr2]; exact HM.out)
    ·have t1 : decide ((i : Int) < (F.length : Int)) = false := by simp; omega
     have HE : Hid (sortT (keptR l) = acc) := Hd (sortT_of HAS.out fun x => by rw [HMEM.out, List.take_of_length_le (by omega), HKE.out])
     have HBT := Hd (HB1.out.trans (HO2.out.2.mono HB1.out.size))
     have HBE := Hd (HWB.out.trans (HBT.out.mono HWB.out.size))
     have rb := box_later HRB.out HBT.out
     have q0 := Ch rb 0
     have q1 := Ch rb 1
     have q2 := Ch rb 2
     have q3 := Ch rb 3
     have q4 := Ch rb 4
     have q5 := Ch rb 5
     have z0 := Lib.frozen_of_heap rb 0
     have z1 := Lib.frozen_of_heap rb 1
     have z2 := Lib.frozen_of_heap rb 2
     have z3 := Lib.frozen_of_heap rb 3
     have z4 := Lib.frozen_of_heap rb 4
     have z5 := Lib.frozen_of_heap rb 5
     have HAC : Hid (acc.length ≤ 1099511627776) := Hd (by have := HAL.out; have := HFL.out; omega)
     clear hi
     have HWI := Hd (wide_many (w := w) HO2.out.1 HLO.out HO2.out.2 (by have h1 := HWS.out; have h2 := HB1.out.size; omega) HAC.out)
     rcases acc with _ | ⟨x, _ | ⟨y, d⟩⟩
     ·have hnone : True := trivial
      have rs := six_set rb (.int .i64 1) (.string ⟨#[]⟩) (.int .i64 0) (.slice none 0 0) (.slice none 0 0) (.slice none 0 0)
      have r0 := Ch rs 0
      have r1 := Ch rs 1
      have r2 := Ch rs 2
      have r3 := Ch rs 3
      have r4 := Ch rs 4
      have r5 := Ch rs 5
      clear rb rs
      go_wp2_with fail
      refine bodyPost_ret (v := .agg #[.int .i64 1, .string ⟨#[]⟩, .int .i64 0, .slice none 0 0, .slice none 0 0, .slice none 0 0]) (by simp [results, Tryz.results14, go_sem, r0, r1, r2, r3, r4, r5]) rfl ?_
      clear r0 r1 r2 r3 r4 r5 q0 q1 q2 q3 q4 q5 z0 z1 z2 z3 z4 z5
      rw [HE.out]
      exact ⟨[.int .i64 1, .string ⟨#[]⟩, .int .i64 0, .slice none 0 0, .slice none 0 0, .slice none 0 0], rfl, rep_kind _ _ 1, set_six_below HBE.out (Nat.le_refl _) _ _ _ _ _ _⟩
     ·obtain ⟨g, c3, hv3, zz⟩ := wide_one HO2.out.1
      obtain ⟨k2, s2, n2, ps2, fs2, vs2⟩ := x
      obtain ⟨cs, hrep, hcs⟩ := zz
      obtain ⟨Aq, cq, Ag, cg, Ah, ch, rfl, -⟩ := hrep.inv
      have HRW := Hd hrep
      simp only [cells6T] at hcs HRW
      have y0 := hcs 0 _ rfl
      have y1 := hcs 1 _ rfl
      have y2 := hcs 2 _ rfl
      have y3 := hcs 3 _ rfl
      have y4 := hcs 4 _ rfl
      have y5 := hcs 5 _ rfl
      injection hv3 with hv3 hv4 hv5
      subst hv3
      clear hcs hrep
      have rs := six_set rb (.int .i64 k2) (.string s2) (.int .i64 n2) (.slice Aq ps2.length cq) (.slice Ag fs2.length cg) (.slice Ah vs2.length ch)
      have r0 := Ch rs 0
      have r1 := Ch rs 1
      have r2 := Ch rs 2
      have r3 := Ch rs 3
      have r4 := Ch rs 4
      have r5 := Ch rs 5
      clear rb rs
      go_wp2_with fail
      refine bodyPost_ret (v := .agg #[.int .i64 k2, .string s2, .int .i64 n2, .slice Aq ps2.length cq, .slice Ag fs2.length cg, .slice Ah vs2.length ch]) (by simp [results, Tryz.results14, go_sem, r0, r1, r2, r3, r4, r5]) rfl ?_
      clear r0 r1 r2 r3 r4 r5 q0 q1 q2 q3 q4 q5 z0 z1 z2 z3 z4 z5
      rw [HE.out]
      exact ⟨[.int .i64 k2, .string s2, .int .i64 n2, .slice Aq ps2.length cq, .slice Ag fs2.length cg, .slice Ah vs2.length ch], rfl, rep_box HRW.out HLO.out HO2.out.2 _ _ _ _ _ _, set_six_below HBE.out (Nat.le_refl _) _ _ _ _ _ _⟩
     ·have hd0 : ((x :: y :: d).length : Int) ≠ 0 := by simp; omega
      have hd1 : ((x :: y :: d).length : Int) ≠ 1 := by simp; omega
      have te0 : (((x :: y :: d).length : Int) == 0) = false := by simpa using hd0
      have te1 : (((x :: y :: d).length : Int) == 1) = false := by simpa using hd1
      have hun : shutU (x :: y :: d) = .mk 15 emptyB 0 (x :: y :: d) [] [] := rfl
      clear hd0 hd1
      generalize x :: y :: d = dd at *
      have HUN := Hd hun
      clear hun
      have rs := six_set rb (.int .i64 15) (.string ⟨#[]⟩) (.int .i64 0) (.slice A2 dd.length c2) (.slice none 0 0) (.slice none 0 0)
      have r0 := Ch rs 0
      have r1 := Ch rs 1
      have r2 := Ch rs 2
      have r3 := Ch rs 3
      have r4 := Ch rs 4
      have r5 := Ch rs 5
      clear rb rs
      go_wp2_with fail
      refine bodyPost_ret (v := .agg #[.int .i64 15, .string ⟨#[]⟩, .int .i64 0, .slice A2 dd.length c2, .slice none 0 0, .slice none 0 0]) (by simp [results, Tryz.results14, go_sem, r0, r1, r2, r3, r4, r5]) rfl ?_
      clear r0 r1 r2 r3 r4 r5 q0 q1 q2 q3 q4 q5 z0 z1 z2 z3 z4 z5
      rw [HE.out, HUN.out]
      exact ⟨[.int .i64 15, .string ⟨#[]⟩, .int .i64 0, .slice A2 dd.length c2, .slice none 0 0, .slice none 0 0], rfl, HWI.out _ _ _ _ _ _, set_six_below HBE.out (Nat.le_refl _) _ _ _ _ _ _⟩
  | false =>
   have hfe : nonN l = allR l := by rw [allR, h3, h2, if_neg (by decide), if_neg (by decide)]
   have HFL : Hid ((nonN l).length ≤ 1099511627776) := Hd (by have := HNL.out; omega)
   generalize nonN l = F at *
   have HFE := Hd hfe
   have HB1 := HB0
   have HSRC := HS0
   have A1 := A0
   clear hfe h3 h2 HN HNL A1
   have KH7 := Hd (has_src (c := c0) HSRC.out 7)
   have KH8 := Hd (has_src (c := c0) HSRC.out 8)
   obtain ⟨qn, hqn⟩ : ∃ q, q = hasK 7 F := ⟨_, rfl⟩
   obtain ⟨qs, hqs⟩ : ∃ q, q = hasK 8 F := ⟨_, rfl⟩
   rw [← hqn] at KH7
   rw [← hqs] at KH8
   have HKE : Hid (keptR l = F.filter fun t => !dropR qn qs t) := Hd (by rw [keptR, ← HFE.out, ← hqn, ← hqs])
   clear hqn hqs
   go_wp2_with fail
   refine KH7.out.mono ?_
   rintro e wa ⟨rfl, rfl⟩
   go_wp2_with fail
   refine KH8.out.mono ?_
   rintro e wd ⟨rfl, rfl⟩
   go_wp2_with fail
   obtain ⟨b, hAA, hll, hat⟩ := HSRC.out
   have HAA := Hd hAA
   have HAT := Hd hat
   clear hAA hat KH7 KH8
   go_loopw [6, 7] (fun ov iv wr => ∃ (i : Nat) (acc : List Ty), i ≤ F.length ∧ iv = .int .i64 i ∧ Asc acc ∧ (∀ x, x ∈ acc ↔ x ∈ (F.take i).filter fun t => !dropR qn qs t) ∧ acc.length ≤ i ∧ OutT K wd wr ov acc ∧ Below wd.heap.size wd wr) (fun _ v _ => F.length - (intOf v).toNat)
   case atStart => exact ⟨0, [], by omega, rfl, List.Pairwise.nil, fun x => by simp, Nat.le_refl _, OutT.nil _ _ _, Below.refl _ _⟩
   case round =>
    obtain ⟨i, acc, hi, rfl, has, hmem, hal, ho, hb⟩ := hrel
    have HAS := Hd has
    have HMEM := Hd hmem
    have HAL := Hd hal
    have HO2 := Hd (And.intro ho hb)
    obtain ⟨vs, hvs, -⟩ := ho
    obtain ⟨A2, c2, rfl, -⟩ := sliceT hvs
    clear hvs hb has hmem hal
    by_cases hin : i < F.length
    ·have t1 : decide ((i : Int) < (F.length : Int)) = true := by simp; omega
     have wr2 : wrap64 ((i : Int) + 1) = ((i + 1 : Nat) : Int) := wrap_one (by omega)
     have HM := Hd (measI hin)
     have hA2 := HAA.out (by omega)
     obtain ⟨cs, hrep, hcs⟩ := HAT.out i hin
     have HFT := Hd (filter_takeQ (q := fun t => !dropR qn qs t) hin)
     subst hA2
     generalize F[i] = t at hrep HFT
     obtain ⟨k2, s2, n2, ps2, fs2, vs2⟩ := t
     have KP := Hd (put_any HO2.out.1 HAS.out (hrep.later HB1.out) HO2.out.2 (by have := HAL.out; have := HFL.out; omega))
     unfold PutPost at KP
     obtain ⟨Aq, cq, Ag, cg, Ah, ch, rfl, -⟩ := hrep.inv
     have HIn : Hid (i + 1 ≤ F.length) := Hd hin
     have y0 := cell_stays HO2.out.2 (hcs 0 _ rfl)
     have y1 := cell_stays HO2.out.2 (hcs 1 _ rfl)
     have y2 := cell_stays HO2.out.2 (hcs 2 _ rfl)
     have y3 := cell_stays HO2.out.2 (hcs 3 _ rfl)
     have y4 := cell_stays HO2.out.2 (hcs 4 _ rfl)
     have y5 := cell_stays HO2.out.2 (hcs 5 _ rfl)
     rw [Nat.add_zero] at y0
     simp only [cells6T] at KP
     clear hi hcs hrep
     by_cases h9 : k2 = 9
     ·have g9 : (k2 == 9) = true := by simpa using h9
      have g10 : (k2 == 10) = false := by subst h9; rfl
      cases qn with
      | true =>
       have HQ : Hid ((!dropR true qs (.mk k2 s2 n2 ps2 fs2 vs2)) = false) := Hd (by simp [dropR, Ty.k, h9])
       clear h9 KP
       go_wp2_with fail
       refine ⟨⟨i + 1, acc, HIn.out, by first | rfl | rw [wr2], HAS.out, fun x => ?p1, Nat.le_succ_of_le HAL.out, HO2.out.1, HO2.out.2⟩, ?p3⟩
       case p1 => rw [HFT.out, HQ.out]; simpa using HMEM.out x
       case p3 => first | exact HM.out | (rw [wr2]; exact HM.out)
      | false =>
       have HQ : Hid ((!dropR false qs (.mk k2 s2 n2 ps2 fs2 vs2)) = true) := Hd (by simp [dropR, Ty.k, h9])
       clear h9
       go_wp2_with fail
       refine KP.out.mono ?_
       rintro e w2 ⟨v2, rfl, ho2, hb2⟩
       have HP2 := Hd (And.intro ho2 hb2)
       clear ho2 hb2 KP y0 y1 y2 y3 y4 y5
       go_wp2_with fail
       refine ⟨⟨i + 1, _, HIn.out, by first | rfl | rw [wr2], asc_insT _ HAS.out, fun x => ?p1, ?p2, HP2.out.1, HP2.out.2⟩, ?p3⟩
       case p1 => rw [HFT.out, HQ.out, mem_insT, HMEM.out]; simp [or_comm]
       case p2 => exact Nat.le_trans (len_insT _ _) (Nat.succ_le_succ HAL.out)
       case p3 => first | exact HM.out | (rw [wr2]; exact HM.out)
     ·have g9 : (k2 == 9) = false := by simpa using h9
      by_cases h10 : k2 = 10
      ·have g10 : (k2 == 10) = true := by simpa using h10
       cases qs with
       | true =>
        have HQ : Hid ((!dropR qn true (.mk k2 s2 n2 ps2 fs2 vs2)) = false) := Hd (by simp [dropR, Ty.k, h10])
        clear h9 h10 KP
        go_wp2_with fail
        refine ⟨⟨i + 1, acc, HIn.out, by first | rfl | rw [wr2], HAS.out, fun x => ?p1, Nat.le_succ_of_le HAL.out, HO2.out.1, HO2.out.2⟩, ?p3⟩
        case p1 => rw [HFT.out, HQ.out]; simpa using HMEM.out x
        case p3 => first | exact HM.out | (rw [wr2]; exact HM.out)
       | false =>
        have HQ : Hid ((!dropR qn false (.mk k2 s2 n2 ps2 fs2 vs2)) = true) := Hd (by simp [dropR, Ty.k, h9])
        clear h9 h10
        go_wp2_with fail
        refine KP.out.mono ?_
        rintro e w2 ⟨v2, rfl, ho2, hb2⟩
        have HP2 := Hd (And.intro ho2 hb2)
        clear ho2 hb2 KP y0 y1 y2 y3 y4 y5
        go_wp2_with fail
        refine ⟨⟨i + 1, _, HIn.out, by first | rfl | rw [wr2], asc_insT _ HAS.out, fun x => ?p1, ?p2, HP2.out.1, HP2.out.2⟩, ?p3⟩
        case p1 => rw [HFT.out, HQ.out, mem_insT, HMEM.out]; simp [or_comm]
        case p2 => exact Nat.le_trans (len_insT _ _) (Nat.succ_le_succ HAL.out)
        case p3 => first | exact HM.out | (rw [wr2]; exact HM.out)
      ·have g10 : (k2 == 10) = false := by simpa using h10
       have HQ : Hid ((!dropR qn qs (.mk k2 s2 n2 ps2 fs2 vs2)) = true) := Hd (by simp [dropR, Ty.k, h9, h10])
       clear h9 h10
       go_wp2_with fail
       refine KP.out.mono ?_
       rintro e w2 ⟨v2, rfl, ho2, hb2⟩
       have HP2 := Hd (And.intro ho2 hb2)
       clear ho2 hb2 KP y0 y1 y2 y3 y4 y5
       go_wp2_with fail
       refine ⟨⟨i + 1, _, HIn.out, by first | rfl | rw [wr2], asc_insT _ HAS.out, fun x => ?p1, ?p2, HP2.out.1, HP2.out.2⟩, ?p3⟩
       case p1 => rw [HFT.out, HQ.out, mem_insT, HMEM.out]; simp [or_comm]
       case p2 => exact Nat.le_trans (len_insT _ _) (Nat.succ_le_succ HAL.out)
       case p3 => first | exact HM.out | (rw [wr2]; exact HM.out)
    ·have t1 : decide ((i : Int) < (F.length : Int)) = false := by simp; omega
     have HE : Hid (sortT (keptR l) = acc) := Hd (sortT_of HAS.out fun x => by rw [HMEM.out, List.take_of_length_le (by omega), HKE.out])
     have HBT := Hd (HB1.out.trans (HO2.out.2.mono HB1.out.size))
     have HBE := Hd (HWB.out.trans (HBT.out.mono HWB.out.size))
     have rb := box_later HRB.out HBT.out
     have q0 := Ch rb 0
     have q1 := Ch rb 1
     have q2 := Ch rb 2
     have q3 := Ch rb 3
     have q4 := Ch rb 4
     have q5 := Ch rb 5
     have z0 := Lib.frozen_of_heap rb 0
     have z1 := Lib.frozen_of_heap rb 1
     have z2 := Lib.frozen_of_heap rb 2
     have z3 := Lib.frozen_of_heap rb 3
     have z4 := Lib.frozen_of_heap rb 4
     have z5 := Lib.frozen_of_heap rb 5
     have HAC : Hid (acc.length ≤ 1099511627776) := Hd (by have := HAL.out; have := HFL.out; omega)
     clear hi
     have HWI := Hd (wide_many (w := w) HO2.out.1 HLO.out HO2.out.2 (by have h1 := HWS.out; have h2 := HB1.out.size; omega) HAC.out)
     rcases acc with _ | ⟨x, _ | ⟨y, d⟩⟩
     ·have hnone : True := trivial
      have rs := six_set rb (.int .i64 1) (.string ⟨#[]⟩) (.int .i64 0) (.slice none 0 0) (.slice none 0 0) (.slice none 0 0)
      have r0 := Ch rs 0
      have r1 := Ch rs 1
      have r2 := Ch rs 2
      have r3 := Ch rs 3
      have r4 := Ch rs 4
      have r5 := Ch rs 5
      clear rb rs
      go_wp2_with fail
      refine bodyPost_ret (v := .agg #[.int .i64 1, .string ⟨#[]⟩, .int .i64 0, .slice none 0 0, .slice none 0 0, .slice none 0 0]) (by simp [results, Tryz.results14, go_sem, r0, r1, r2, r3, r4, r5]) rfl ?_
      clear r0 r1 r2 r3 r4 r5 q0 q1 q2 q3 q4 q5 z0 z1 z2 z3 z4 z5
      rw [HE.out]
      exact ⟨[.int .i64 1, .string ⟨#[]⟩, .int .i64 0, .slice none 0 0, .slice none 0 0, .slice none 0 0], rfl, rep_kind _ _ 1, set_six_below HBE.out (Nat.le_refl _) _ _ _ _ _ _⟩
     ·obtain ⟨g, c3, hv3, zz⟩ := wide_one HO2.out.1
      obtain ⟨k2, s2, n2, ps2, fs2, vs2⟩ := x
      obtain ⟨cs, hrep, hcs⟩ := zz
      obtain ⟨Aq, cq, Ag, cg, Ah, ch, rfl, -⟩ := hrep.inv
      have HRW := Hd hrep
      simp only [cells6T] at hcs HRW
      have y0 := hcs 0 _ rfl
      have y1 := hcs 1 _ rfl
      have y2 := hcs 2 _ rfl
      have y3 := hcs 3 _ rfl
      have y4 := hcs 4 _ rfl
      have y5 := hcs 5 _ rfl
      injection hv3 with hv3 hv4 hv5
      subst hv3
      clear hcs hrep
      have rs := six_set rb (.int .i64 k2) (.string s2) (.int .i64 n2) (.slice Aq ps2.length cq) (.slice Ag fs2.length cg) (.slice Ah vs2.length ch)
      have r0 := Ch rs 0
      have r1 := Ch rs 1
      have r2 := Ch rs 2
      have r3 := Ch rs 3
      have r4 := Ch rs 4
      have r5 := Ch rs 5
      clear rb rs
      go_wp2_with fail
      refine bodyPost_ret (v := .agg #[.int .i64 k2, .string s2, .int .i64 n2, .slice Aq ps2.length cq, .slice Ag fs2.length cg, .slice Ah vs2.length ch]) (by simp [results, Tryz.results14, go_sem, r0, r1, r2, r3, r4, r5]) rfl ?_
      clear r0 r1 r2 r3 r4 r5 q0 q1 q2 q3 q4 q5 z0 z1 z2 z3 z4 z5
      rw [HE.out]
      exact ⟨[.int .i64 k2, .string s2, .int .i64 n2, .slice Aq ps2.length cq, .slice Ag fs2.length cg, .slice Ah vs2.length ch], rfl, rep_box HRW.out HLO.out HO2.out.2 _ _ _ _ _ _, set_six_below HBE.out (Nat.le_refl _) _ _ _ _ _ _⟩
     ·have hd0 : ((x :: y :: d).length : Int) ≠ 0 := by simp; omega
      have hd1 : ((x :: y :: d).length : Int) ≠ 1 := by simp; omega
      have te0 : (((x :: y :: d).length : Int) == 0) = false := by simpa using hd0
      have te1 : (((x :: y :: d).length : Int) == 1) = false := by simpa using hd1
      have hun : shutU (x :: y :: d) = .mk 15 emptyB 0 (x :: y :: d) [] [] := rfl
      clear hd0 hd1
      generalize x :: y :: d = dd at *
      have HUN := Hd hun
      clear hun
      have rs := six_set rb (.int .i64 15) (.string ⟨#[]⟩) (.int .i64 0) (.slice A2 dd.length c2) (.slice none 0 0) (.slice none 0 0)
      have r0 := Ch rs 0
      have r1 := Ch rs 1
      have r2 := Ch rs 2
      have r3 := Ch rs 3
      have r4 := Ch rs 4
      have r5 := Ch rs 5
      clear rb rs
      go_wp2_with fail
      refine bodyPost_ret (v := .agg #[.int .i64 15, .string ⟨#[]⟩, .int .i64 0, .slice A2 dd.length c2, .slice none 0 0, .slice none 0 0]) (by simp [results, Tryz.results14, go_sem, r0, r1, r2, r3, r4, r5]) rfl ?_
      clear r0 r1 r2 r3 r4 r5 q0 q1 q2 q3 q4 q5 z0 z1 z2 z3 z4 z5
      rw [HE.out, HUN.out]
      exact ⟨[.int .i64 15, .string ⟨#[]⟩, .int .i64 0, .slice A2 dd.length c2, .slice none 0 0, .slice none 0 0], rfl, HWI.out _ _ _ _ _ _, set_six_below HBE.out (Nat.le_refl _) _ _ _ _ _ _⟩
theorem parts1_no (t : Ty) : ∀ x ∈ parts1 t, x.k ≠ 15 := by
 refine Ty.ind (C := fun t => ∀ x ∈ parts1 t, x.k ≠ 15) (fun k t n ps fs vs hp _ _ x hx => ?_) t
 rw [parts1_mk] at hx
 by_cases h : k = 15
 ·rw [if_pos h] at hx
  unfold flatU at hx
  rw [List.mem_flatten] at hx
  obtain ⟨l, hl, hx⟩ := hx
  obtain ⟨p, hm, rfl⟩ := List.mem_map.1 hl
  exact hp p hm x hx
 ·rw [if_neg h, List.mem_singleton] at hx
  subst hx
  exact h
theorem flatU_no {l : List Ty} {x : Ty} (h : x ∈ flatU l) : x.k ≠ 15 := by
 unfold flatU at h
 rw [List.mem_flatten] at h
 obtain ⟨m, hm, hx⟩ := h
 obtain ⟨p, -, rfl⟩ := List.mem_map.1 hm
 exact parts1_no p x hx
theorem flatU_self : ∀ {l : List Ty}, (∀ x ∈ l, x.k ≠ 15) → flatU l = l
 | [], _ => rfl
 | a :: l, h => by
  obtain ⟨k, t, n, ps, fs, vs⟩ := a
  have hk : ¬ k = 15 := h _ List.mem_cons_self
  rw [flatU_cons, parts1_mk, if_neg hk, flatU_self fun x hx => h x (List.mem_cons_of_mem _ hx)]
  rfl
theorem asc_adj : ∀ {l : List Ty}, (∀ i (h : i + 1 < l.length), ordT (l[i]'(by omega)) l[i + 1] = -1) → Asc l
 | [], _ => List.Pairwise.nil
 | [a], _ => List.pairwise_singleton _ _
 | a :: b :: l, h => by
  have ih : Asc (b :: l) := asc_adj fun i hi => h (i + 1) (by simp at hi ⊢; omega)
  refine List.pairwise_cons.2 ⟨fun x hx => ?_, ih⟩
  have h0 : ordT a b = -1 := h 0 (by simp)
  rcases List.mem_cons.1 hx with rfl | hx
  ·exact h0
  ·exact ordT_trans h0 (List.rel_of_pairwise_cons ih hx)
theorem isUB_self {ps : List Ty} (h2 : 2 ≤ ps.length) : isUB ps = true ↔ unionT ps = .mk 15 emptyB 0 ps [] [] := by
 unfold isUB
 rw [Bool.and_eq_true, range_all, List.all_eq_true]
 constructor
 ·rintro ⟨h, hk⟩
  have hno : ∀ x ∈ ps, x.k ≠ 15 := fun x hx e => by
   obtain ⟨i, hi, rfl⟩ := List.getElem_of_mem hx
   have := h i hi
   unfold okU at this
   rw [List.getElem?_eq_getElem hi] at this
   simp [e] at this
  have hA : Asc ps := asc_adj fun i hi => by
   have := h (i + 1) hi
   unfold okU at this
   rw [List.getElem?_eq_getElem hi] at this
   simp only [List.getElem?_eq_getElem (show i < ps.length by omega), Bool.and_eq_true, decide_eq_true_eq] at this
   rcases ordT_bd (ps[i]'(by omega)) ps[i + 1] with e | e | e
   ·exact e
   ·have h3 := this.2; rw [e] at h3; omega
   ·have h3 := this.2; rw [e] at h3; omega
  have hf := flatU_self hno
  have hkp : keptU ps = ps := by
   unfold keptU
   rw [hf, List.filter_eq_self]
   exact hk
  unfold unionT
  rw [hkp, sortT_self hA]
  rcases ps with _ | ⟨x, _ | ⟨y, l⟩⟩
  ·simp at h2
  ·simp at h2
  ·rfl
 ·intro h
  unfold unionT at h
  have hL : sortT (keptU ps) = ps := by
   generalize hs : sortT (keptU ps) = L at h
   rcases L with _ | ⟨x, _ | ⟨y, l⟩⟩
   ·have := congrArg Ty.k h; exact absurd this (by show ¬ ((1 : Int) = 15); decide)
   ·have hx : x ∈ keptU ps := (mem_sortT x _).1 (by rw [hs]; exact List.mem_cons_self)
    unfold keptU at hx
    have h15 := flatU_no (List.mem_filter.1 hx).1
    have e : x = .mk 15 emptyB 0 ps [] [] := h
    rw [e] at h15
    exact absurd rfl h15
   ·have e : Ty.mk 15 emptyB 0 (x :: y :: l) [] [] = .mk 15 emptyB 0 ps [] [] := h
    injection e with _ _ _ e
  have hmem : ∀ x ∈ ps, x ∈ keptU ps := fun x hx => (mem_sortT x _).1 (by rw [hL]; exact hx)
  have hno : ∀ x ∈ ps, x.k ≠ 15 := fun x hx => flatU_no (List.mem_filter.1 (hmem x hx)).1
  have hf := flatU_self hno
  have hA : Asc ps := by rw [← hL]; exact asc_sortT _
  refine ⟨fun i hi => ?_, fun x hx => ?_⟩
  ·unfold okU
   rw [List.getElem?_eq_getElem hi]
   have h15 := hno _ (List.getElem_mem hi)
   rcases i with _ | i
   ·simpa using h15
   ·have := List.pairwise_iff_getElem.1 hA i (i + 1) (by omega) hi (by omega)
    simp only [List.getElem?_eq_getElem (show i < ps.length by omega), this]
    simpa using h15
  ·have h3 := (List.mem_filter.1 (hmem x hx)).2
   rw [hf] at h3
   exact h3
end Go.Proofs.YtgjblmlibhppiaaGreatDoor
