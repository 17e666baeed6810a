import Derived.Test.YtlooadichhpgeaaGreatDoorMe17
namespace Go.Proofs.YtlooadichhpgeaaGreatDoor
open Go.RowKit
theorem put_there {F : List Ty} {t : Ty} (hA : Asc F) {j : Nat} (hj : j < F.length) (h0 : ordT F[j] t = 0) : insT t F = F := by
 have e := ordT_zero.1 h0
 refine asc_unique (asc_insT t hA) hA fun x => ?_
 rw [mem_insT]
 constructor
 ·rintro (rfl | h)
  ·rw [← e]; exact List.getElem_mem hj
  ·exact h
 ·exact .inr
theorem lt_put {F : List Ty} {t : Ty} {k : Nat} (hA : Asc F) (hlt : ∀ j (h : j < F.length), j + 1 = k → ordT F[j] t = -1) {i : Nat} (hi : i < F.length) (hik : i < k) (hk : k ≤ F.length) : ordT F[i] t = -1 := by
 rcases Nat.lt_or_ge (i + 1) k with h | h
 ·have h1 := hlt (k - 1) (by omega) (by omega)
  have h2 := List.pairwise_iff_getElem.1 hA i (k - 1) hi (by omega) (by omega)
  exact ordT_trans h2 h1
 ·exact hlt i hi (by omega)
theorem put_new {F : List Ty} {t : Ty} {k : Nat} (hA : Asc F) (hk : k ≤ F.length) (hgt : ∀ j (h : j < F.length), k ≤ j → ordT F[j] t = 1) (hlt : ∀ j (h : j < F.length), j + 1 = k → ordT F[j] t = -1) : insT t F = F.take k ++ t :: F.drop k := by
 refine asc_unique (asc_insT t hA) ?_ fun x => ?_
 ·have hA2 := hA
  unfold Asc at hA2
  rw [← List.take_append_drop k F, List.pairwise_append] at hA2
  obtain ⟨h1, h2, h3⟩ := hA2
  refine List.pairwise_append.2 ⟨h1, List.pairwise_cons.2 ⟨fun b hb => ?_, h2⟩, fun a ha b hb => ?_⟩
  ·obtain ⟨j, hj, rfl⟩ := List.getElem_of_mem hb
   rw [List.getElem_drop]
   exact ordT_gt (hgt _ (by simp at hj; omega) (by omega))
  ·rcases List.mem_cons.1 hb with rfl | hb
   ·obtain ⟨j, hj, rfl⟩ := List.getElem_of_mem ha
    rw [List.getElem_take]
    exact lt_put hA hlt (by simp at hj; omega) (by simp at hj; omega) hk
   ·exact h3 a ha b hb
 ·rw [mem_insT, List.mem_append, List.mem_cons]
  constructor
  ·rintro (h | h)
   ·exact .inr (.inl h)
   ·rw [← List.take_append_drop k F] at h
    rcases List.mem_append.1 h with h | h
    ·exact .inl h
    ·exact .inr (.inr h)
  ·rintro (h | h | h)
   ·exact .inr (List.mem_of_mem_take h)
   ·exact .inl h
   ·exact .inr (List.mem_of_mem_drop h)
theorem InT.set {K : Nat → Prop} {w0 w : World} {g c : Nat} {a b : List Ty} {x t : Ty} {cs : List Value} (h : InT K w0 w g c (a ++ x :: b)) (ht : RepT K w0 t cs) : InT K w0 (w.setCells g (a.length * 6) cs) g c (a ++ t :: b) := by
 have e : (a ++ x :: b).drop a.length = x :: b := List.drop_left
 have h1 : InT K w0 w g c (a ++ (a ++ x :: b).drop a.length) := by rw [e]; exact h
 have h2 := h1.put (by simp) ht
 have e2 : (a ++ x :: b).drop (a ++ [t]).length = b := by
  rw [List.length_append, List.length_singleton, ← List.drop_drop, e]; rfl
 rw [e2, List.append_assoc] at h2
 exact h2
theorem InT.out {K : Nat → Prop} {w0 w : World} {g c : Nat} {ts : List Ty} (h : InT K w0 w g c ts) (hg : w0.heap.size ≤ g) : OutT K w0 w (.slice (some ⟨g, 0, none⟩) ts.length c) ts := by
 obtain ⟨cur, h1, h2⟩ := h.blk
 have hle := h.le
 refine ⟨cur.toList.take (ts.length * 6), ⟨by simp; omega, .inr ⟨g, c, cur, rfl, hg, h1, hle, h.mx, h2, rfl⟩⟩, fun i hi => ?_⟩
 obtain ⟨cs, h3, h4⟩ := h.reps i ts[i] (List.getElem?_eq_getElem hi)
 refine ⟨cs, h3, fun j u hj => ?_⟩
 have h5 := h4 j u hj
 have hj6 := (List.getElem?_eq_some_iff.1 hj).1
 rw [h3.six] at hj6
 rw [cell_of_row _ _ _ _ _ _ h1] at h5
 rw [List.getElem?_take, if_pos (by omega)]
 simpa using h5
theorem row_step (F : List Ty) {i : Nat} (h : i + 1 ≤ F.length) (x : Ty) : F.take (i + 1) ++ x :: F.drop (i + 1) = (F.take (i + 1)) ++ x :: F.drop (i + 1) ∧ (F.take i ++ (F[i]'(by omega)) :: (F[i]'(by omega)) :: F.drop (i + 1) = F.take i ++ (F[i]'(by omega)) :: F.drop i) := ⟨rfl, by rw [List.drop_eq_getElem_cons (by omega : i < F.length)]⟩
set_option maxRecDepth 100000 in
set_option maxHeartbeats 16000000 in
theorem comp_long {K : Nat → Prop} {w0 w : World} {g c : Nat} {s : List Ty} (h : InT K w0 w g c s) (hb : Below w0.heap.size w0 w) (hg : w0.heap.size ≤ g) (hs : 2 ≤ s.length) (hbd : s.length ≤ 1099511627776) :
  Calls Tryz.prog 65 #[.slice (some ⟨g, 0, none⟩) s.length c, .func (.func 66) #[] #[]] w fun e w' => e = .returned (.slice (some ⟨g, 0, none⟩) (dedupT s).length c) ∧ Below w0.heap.size w0 w' ∧ InT K w0 w' g c (dedupT s) := by
 have H0 := Lib.hid (And.intro h hb)
 have HG := Lib.hid hg
 have HB := Lib.hid hbd
 have HS := Lib.hid hs
 have t2 : decide ((s.length : Int) < 2) = false := by simp; omega
 have hcap := h.le
 clear h hb hg hbd
 go_enter Tryz.func65, Tryz.ntmps65
 go_wp2_with fail
 go_loopw [5] (fun v wr => ∃ (m : Nat), m + 1 ≤ s.length ∧ v = .int .i64 ((m + 1 : Nat) : Int) ∧ dedupT (s.take (m + 1)) = s.take (m + 1) ∧ InT K w0 wr g c s ∧ Below w0.heap.size w0 wr) (fun v _ => s.length - (intOf v).toNat)
 case atStart => exact ⟨0, by omega, rfl, by match s with | [] => rfl | _ :: _ => rfl, H0.out⟩
 case round =>
  obtain ⟨m, hm, rfl, hdd, hin, hbr⟩ := hrel
  have HR := Lib.hid (And.intro hdd (And.intro hin hbr))
  by_cases hlt : m + 1 < s.length
  ·have t1 : decide (((m + 1 : Nat) : Int) < (s.length : Int)) = true := by simp; omega
   obtain ⟨p0, p1, p2, p3, p4, p5, p6, p7, p8, p9, pa, pb, hp, hrp⟩ := hin.six hlt
   obtain ⟨q0, q1, q2, q3, q4, q5, q6, q7, q8, q9, qa, qb, hq, hrq⟩ := hin.six (i := m) (by omega)
   have KE : Hid (∀ wx, Below wr.heap.size wr wx → Calls Tryz.prog 66 #[.agg #[.int .i64 p0, .string p1, .int .i64 p2, .slice p3 p4 p5, .slice p6 p7 p8, .slice p9 pa pb], .agg #[.int .i64 q0, .string q1, .int .i64 q2, .slice q3 q4 q5, .slice q6 q7 q8, .slice q9 qa qb]] wx fun e w' => e = .returned (.bool (ordT s[m + 1] s[m] == 0)) ∧ Gw wx w') := Lib.hid fun wx hx => eqf_any (hrp.later (hbr.trans (hx.mono hbr.size))) (hrq.later (hbr.trans (hx.mono hbr.size)))
   have HPQ : Hid (∀ wx, Below wr.heap.size wr wx → (wx.cell? ⟨g, (m + 1) * 6, none⟩ = some (.int .i64 p0) ∧ wx.cell? ⟨g, (m + 1) * 6 + 1, none⟩ = some (.string p1) ∧ wx.cell? ⟨g, (m + 1) * 6 + 2, none⟩ = some (.int .i64 p2) ∧ wx.cell? ⟨g, (m + 1) * 6 + 3, none⟩ = some (.slice p3 p4 p5) ∧ wx.cell? ⟨g, (m + 1) * 6 + 4, none⟩ = some (.slice p6 p7 p8) ∧ wx.cell? ⟨g, (m + 1) * 6 + 5, none⟩ = some (.slice p9 pa pb)) ∧ wx.cell? ⟨g, m * 6, none⟩ = some (.int .i64 q0) ∧ wx.cell? ⟨g, m * 6 + 1, none⟩ = some (.string q1) ∧ wx.cell? ⟨g, m * 6 + 2, none⟩ = some (.int .i64 q2) ∧ wx.cell? ⟨g, m * 6 + 3, none⟩ = some (.slice q3 q4 q5) ∧ wx.cell? ⟨g, m * 6 + 4, none⟩ = some (.slice q6 q7 q8) ∧ wx.cell? ⟨g, m * 6 + 5, none⟩ = some (.slice q9 qa qb)) := Lib.hid fun wx hx => ⟨⟨cell_stays hx hp.1, cell_stays hx hp.2.1, cell_stays hx hp.2.2.1, cell_stays hx hp.2.2.2.1, cell_stays hx hp.2.2.2.2.1, cell_stays hx hp.2.2.2.2.2⟩, cell_stays hx hq.1, cell_stays hx hq.2.1, cell_stays hx hq.2.2.1, cell_stays hx hq.2.2.2.1, cell_stays hx hq.2.2.2.2.1, cell_stays hx hq.2.2.2.2.2⟩
   have wr1 : wrap64 (((m + 1 : Nat) : Int) - 1) = ((m : Nat) : Int) := by rw [wrap_in (by omega) (by have := HB.out; omega)]; omega
   have wr1' : IntKind.i64.wrap (((m + 1 : Nat) : Int) - 1) = ((m : Nat) : Int) := by
    have e : IntKind.i64.wrap (((m + 1 : Nat) : Int) - 1) = wrap64 (((m + 1 : Nat) : Int) - 1) := by unfold wrap64; exact IntKind.wrap_i64 _
    rw [e, wr1]
   have i0 : (0 : Int) ≤ (m : Int) + 1 := by omega
   have i1 : (m : Int) + 1 < (s.length : Int) := by omega
   have i2 : (0 : Int) ≤ (m : Int) := by omega
   have i3 : (m : Int) < (s.length : Int) := by omega
   have wr3 : wrap64 (m : Int) = (m : Int) := wrap_in (by omega) (by have := HB.out; omega)
   have wr3' : IntKind.i64.wrap (m : Int) = (m : Int) := by
    have e : IntKind.i64.wrap (m : Int) = wrap64 (m : Int) := by unfold wrap64; exact IntKind.wrap_i64 _
    rw [e, wr3]
   clear hp hq hrp hrq hdd hin hbr
   go_wp2_with fail
   refine wp_region_held_drew (S := (fun w' => (w'.cell? ⟨g, (m + 1) * 6, none⟩ = some (.int .i64 p0) ∧ w'.cell? ⟨g, (m + 1) * 6 + 1, none⟩ = some (.string p1) ∧ w'.cell? ⟨g, (m + 1) * 6 + 2, none⟩ = some (.int .i64 p2) ∧ w'.cell? ⟨g, (m + 1) * 6 + 3, none⟩ = some (.slice p3 p4 p5) ∧ w'.cell? ⟨g, (m + 1) * 6 + 4, none⟩ = some (.slice p6 p7 p8) ∧ w'.cell? ⟨g, (m + 1) * 6 + 5, none⟩ = some (.slice p9 pa pb)) ∧ w'.cell? ⟨g, m * 6, none⟩ = some (.int .i64 q0) ∧ w'.cell? ⟨g, m * 6 + 1, none⟩ = some (.string q1) ∧ w'.cell? ⟨g, m * 6 + 2, none⟩ = some (.int .i64 q2) ∧ w'.cell? ⟨g, m * 6 + 3, none⟩ = some (.slice q3 q4 q5) ∧ w'.cell? ⟨g, m * 6 + 4, none⟩ = some (.slice q6 q7 q8) ∧ w'.cell? ⟨g, m * 6 + 5, none⟩ = some (.slice q9 qa qb))) (by kernel_rfl) (HPQ.out _ (Below.refl _ _).drew) (fun hHeld => ?_)
   refine Plan.start [0, 1, 2, 3, 4, 5, 6, 7, 8, 9] ?_
   iterate 10 ((refine Plan.take (v := ?_) (so rfl) (by kernel_rfl) (by kernel_rfl) (by kernel_rfl) (fun _ _ _ h => h) (Or.inl ⟨by rfl, ?_⟩) hHeld ?_; rotate_left; focus (intro w' hSw; (try dsimp only at hSw); go_simp; try with_reducible rfl)); try simp only [Act.put, List.setIfInBounds_toArray, List.set_cons_zero, List.set_cons_succ])
   refine Plan.done ?_
   refine wpAnyH_ready (rs := [10]) (by kernel_rfl) (by simp) ?_
   refine AllReadyH.cons (sd (some 28) rfl) (fun K hK => ?_) AllReadyH.nil
   go_simp
   refine (KE.out _ (Below.refl _ _).drew).mono ?_
   rintro e w2 ⟨rfl, hb2⟩
   have HB2 := Lib.hid ((Below.refl wr.heap.size wr).drew.trans hb2.below)
   clear hb2
   go_wp2_with fail
   refine hK.out _ _ (HPQ.out _ HB2.out) (fun hHeld => ?_)
   clear hK K
   try simp only [Act.put, List.setIfInBounds_toArray, List.set_cons_zero, List.set_cons_succ]
   refine wpAnyH_done (by kernel_rfl) ?_ _
   clear hHeld
   cases hqq : (ordT s[m + 1] s[m] == 0) with
   | false =>
    have HNE : Hid (ordT s[m] s[m + 1] ≠ 0) := Lib.hid (by have : ordT s[m + 1] s[m] ≠ 0 := (by simpa using hqq); rw [ordT_flip]; omega)
    have hlt1 := Lib.hid hlt
    have wr5 : wrap64 ((m : Int) + 1 + 1) = (m : Int) + 1 + 1 := wrap_in (by omega) (by have := HB.out; omega)
    have HM := Lib.hid (measI hlt)
    clear hqq i0 i1 i2 i3 wr1 wr1' wr3 wr3' hcap t2
    go_wp2_with fail
    refine ⟨⟨m + 1, hlt1.out, by first | rfl | (rw [wr5]; rfl) | simp, ?d1, HR.out.2.1.later HB2.out, HR.out.2.2.trans (HB2.out.mono HR.out.2.2.size)⟩, ?d2⟩
    case d1 =>
     rw [dedup_take (by omega) hlt1.out, if_neg (by simpa using HNE.out), HR.out.1]
     exact (List.take_succ_eq_append_getElem hlt1.out).symm
    case d2 => rw [wr5]; exact HM.out
   | true =>
    have HEQ : ordT s[m] s[m + 1] = 0 := by
     have h0 : ordT s[m + 1] s[m] = 0 := by simpa using hqq
     rw [ordT_flip, h0]; rfl
    have HST := Lib.hid (CompR.start hlt HR.out.1 HEQ (HR.out.2.1.later HB2.out) (HR.out.2.2.trans (HB2.out.mono HR.out.2.2.size)))
    have HL1 : Hid ((s.take (m + 1)).length = m + 1) := Lib.hid (by simp; omega)
    have HLT := Lib.hid hlt
    clear HEQ hqq i0 i1 i2 i3 wr1 wr1' wr3 wr3' t2 t1 KE HPQ HB2
    go_wp2_with fail
    generalize hn2 : s.length - (m + 1) = n2
    have HN2 : Hid (n2 + (m + 1) = s.length) := Lib.hid (by omega)
    generalize hoff : (m + 1) * 6 = off
    have HOFF := Lib.hid hoff
    clear hlt hm hs hn2 hoff
    go_loopw [5, 7] (fun v5 v7 wx => ∃ (D : List Ty) (i : Nat), v5 = .int .i64 (D.length : Int) ∧ v7 = .int .i64 ((i + 1 : Nat) : Int) ∧ CompR K w0 wx g c s m D i) (fun _ v7 _ => s.length - (intOf v7).toNat)
    case atStart => exact ⟨s.take (m + 1), 0, by rw [HL1.out]; rfl, rfl, HST.out⟩
    case round =>
     obtain ⟨D, i, rfl, rfl, hR⟩ := hrel
     have HRR := Lib.hid hR
     have hdl := hR.dl
     have hle := hR.le
     by_cases hl2 : m + 2 + i < s.length
     ·obtain ⟨p0, p1, p2, p3, p4, p5, p6, p7, p8, p9, pa, pb, hp, hrp⟩ := hR.row.sixAt (hR.at (j := m + 2 + i) (by omega) hl2)
      obtain ⟨q0, q1, q2, q3, q4, q5, q6, q7, q8, q9, qa, qb, hq, hrq⟩ := hR.row.sixAt (hR.at (j := m + 1 + i) (by omega) (by omega))
      obtain ⟨r0, r1, r2, r3, r4, r5, r6, r7, r8, r9, ra, rb, hr, -⟩ := hR.row.sixAt (i := D.length) (t := s[D.length]'(by omega)) (by rw [List.getElem?_append_right (Nat.le_refl _), List.getElem?_drop, Nat.sub_self, Nat.add_zero]; exact List.getElem?_eq_getElem (by omega))
      rw [show (m + 2 + i) * 6 = off + (i + 1) * 6 from by have := HOFF.out; omega] at hp
      rw [show (m + 1 + i) * 6 = off + i * 6 from by have := HOFF.out; omega] at hq
      have KE : Hid (∀ wx, Below wr.heap.size wr wx → Calls Tryz.prog 66 #[.agg #[.int .i64 p0, .string p1, .int .i64 p2, .slice p3 p4 p5, .slice p6 p7 p8, .slice p9 pa pb], .agg #[.int .i64 q0, .string q1, .int .i64 q2, .slice q3 q4 q5, .slice q6 q7 q8, .slice q9 qa qb]] wx fun e w' => e = .returned (.bool (ordT s[m + 2 + i] s[m + 1 + i] == 0)) ∧ Gw wx w') := Lib.hid fun wx hx => eqf_any (hrp.later (hR.below.trans (hx.mono hR.below.size))) (hrq.later (hR.below.trans (hx.mono hR.below.size)))
      have HPQ : Hid (∀ wx, Below wr.heap.size wr wx → (wx.cell? ⟨g, off + (i + 1) * 6, none⟩ = some (.int .i64 p0) ∧ wx.cell? ⟨g, off + (i + 1) * 6 + 1, none⟩ = some (.string p1) ∧ wx.cell? ⟨g, off + (i + 1) * 6 + 2, none⟩ = some (.int .i64 p2) ∧ wx.cell? ⟨g, off + (i + 1) * 6 + 3, none⟩ = some (.slice p3 p4 p5) ∧ wx.cell? ⟨g, off + (i + 1) * 6 + 4, none⟩ = some (.slice p6 p7 p8) ∧ wx.cell? ⟨g, off + (i + 1) * 6 + 5, none⟩ = some (.slice p9 pa pb)) ∧ wx.cell? ⟨g, off + i * 6, none⟩ = some (.int .i64 q0) ∧ wx.cell? ⟨g, off + i * 6 + 1, none⟩ = some (.string q1) ∧ wx.cell? ⟨g, off + i * 6 + 2, none⟩ = some (.int .i64 q2) ∧ wx.cell? ⟨g, off + i * 6 + 3, none⟩ = some (.slice q3 q4 q5) ∧ wx.cell? ⟨g, off + i * 6 + 4, none⟩ = some (.slice q6 q7 q8) ∧ wx.cell? ⟨g, off + i * 6 + 5, none⟩ = some (.slice q9 qa qb)) := Lib.hid fun wx hx => ⟨⟨cell_stays hx hp.1, cell_stays hx hp.2.1, cell_stays hx hp.2.2.1, cell_stays hx hp.2.2.2.1, cell_stays hx hp.2.2.2.2.1, cell_stays hx hp.2.2.2.2.2⟩, cell_stays hx hq.1, cell_stays hx hq.2.1, cell_stays hx hq.2.2.1, cell_stays hx hq.2.2.2.1, cell_stays hx hq.2.2.2.2.1, cell_stays hx hq.2.2.2.2.2⟩
      have HRC : Hid (∀ wx, Below wr.heap.size wr wx → wx.cell? ⟨g, D.length * 6, none⟩ = some (.int .i64 r0) ∧ wx.cell? ⟨g, D.length * 6 + 1, none⟩ = some (.string r1) ∧ wx.cell? ⟨g, D.length * 6 + 2, none⟩ = some (.int .i64 r2) ∧ wx.cell? ⟨g, D.length * 6 + 3, none⟩ = some (.slice r3 r4 r5) ∧ wx.cell? ⟨g, D.length * 6 + 4, none⟩ = some (.slice r6 r7 r8) ∧ wx.cell? ⟨g, D.length * 6 + 5, none⟩ = some (.slice r9 ra rb)) := Lib.hid fun wx hx => ⟨cell_stays hx hr.1, cell_stays hx hr.2.1, cell_stays hx hr.2.2.1, cell_stays hx hr.2.2.2.1, cell_stays hx hr.2.2.2.2.1, cell_stays hx hr.2.2.2.2.2⟩
      have HFR : Hid (∀ wx, Below wr.heap.size wr wx → ∀ o, wx.frozen? ⟨g, o, none⟩ = false) := Lib.hid fun wx hx o => by
       obtain ⟨cur, h1, _⟩ := (hR.row.later hx).blk
       exact Lib.frozen_of_heap h1 o
      have HPUT : Hid (ordT s[m + 1 + i] s[m + 2 + i] ≠ 0 → ∀ wy, Below wr.heap.size wr wy → CompR K w0 (wy.setCells g (D.length * 6) [.int .i64 p0, .string p1, .int .i64 p2, .slice p3 p4 p5, .slice p6 p7 p8, .slice p9 pa pb]) g c s m (D ++ [s[m + 2 + i]]) (i + 1)) := Lib.hid fun hne wy hy => HRR.out.put hl2 hne HG.out hy hrp
      have HSAME : Hid (ordT s[m + 1 + i] s[m + 2 + i] = 0 → ∀ wy, Below wr.heap.size wr wy → CompR K w0 wy g c s m D (i + 1)) := Lib.hid fun he wy hy => HRR.out.same hl2 he hy
      have HFL := Lib.hid (ordT_flip s[m + 2 + i] s[m + 1 + i])
      have HLA : Hid ((D ++ [s[m + 2 + i]]).length = D.length + 1) := Lib.hid (by simp)
      have HME : Hid (s.length - (intOf (Value.int .i64 ((i + 1 + 1 : Nat) : Int))).toNat < s.length - (intOf (Value.int .i64 ((i + 1 : Nat) : Int))).toNat) := Lib.hid (measI (by omega))
      generalize ordT s[m + 2 + i] s[m + 1 + i] = oo at KE HFL
      generalize ordT s[m + 1 + i] s[m + 2 + i] = o2 at HPUT HSAME HFL
      generalize hDD : D ++ [s[m + 2 + i]] = DD at HPUT HLA
      have hnn := HN2.out
      have t1 : decide (((i + 1 : Nat) : Int) < (n2 : Int)) = true := by simp; omega
      have wr1 : wrap64 (((i + 1 : Nat) : Int) - 1) = ((i : Nat) : Int) := by rw [wrap_in (by omega) (by have := HB.out; omega)]; omega
      have wr1' : IntKind.i64.wrap (((i + 1 : Nat) : Int) - 1) = ((i : Nat) : Int) := by
       have e : IntKind.i64.wrap (((i + 1 : Nat) : Int) - 1) = wrap64 (((i + 1 : Nat) : Int) - 1) := by unfold wrap64; exact IntKind.wrap_i64 _
       rw [e, wr1]
      have wr3 : wrap64 (i : Int) = (i : Int) := wrap_in (by omega) (by have := HB.out; omega)
      have wr3' : IntKind.i64.wrap (i : Int) = (i : Int) := by
       have e : IntKind.i64.wrap (i : Int) = wrap64 (i : Int) := by unfold wrap64; exact IntKind.wrap_i64 _
       rw [e, wr3]
      have i0 : (0 : Int) ≤ (i : Int) + 1 := by omega
      have i1 : (i : Int) + 1 < (n2 : Int) := by omega
      have i2 : (0 : Int) ≤ (i : Int) := by omega
      have i3 : (i : Int) < (n2 : Int) := by omega
      have j1 : (D.length : Int) < (s.length : Int) := by omega
      have wr5 : wrap64 ((i : Int) + 1 + 1) = (i : Int) + 1 + 1 := wrap_in (by omega) (by have := HB.out; omega)
      have wr6 : wrap64 ((D.length : Int) + 1) = (D.length : Int) + 1 := wrap_in (by omega) (by have := HB.out; omega)
      have HI1 := Lib.hid i1
      clear hp hq hr hrp hrq hR hdl hle hl2 hnn hDD
      go_wp2_with fail
      refine wp_region_held_drew (S := (fun w' => (w'.cell? ⟨g, off + (i + 1) * 6, none⟩ = some (.int .i64 p0) ∧ w'.cell? ⟨g, off + (i + 1) * 6 + 1, none⟩ = some (.string p1) ∧ w'.cell? ⟨g, off + (i + 1) * 6 + 2, none⟩ = some (.int .i64 p2) ∧ w'.cell? ⟨g, off + (i + 1) * 6 + 3, none⟩ = some (.slice p3 p4 p5) ∧ w'.cell? ⟨g, off + (i + 1) * 6 + 4, none⟩ = some (.slice p6 p7 p8) ∧ w'.cell? ⟨g, off + (i + 1) * 6 + 5, none⟩ = some (.slice p9 pa pb)) ∧ w'.cell? ⟨g, off + i * 6, none⟩ = some (.int .i64 q0) ∧ w'.cell? ⟨g, off + i * 6 + 1, none⟩ = some (.string q1) ∧ w'.cell? ⟨g, off + i * 6 + 2, none⟩ = some (.int .i64 q2) ∧ w'.cell? ⟨g, off + i * 6 + 3, none⟩ = some (.slice q3 q4 q5) ∧ w'.cell? ⟨g, off + i * 6 + 4, none⟩ = some (.slice q6 q7 q8) ∧ w'.cell? ⟨g, off + i * 6 + 5, none⟩ = some (.slice q9 qa qb))) (by kernel_rfl) (HPQ.out _ (Below.refl _ _).drew) (fun hHeld => ?_)
      refine Plan.start [0, 1, 2, 3, 4, 5, 6, 7, 8, 9] ?_
      iterate 10 ((refine Plan.take (v := ?_) (so rfl) (by kernel_rfl) (by kernel_rfl) (by kernel_rfl) (fun _ _ _ h => h) (Or.inl ⟨by rfl, ?_⟩) hHeld ?_; rotate_left; focus (intro w' hSw; (try dsimp only at hSw); go_simp; try with_reducible rfl)); try simp only [Act.put, List.setIfInBounds_toArray, List.set_cons_zero, List.set_cons_succ])
      refine Plan.done ?_
      refine wpAnyH_ready (rs := [10]) (by kernel_rfl) (by simp) ?_
      refine AllReadyH.cons (sd (some 48) rfl) (fun K hK => ?_) AllReadyH.nil
      go_simp
      refine (KE.out _ (Below.refl _ _).drew).mono ?_
      rintro e w2 ⟨rfl, hb2⟩
      have HB2 := Lib.hid ((Below.refl wr.heap.size wr).drew.trans hb2.below)
      clear hb2
      go_wp2_with fail
      refine hK.out _ _ (HPQ.out _ HB2.out) (fun hHeld => ?_)
      clear hK K
      try simp only [Act.put, List.setIfInBounds_toArray, List.set_cons_zero, List.set_cons_succ]
      refine wpAnyH_take (i := 11) (v := ?_) (sd (some 49) rfl) (by kernel_rfl) (by kernel_rfl) (by kernel_rfl) (fun _ _ _ h => h) (Or.inl ⟨by rfl, ?_⟩) hHeld ?_
      rotate_left
      ·intro w' hSw
       (try dsimp only at hSw)
       go_simp
       try with_reducible rfl
      try simp only [Act.put, List.setIfInBounds_toArray, List.set_cons_zero, List.set_cons_succ]
      refine wpAnyH_done (by kernel_rfl) ?_ _
      clear hHeld
      have HO2 : Hid (oo == 0 ↔ o2 = 0) := Lib.hid (by have := HFL.out; rw [beq_iff_eq]; omega)
      clear i0 i1 i2 i3 wr1 wr1' wr3 wr3' t1
      cases hqq : (oo == 0) with
      | true =>
       have HSM := Lib.hid (HSAME.out (HO2.out.1 hqq) _ HB2.out)
       clear hqq KE HPQ HRC HFR HPUT HSAME
       go_wp2_with fail
       refine ⟨⟨D, i + 1, by first | rfl | trivial, by first | rfl | (rw [wr5]; rfl), HSM.out⟩, ?_⟩
       first | exact HME.out | (rw [wr5]; exact HME.out)
      | false =>
       have HSM := Lib.hid (HPUT.out (fun h => by have := HO2.out.2 h; rw [hqq] at this; cases this) _ HB2.out)
       obtain ⟨e0, e1, e2, e3, e4, e5⟩ := HRC.out _ HB2.out
       obtain ⟨⟨u0, u1, u2, u3, u4, u5⟩, -⟩ := HPQ.out _ HB2.out
       have hfr := HFR.out _ HB2.out
       have i0 : (0 : Int) ≤ (i : Int) + 1 := by omega
       have i1 : (i : Int) + 1 < (n2 : Int) := by have := HI1.out; omega
       clear hqq KE HPQ HRC HFR HPUT HSAME
       go_wp2_with fail
       refine ⟨⟨DD, i + 1, by rw [HLA.out]; first | rfl | (rw [wr6]; rfl), by first | rfl | (rw [wr5]; rfl), HSM.out⟩, ?_⟩
       first | exact HME.out | (rw [wr5]; exact HME.out)
     ·have hnn := HN2.out
      have t1 : decide (((i + 1 : Nat) : Int) < (n2 : Int)) = false := by simp; omega
      have t2 : ¬ i + 1 < n2 := by omega
      have hdc := hR.row.le
      have hdc2 : D.length ≤ c := by simp at hdc; omega
      have hdl2 : D.length < s.length := by omega
      have hth := fun (j : Nat) (hj : j < c * 6) => hR.row.there hj
      have hcl : ∀ ty, (Builtin.clear_ #[22] ty #[.slice (some ⟨g, D.length * 6, none⟩) (s.length - D.length) (c - D.length)]).run Tryz.prog wr = .ok (.tuple #[]) (wr.setCells g (D.length * 6) (Builtin.zeroCells #[.int .i64 0, .string ⟨#[]⟩, .int .i64 0, .slice none 0 0, .slice none 0 0, .slice none 0 0] (s.length - D.length)).toList) := fun ty => run_clear_types wr ty g (D.length * 6) (s.length - D.length) (c - D.length) (by omega) (fun j hj => hth _ (by omega))
      have HFI := Lib.hid (hR.fin hl2 HG.out (Builtin.zeroCells #[.int .i64 0, .string ⟨#[]⟩, .int .i64 0, .slice none 0 0, .slice none 0 0, .slice none 0 0] (s.length - D.length)).toList)
      generalize (Builtin.zeroCells #[.int .i64 0, .string ⟨#[]⟩, .int .i64 0, .slice none 0 0, .slice none 0 0, .slice none 0 0] (s.length - D.length)).toList = LL at hcl HFI
      clear hR hdl hle hl2 hnn hth hdc
      go_wp2_with fail
      go_ret
      rw [← HFI.out.1]
      exact ⟨rfl, HFI.out.2.2, HFI.out.2.1⟩
  ·have HD : Hid (dedupT s = s) := Lib.hid (by have h := HR.out.1; rw [List.take_of_length_le (by omega)] at h; exact h)
   have t1 : decide (((m + 1 : Nat) : Int) < (s.length : Int)) = false := by simp; omega
   clear hdd hin hbr hm
   go_wp2_with fail
   go_ret
   rw [HD.out]
   exact ⟨rfl, HR.out.2.2, HR.out.2.1⟩
theorem eqT (x s : ByteArray) : (x.toList == s.toList) = decide (x = s) := by
 rw [Bool.eq_iff_iff, beq_iff_eq, decide_eq_true_iff, ByteArray.toList_eq, ByteArray.toList_eq]
 exact ⟨fun h => bytes_ext h, fun h => by rw [h]⟩
structure ListS (w : World) (l : List ByteArray) (A : Option Addr) : Prop where
 ex : ∃ b o, (0 < l.length → A = some ⟨b, o, none⟩) ∧ l.length ≤ 1000000000000000 ∧ ∀ i (h : i < l.length), w.cell? ⟨b, o + i, none⟩ = some (.string l[i])
def inB (l : List ByteArray) (s : ByteArray) : Bool := l.any fun x => decide (x = s)
theorem inB_drop {l : List ByteArray} {i : Nat} (h : i < l.length) (s : ByteArray) : inB (l.drop i) s = (decide (l[i] = s) || inB (l.drop (i + 1)) s) := by rw [List.drop_eq_getElem_cons h]; rfl
set_option maxRecDepth 100000 in
set_option maxHeartbeats 8000000 in
theorem in_ref {w : World} {l : List ByteArray} {A : Option Addr} {c : Nat} (hL : ListS w l A) (s : ByteArray) :
  Calls Tryz.prog 47 #[.slice A l.length c, .string s] w fun e w' => e = .returned (.bool (inB l s)) ∧ w' = w := by
 obtain ⟨b, o, hA, hll, hat⟩ := hL
 have HAT := Lib.hid hat
 have HAA := Lib.hid hA
 clear hat hA
 go_enter Tryz.func47, Tryz.ntmps47
 go_wp2_with fail
 go_loopw [5] (fun v wr => ∃ (i : Nat), i ≤ l.length ∧ v = .int .i64 i ∧ inB l s = inB (l.drop i) s ∧ wr = w) (fun v _ => l.length - (intOf v).toNat)
 case atStart => exact ⟨0, by omega, rfl, by rw [List.drop_zero], rfl⟩
 case round =>
  obtain ⟨i, hi, rfl, he, rfl⟩ := hrel
  have HE := Lib.hid he
  clear he
  by_cases hin : i < l.length
  ·have t1 : decide ((i : Int) < (l.length : Int)) = true := by simp; omega
   have wr2 : wrap64 ((i : Int) + 1) = ((i + 1 : Nat) : Int) := wrap_one (by omega)
   have hA2 := HAA.out (by omega)
   subst hA2
   have hc := HAT.out i hin
   have hd := inB_drop hin s
   generalize l[i] = x at hc hd
   have HS := Lib.hid hd
   have HM := Lib.hid (measI hin)
   have HIn : Hid (i + 1 ≤ l.length) := Lib.hid hin
   by_cases hk : x = s
   ·have HK : Hid (decide (x = s) = true) := Lib.hid (decide_eq_true hk)
    have e13 : (x.toList == s.toList) = true := by rw [eqT]; exact decide_eq_true hk
    clear hi hd hk
    go_wp2_with fail
    go_ret
    exact ⟨by rw [HE.out, HS.out, HK.out]; rfl, rfl⟩
   ·have HK : Hid (decide (x = s) = false) := Lib.hid (decide_eq_false hk)
    have e13 : (x.toList == s.toList) = false := by rw [eqT]; exact decide_eq_false hk
    clear hi hd hk
    go_wp2_with fail
    refine ⟨⟨i + 1, HIn.out, by first | rfl | rw [wr2], by rw [HE.out, HS.out, HK.out]; rfl, by first | rfl | trivial⟩, ?_⟩
    first | exact HM.out | (rw [wr2]; exact HM.out)
  ·have t1 : decide ((i : Int) < (l.length : Int)) = false := by simp; omega
   have HE1 : Hid (inB l s = false) := Lib.hid (by rw [HE.out, List.drop_eq_nil_of_le (by omega)]; rfl)
   clear hi
   go_wp2_with fail
   go_ret
   exact ⟨by rw [HE1.out]; rfl, rfl⟩
structure StrI (w : World) (g c : Nat) (l : List ByteArray) : Prop where
 le : l.length ≤ c
 mx : c ≤ maxLen
 blk : ∃ cur, w.heap[g]? = some (.cells cur 9 (0, 0)) ∧ cur.size = c
 reps : ∀ (i : Nat) (s : ByteArray), l[i]? = some s → w.cell? ⟨g, i, none⟩ = some (.string s)
theorem StrI.lt {w : World} {g c : Nat} {l : List ByteArray} (h : StrI w g c l) : g < w.heap.size := by
 obtain ⟨cur, h1, _⟩ := h.blk
 exact (Array.getElem?_eq_some_iff.1 h1).1
theorem StrI.keep {w w' : World} {g c : Nat} {l : List ByteArray} (h : StrI w g c l) (hk : w'.heap[g]? = w.heap[g]?) : StrI w' g c l :=
 ⟨h.le, h.mx, by rw [hk]; exact h.blk, fun i t hi => (World.cell?_of_block (a := ⟨g, i, none⟩) hk).trans (h.reps i t hi)⟩
theorem StrI.later {w w' : World} {g c : Nat} {l : List ByteArray} (h : StrI w g c l) (hb : Below w.heap.size w w') : StrI w' g c l := h.keep (hb.block g h.lt)
theorem StrI.set {w : World} {g c : Nat} {a b : List ByteArray} {x s : ByteArray} (h : StrI w g c (a ++ x :: b)) : StrI (w.setCell ⟨g, a.length, none⟩ (.string s)) g c (a ++ s :: b) := by
 obtain ⟨cur, h1, h2⟩ := h.blk
 refine ⟨by have := h.le; simpa using this, h.mx, ⟨_, Go.heap_setCell_same w g _ _ _ _ h1, by rw [Array.size_setIfInBounds]; exact h2⟩, fun i t hi => ?_⟩
 by_cases he : i = a.length
 ·subst he
  rw [List.getElem?_append_right (Nat.le_refl _), Nat.sub_self] at hi
  have ht : s = t := by injection hi
  rw [← ht]
  exact World.cell?_setCell_same _ _ _ (h.reps a.length x (by rw [List.getElem?_append_right (Nat.le_refl _), Nat.sub_self]; rfl))
 ·have hi2 : (a ++ x :: b)[i]? = some t := by
   rcases Nat.lt_or_ge i a.length with h3 | h3
   ·rw [List.getElem?_append_left h3] at hi ⊢; exact hi
   ·obtain ⟨m, hm⟩ : ∃ m, i - a.length = m + 1 := ⟨i - a.length - 1, by omega⟩
    rw [List.getElem?_append_right h3, hm] at hi ⊢
    exact hi
  rw [World.cell?_setCell_other _ _ _ _ (fun e => he (by injection e with _ e2; exact e2.symm))]
  exact h.reps i t hi2
def OutS (B : Nat) (w : World) (v : Value) (l : List ByteArray) : Prop := w.ownsRow B 9 1 v l.length (l.map .string)
theorem OutS.of {B : Nat} {w : World} {v : Value} {l : List ByteArray} (h : OutS B w v l) : (v = .slice none 0 0 ∧ l = []) ∨ ∃ g c, v = .slice (some ⟨g, 0, none⟩) l.length c ∧ B ≤ g ∧ StrI w g c l := by
 obtain ⟨h1, h2⟩ := h
 rcases h2 with ⟨hv, hn⟩ | ⟨g, cap, cur, hv, hg, hh, hc, hm, hs, ht⟩
 ·exact .inl ⟨hv, List.eq_nil_of_length_eq_zero hn⟩
 ·refine .inr ⟨g, cap, hv, hg, hc, hm, ⟨cur, hh, by omega⟩, fun i s hi => ?_⟩
  rw [cell_of_row _ _ _ _ _ _ hh]
  have h6 : (l.map Value.string)[i]? = some (.string s) := by rw [List.getElem?_map, hi]; rfl
  rw [← ht, List.getElem?_take] at h6
  split at h6
  ·simpa using h6
  ·cases h6
theorem StrI.out {B : Nat} {w : World} {g c : Nat} {l : List ByteArray} (h : StrI w g c l) (hg : B ≤ g) : OutS B w (.slice (some ⟨g, 0, none⟩) l.length c) l := by
 obtain ⟨cur, h1, h2⟩ := h.blk
 have hle := h.le
 refine ⟨by simp, .inr ⟨g, c, cur, rfl, hg, h1, hle, h.mx, by omega, ?_⟩⟩
 apply List.ext_getElem?
 intro i
 rw [List.getElem?_take, List.getElem?_map, Nat.mul_one]
 split
 ·rename_i hi
  have h5 := h.reps i l[i] (List.getElem?_eq_getElem hi)
  rw [cell_of_row _ _ _ _ _ _ h1] at h5
  rw [List.getElem?_eq_getElem hi]
  simpa using h5
 ·rename_i hi
  rw [List.getElem?_eq_none (by omega)]; rfl
theorem StrI.list {w : World} {g c : Nat} {l : List ByteArray} (h : StrI w g c l) (hl : l.length ≤ 1000000000000000) : ListS w l (some ⟨g, 0, none⟩) := ⟨g, 0, fun _ => rfl, hl, fun i hi => by rw [Nat.zero_add]; exact h.reps i _ (List.getElem?_eq_getElem hi)⟩
theorem OutS.later {B : Nat} {w w' : World} {v : Value} {l : List ByteArray} (h : OutS B w v l) (hb : Below w.heap.size w w') : OutS B w' v l := by
 rcases h.of with ⟨rfl, rfl⟩ | ⟨g, c, rfl, hg, hs⟩
 ·exact World.ownsRow_nil _ _ _ _
 ·exact (hs.later hb).out hg
end Go.Proofs.YtlooadichhpgeaaGreatDoor
