import Derived.Test.YtgjblmlibhppiaaGreatDoorMy13
namespace Go.Proofs.YtgjblmlibhppiaaGreatDoor
set_option maxRecDepth 100000
set_option maxHeartbeats 64000000
open Go.RowKit
def PutPost (K : Nat → Prop) (w0 : World) (F : List Ty) (t : Ty) : Ending → World → Prop := fun e w' => ∃ v', e = .returned v' ∧ OutT K w0 w' v' (insT t F) ∧ Below w0.heap.size w0 w'
theorem box_later {w w' : World} {b : Nat} {o : Obj} (h : w.heap[b]? = some o) (hb : Below w.heap.size w w') : w'.heap[b]? = some o := (hb.block b (Array.getElem?_eq_some_iff.1 h).1).trans h
theorem row6 {w : World} {b : Nat} (x0 : Int) (x1 : ByteArray) (x2 : Int) (x3 : Option Addr) (x4 x5 : Nat) (x6 : Option Addr) (x7 x8 : Nat) (x9 : Option Addr) (xa xb : Nat) (h : w.heap[b]? = some (.cells #[.int .i64 x0, .string x1, .int .i64 x2, .slice x3 x4 x5, .slice x6 x7 x8, .slice x9 xa xb] 26 (0, 0))) : w.cell? ⟨b, 0, none⟩ = some (.int .i64 x0) ∧ w.cell? ⟨b, 1, none⟩ = some (.string x1) ∧ w.cell? ⟨b, 2, none⟩ = some (.int .i64 x2) ∧ w.cell? ⟨b, 3, none⟩ = some (.slice x3 x4 x5) ∧ w.cell? ⟨b, 4, none⟩ = some (.slice x6 x7 x8) ∧ w.cell? ⟨b, 5, none⟩ = some (.slice x9 xa xb) := ⟨cell_of_row _ _ 0 _ _ _ h, cell_of_row _ _ 1 _ _ _ h, cell_of_row _ _ 2 _ _ _ h, cell_of_row _ _ 3 _ _ _ h, cell_of_row _ _ 4 _ _ _ h, cell_of_row _ _ 5 _ _ _ h⟩
theorem put_row {K' : Nat → Prop} {w0 w : World} {g c : Nat} {F : List Ty} {t : Ty} (x0 : Int) (x1 : ByteArray) (x2 : Int) (x3 : Option Addr) (x4 x5 : Nat) (x6 : Option Addr) (x7 x8 : Nat) (x9 : Option Addr) (xa xb : Nat) (hIN : InT K' w0 w g c F) (hg : w0.heap.size ≤ g) (hA : Asc F) (ht : RepT K' w0 t [.int .i64 x0, .string x1, .int .i64 x2, .slice x3 x4 x5, .slice x6 x7 x8, .slice x9 xa xb]) (hb : Below w0.heap.size w0 w) (hbd : F.length + 1 ≤ 1099511627776) :
  Calls Tryz.prog 32 #[.slice (some ⟨g, 0, none⟩) F.length c, .agg #[.int .i64 x0, .string x1, .int .i64 x2, .slice x3 x4 x5, .slice x6 x7 x8, .slice x9 xa xb]] w (PutPost K' w0 F t) := by
 have hba : Below w.heap.size w (w.alloc (.cells #[.int .i64 x0, .string x1, .int .i64 x2, .slice x3 x4 x5, .slice x6 x7 x8, .slice x9 xa xb] 26)) := (Below.refl _ _).alloc (Nat.le_refl _) _
 have HBX : Hid ((w.alloc (.cells #[.int .i64 x0, .string x1, .int .i64 x2, .slice x3 x4 x5, .slice x6 x7 x8, .slice x9 xa xb] 26)).heap[w.heap.size]? = some (.cells #[.int .i64 x0, .string x1, .int .i64 x2, .slice x3 x4 x5, .slice x6 x7 x8, .slice x9 xa xb] 26 (0, 0))) := Hd (heap_alloc_new w _)
 have HIN := Hd (hIN.later hba)
 have HOUTK : Hid (∀ wx, Gw (w.alloc (.cells #[.int .i64 x0, .string x1, .int .i64 x2, .slice x3 x4 x5, .slice x6 x7 x8, .slice x9 xa xb] 26)) wx → OutT K' w0 wx (.slice (some ⟨g, 0, none⟩) F.length c) F) := Hd fun wx hx => ((hIN.later hba).later hx.below).out hg
 have HNE : Hid ((Value.slice (some ⟨g, 0, none⟩) F.length c).ownBlock ≠ some w.heap.size) := Hd (by have := hIN.lt; simp only [Value.ownBlock, ne_eq, Option.some.injEq]; omega)
 have HA := Hd hA
 have HT := Hd ht
 have HB0 := Hd hb
 have HBA : Hid (Below w0.heap.size w0 (w.alloc (.cells #[.int .i64 x0, .string x1, .int .i64 x2, .slice x3 x4 x5, .slice x6 x7 x8, .slice x9 xa xb] 26))) := Hd (hb.alloc hb.size _)
 have HBD := Hd hbd
 have hlf : F.length ≤ 1099511627776 := by omega
 obtain ⟨i0, hi0, hz0, hz1, hz2⟩ := partsT infoTy
 unfold PutPost
 clear hIN hg hA ht hb hbd hba
 go_enter Tryz.func32, Tryz.ntmps32
 go_wp2_with fail
 go_loopw [5] (fun v wr => ∃ k : Nat, k ≤ F.length ∧ v = .int .i64 k ∧ (∀ j (h : j < F.length), k ≤ j → ordT F[j] t = 1) ∧ Gw (w.alloc (.cells #[.int .i64 x0, .string x1, .int .i64 x2, .slice x3 x4 x5, .slice x6 x7 x8, .slice x9 xa xb] 26)) wr) (fun v _ => (intOf v).toNat)
 case atStart => exact ⟨F.length, Nat.le_refl _, rfl, fun j h hj => absurd h (by omega), Gw.refl _⟩
 case round =>
  obtain ⟨k, hk, rfl, hgt, hb⟩ := hrel
  have HGT := Hd hgt
  have HB := Hd hb
  by_cases hk0 : k = 0
  ·subst hk0
   obtain ⟨y0, y1, y2, y3, y4, y5⟩ := row6 _ _ _ _ _ _ _ _ _ _ _ _ (box_later HBX.out hb.below)
   clear hgt hb hk
   go_wp2_with fail
   refine wp_region_held_drew (S := (fun _ => True)) (by kernel_rfl) trivial (fun hHeld => ?_)
   refine Plan.start [0, 1, 2] ?_
   iterate 3 (refine Plan.tk (so rfl) hHeld ?_; try simp only [Act.put, pz1, pz2, pz3])
   refine Plan.done ?_
   refine Plan.start [3, 4, 5, 6, 7, 8, 9, 10] ?_
   iterate 8 (refine Plan.take (v := undef) (so rfl) (by kernel_rfl) (by kernel_rfl) (by kernel_rfl) (fun _ _ _ h => h) (Or.inr ⟨by rfl, rfl⟩) hHeld ?_; try simp only [Act.put, pz1, pz2, pz3])
   refine Plan.done ?_
   refine Plan.start [11] ?_
   refine Plan.tk (so rfl) hHeld ?_
   try simp only [Act.put, pz1, pz2, pz3]
   refine Plan.done ?_
   refine wpAnyH_done (by kernel_rfl) ?_ _
   clear hHeld
   go_wp2_with fail
   refine wp_region_held_drew (S := (fun _ => True)) (by kernel_rfl) trivial (fun hHeld => ?_)
   refine Plan.start [0, 1, 2] ?_
   iterate 3 (refine Plan.tk (so rfl) hHeld ?_; try simp only [Act.put, pz1, pz2, pz3])
   refine Plan.done ?_
   refine Plan.start [3, 4, 5, 6, 7, 8, 9, 10] ?_
   iterate 8 (refine Plan.take (v := undef) (so rfl) (by kernel_rfl) (by kernel_rfl) (by kernel_rfl) (fun _ _ _ h => h) (Or.inr ⟨by rfl, rfl⟩) hHeld ?_; try simp only [Act.put, pz1, pz2, pz3])
   refine Plan.done ?_
   refine Plan.start [11] ?_
   refine Plan.tk (so rfl) hHeld ?_
   try simp only [Act.put, pz1, pz2, pz3]
   refine Plan.done ?_
   refine wpAnyH_done (by kernel_rfl) ?_ _
   clear hHeld
   have HGW : Hid (Gw (w.alloc (.cells #[.int .i64 x0, .string x1, .int .i64 x2, .slice x3 x4 x5, .slice x6 x7 x8, .slice x9 xa xb] 26)) (wr.drew.drew)) := Hd (HB.out.drew.drew)
   have HKL : Hid (0 ≤ F.length) := Hd (Nat.zero_le _)
   have HINS : Hid (insT t F = F.take 0 ++ t :: F.drop 0) := Hd (put_new HA.out (Nat.zero_le _) HGT.out (fun a h ha => absurd ha (by omega)))
   obtain ⟨vs, hvs, hrs⟩ := HOUTK.out _ HGW.out
   have HOw := Hd (And.intro hvs hrs)
   have HC2 := Hd (cellsT_new (wr.drew.drew) [.int .i64 x0, .string x1, .int .i64 x2, .slice x3 x4 x5, .slice x6 x7 x8, .slice x9 xa xb] 26)
   have HBw : Hid (Below w0.heap.size w0 (wr.drew.drew)) := Hd (HBA.out.trans (HGW.out.below.mono HBA.out.size))
   have hbox := box_later HBX.out HGW.out.below
   have HBOX := Hd hbox
   obtain ⟨z0, z1, z2, z3, z4, z5⟩ := row6 _ _ _ _ _ _ _ _ _ _ _ _ hbox
   have HOWA : Hid (((wr.alloc (.cells #[.int .i64 x0, .string x1, .int .i64 x2, .slice x3 x4 x5, .slice x6 x7 x8, .slice x9 xa xb] 26)).drew.drew).ownsRow w0.heap.size 26 6 (.slice (some ⟨g, 0, none⟩) F.length c) F.length vs) := Hd (HOw.out.1.alloc (.cells #[.int .i64 x0, .string x1, .int .i64 x2, .slice x3 x4 x5, .slice x6 x7 x8, .slice x9 xa xb] 26))
   clear hvs hrs hbox
   go_wp2_with (at_builtin; refine wpList_plain rfl fun K hK => ?_; go_loud (refine wp_append_own_at _ _ 22 rfl w0.heap.size 26 i0 (.agg #[.int .i64 0, .string ⟨#[]⟩, .int .i64 0, .slice none 0 0, .slice none 0 0, .slice none 0 0]) 6 104 Tryz.underlying22 hi0 hz0 hz1 hz2 rfl (by decide) _ _ _ rfl HOWA.out ⟨wr.heap.size, 0, none⟩ 1 1 [.int .i64 x0, .string x1, .int .i64 x2, .slice x3 x4 x5, .slice x6 x7 x8, .slice x9 xa xb] rfl rfl ?a0 ?a1 ?a2 ?a3 ?a4 ?_))
   case a0 => exact HC2.out
   case a1 =>
    intro u hu
    simp only [List.mem_cons, List.not_mem_nil, or_false] at hu
    rcases hu with rfl | rfl | rfl | rfl | rfl | rfl <;> rfl
   case a2 => have := HBD.out; unfold maxLen; omega
   case a3 => have := HBD.out; omega
   case a4 =>
    have h3 : ((wr.alloc (.cells #[.int .i64 x0, .string x1, .int .i64 x2, .slice x3 x4 x5, .slice x6 x7 x8, .slice x9 xa xb] 26)).drew.drew).heap.size = (wr).heap.size + 1 := World.size_alloc _ _
    have h4 : (wr).heap.size = (wr.drew.drew).heap.size := rfl
    have h5 := HBw.out.size
    show w0.heap.size ≤ ((wr.alloc (.cells #[.int .i64 x0, .string x1, .int .i64 x2, .slice x3 x4 x5, .slice x6 x7 x8, .slice x9 xa xb] 26)).drew.drew).heap.size
    omega
   intro v5 w5 hown5 hg5 _ hwhere
   refine hK _ _ ?_
   clear hK K z0 z1 z2 z3 z4 z5
   have hp5 := out_push2 HBw.out HOw.out.1 HOw.out.2 HT.out hown5 hg5
   have hbox5 : w5.heap[w.heap.size]? = some (.cells #[.int .i64 x0, .string x1, .int .i64 x2, .slice x3 x4 x5, .slice x6 x7 x8, .slice x9 xa xb] 26 (0, 0)) := by
    have hlt := (Array.getElem?_eq_some_iff.1 HBOX.out).1
    have h3 : ((wr.alloc (.cells #[.int .i64 x0, .string x1, .int .i64 x2, .slice x3 x4 x5, .slice x6 x7 x8, .slice x9 xa xb] 26)).drew.drew).heap.size = (wr).heap.size + 1 := World.size_alloc _ _
    have h4 : (wr).heap.size = (wr.drew.drew).heap.size := rfl
    have h6 : ((wr.alloc (.cells #[.int .i64 x0, .string x1, .int .i64 x2, .slice x3 x4 x5, .slice x6 x7 x8, .slice x9 xa xb] 26)).drew.drew).heap[w.heap.size]? = (wr).heap[w.heap.size]? := Below.heap_alloc (wr) _ _ (by omega)
    exact (hg5.block w.heap.size (by show w.heap.size < ((wr.alloc (.cells #[.int .i64 x0, .string x1, .int .i64 x2, .slice x3 x4 x5, .slice x6 x7 x8, .slice x9 xa xb] 26)).drew.drew).heap.size; omega) (fun e => HNE.out e.symm)).trans (h6.trans HBOX.out)
   rcases InT.of_out hp5.1 with ⟨-, hnil⟩ | ⟨g5, c5, hv5, hgg5, hin5⟩
   ·exact absurd hnil (by simp)
   have hgne : g5 ≠ w.heap.size := by
    rcases hwhere with h | h
    ·rw [hv5] at h
     exact fun e => HNE.out (by rw [← h, ← e]; rfl)
    ·rw [hv5] at h
     have hlt := (Array.getElem?_eq_some_iff.1 HBOX.out).1
     have h2 : g5 = (wr).heap.size + 1 := by first | exact Option.some.inj h | (have h3 := Option.some.inj h; simpa using h3)
     have h4 : (wr).heap.size = (wr.drew.drew).heap.size := rfl
     omega
   subst hv5
   have HIN5 := Hd hin5
   have HGE := Hd hgne
   have HGG := Hd hgg5
   have HB5 := Hd hp5.2
   have HBOX5 := Hd hbox5
   have HLN : Hid ((F ++ [t]).length = F.length + 1) := Hd (by simp)
   rw [HLN.out]
   have wr9 : wrap64 (((F.length + 1 : Nat) : Int) - 1) = ((F.length : Nat) : Int) := by have := HBD.out; rw [wrap_in (by omega) (by omega)]; omega
   clear hown5 hg5 hp5 hbox5 hwhere hin5 hgne hgg5
   go_wp2_with fail
   go_loopw [6] (fun v wr => ∃ (i : Nat) (x : Ty), 0 ≤ i ∧ i ≤ F.length ∧ v = .int .i64 i ∧ InT K' w0 wr g5 c5 (F.take i ++ x :: F.drop i) ∧ wr.heap[w.heap.size]? = some (.cells #[.int .i64 x0, .string x1, .int .i64 x2, .slice x3 x4 x5, .slice x6 x7 x8, .slice x9 xa xb] 26 (0, 0)) ∧ Below w0.heap.size w0 wr) (fun v _ => (intOf v).toNat)
   case atStart => exact ⟨F.length, t, HKL.out, Nat.le_refl _, by first | rfl | rw [wr9], by rw [List.take_length, List.drop_length]; exact HIN5.out, HBOX5.out, HB5.out⟩
   case round =>
    obtain ⟨i, x, hki, hin, rfl, hrow, hbox, hbr⟩ := hrel
    have HROW := Hd hrow
    have HBXR := Hd hbox
    have HBR := Hd hbr
    by_cases hgt : 0 < i
    ·obtain ⟨m, rfl⟩ : ∃ m, i = m + 1 := ⟨i - 1, by omega⟩
     have hm : m < F.length := by omega
     have hget : (F.take (m + 1) ++ x :: F.drop (m + 1))[m]? = some F[m] := by
      rw [List.getElem?_append_left (by simp; omega), List.getElem?_take, if_pos (by omega)]
      exact List.getElem?_eq_getElem hm
     obtain ⟨p0, p1, p2, p3, p4, p5, p6, p7, p8, p9, pa, pb, hp, hrp⟩ := hrow.sixAt hget
     have hlt1 : (F.take (m + 1)).length = m + 1 := by simp; omega
     obtain ⟨r0, r1, r2, r3, r4, r5, r6, r7, r8, r9, ra, rb, hr, -⟩ := hrow.sixAt (i := m + 1) (t := x) (by rw [List.getElem?_append_right (by omega), hlt1, Nat.sub_self]; rfl)
     have hset := hrow.set hrp
     rw [hlt1] at hset
     have HSET : Hid (InT K' w0 (wr.setCells g5 ((m + 1) * 6) [.int .i64 p0, .string p1, .int .i64 p2, .slice p3 p4 p5, .slice p6 p7 p8, .slice p9 pa pb]) g5 c5 (F.take m ++ F[m] :: F.drop m)) := Hd (by
      have e1 : F.take (m + 1) = F.take m ++ [F[m]] := List.take_succ_eq_append_getElem hm
      rw [e1, List.append_assoc] at hset
      rw [List.drop_eq_getElem_cons hm]
      exact hset)
     have HBS : Hid ((wr.setCells g5 ((m + 1) * 6) [.int .i64 p0, .string p1, .int .i64 p2, .slice p3 p4 p5, .slice p6 p7 p8, .slice p9 pa pb]).heap[w.heap.size]? = some (.cells #[.int .i64 x0, .string x1, .int .i64 x2, .slice x3 x4 x5, .slice x6 x7 x8, .slice x9 xa xb] 26 (0, 0))) := Hd (by rw [sets_other (fun e => HGE.out e.symm)]; exact hbox)
     have HBW : Hid (Below w0.heap.size w0 (wr.setCells g5 ((m + 1) * 6) [.int .i64 p0, .string p1, .int .i64 p2, .slice p3 p4 p5, .slice p6 p7 p8, .slice p9 pa pb])) := Hd (sets_below HGG.out _ _ _ hbr)
     obtain ⟨cur, hcur, -⟩ := hrow.blk
     have hfr : ∀ o, wr.frozen? ⟨g5, o, none⟩ = false := fun o => Lib.frozen_of_heap hcur o
     obtain ⟨p0', p1', p2', p3', p4', p5'⟩ := hp
     obtain ⟨r0', r1', r2', r3', r4', r5'⟩ := hr
     have t1 : decide ((0 : Int) < ((m + 1 : Nat) : Int)) = true := decide_eq_true (by omega)
     have t2 : 0 < m + 1 := hgt
     have t3 : 0 ≤ m := by omega
     have t4 : (0 : Int) ≤ (m : Int) := by omega
     have t5 : (0 : Int) < (m : Int) + 1 := by omega
     have t6 : decide ((0 : Int) < (m : Int) + 1) = true := decide_eq_true t5
     have t7 : decide (0 < m + 1) = true := decide_eq_true t2
     have i0 : (0 : Int) ≤ (m : Int) := by omega
     have i1 : (m : Int) < (F.length : Int) + 1 := by omega
     have i2 : (m : Int) + 1 < (F.length : Int) + 1 := by omega
     have wr1 : wrap64 (((m + 1 : Nat) : Int) - 1) = ((m : Nat) : Int) := by have := HBD.out; rw [wrap_in (by omega) (by omega)]; omega
     have wr3 : wrap64 (m : Int) = (m : Int) := wrap_in (by omega) (by have := HBD.out; omega)
     have HKM : Hid (0 ≤ m) := Hd (by omega)
     have HM1 : Hid (m ≤ F.length) := Hd (by omega)
     clear hki hin hrow hbox hbr hget hset hrp hcur hlt1 hgt
     go_wp2_with fail
     refine ⟨⟨m, F[m], HKM.out, HM1.out, by first | rfl | (rw [wr1]) | (rw [wr3]), HSET.out, HBS.out, HBW.out⟩, ?_⟩
     first | (simp only [intOf]; omega) | (rw [wr1]; simp only [intOf]; omega) | (rw [wr3]; simp only [intOf]; omega)
    ·have hik : i = 0 := by omega
     have hset := hrow.set HT.out
     have hlt1 : (F.take i).length = i := by simp; omega
     rw [hlt1] at hset
     obtain ⟨r0, r1, r2, r3, r4, r5, r6, r7, r8, r9, ra, rb, hr, -⟩ := hrow.sixAt (i := i) (t := x) (by rw [List.getElem?_append_right (by omega), hlt1, Nat.sub_self]; rfl)
     have HFIN : Hid (OutT K' w0 (wr.setCells g5 (i * 6) [.int .i64 x0, .string x1, .int .i64 x2, .slice x3 x4 x5, .slice x6 x7 x8, .slice x9 xa xb]) (.slice (some ⟨g5, 0, none⟩) (F.length + 1) c5) (insT t F) ∧ Below w0.heap.size w0 (wr.setCells g5 (i * 6) [.int .i64 x0, .string x1, .int .i64 x2, .slice x3 x4 x5, .slice x6 x7 x8, .slice x9 xa xb])) := Hd ⟨by
      have h1 := hset.out HGG.out
      have e : F.take i ++ t :: F.drop i = insT t F := by rw [hik]; exact HINS.out.symm
      have hl : (F.take i ++ t :: F.drop i).length = F.length + 1 := by simp; omega
      rw [hl, e] at h1
      exact h1, sets_below HGG.out _ _ _ hbr⟩
     obtain ⟨cur, hcur, -⟩ := hrow.blk
     have hfr : ∀ o, wr.frozen? ⟨g5, o, none⟩ = false := fun o => Lib.frozen_of_heap hcur o
     obtain ⟨z0, z1, z2, z3, z4, z5⟩ := row6 _ _ _ _ _ _ _ _ _ _ _ _ hbox
     obtain ⟨r0', r1', r2', r3', r4', r5'⟩ := hr
     rw [hik] at HFIN r0' r1' r2' r3' r4' r5'
     have t1 : decide ((0 : Int) < (i : Int)) = false := decide_eq_false (by omega)
     have t2 : ¬ 0 < i := hgt
     have i0 : (0 : Int) ≤ (0 : Int) := by omega
     have i2 : (0 : Int) < (F.length : Int) + 1 := by omega
     clear hki hin hrow hbox hbr hset hcur hlt1 hik hgt
     go_wp2_with fail
     go_ret
     exact ⟨_, rfl, HFIN.out.1, HFIN.out.2⟩
  ·obtain ⟨j, hkj⟩ : ∃ j, k = j + 1 := ⟨k - 1, by omega⟩
   have hjl : j < F.length := by omega
   obtain ⟨p0, p1, p2, p3, p4, p5, p6, p7, p8, p9, pa, pb, hp, hrp⟩ := (HIN.out.later hb.below).six hjl
   have hbox := box_later HBX.out hb.below
   have HBXW := Hd hbox
   have h6 := row6 _ _ _ _ _ _ _ _ _ _ _ _ hbox
   have KO : Hid (∀ wx, Below wr.heap.size wr wx → Calls Tryz.prog 21 #[.agg #[.int .i64 p0, .string p1, .int .i64 p2, .slice p3 p4 p5, .slice p6 p7 p8, .slice p9 pa pb], .agg #[.int .i64 x0, .string x1, .int .i64 x2, .slice x3 x4 x5, .slice x6 x7 x8, .slice x9 xa xb]] wx fun e w' => e = .returned (.int .i64 (ordT F[j] t)) ∧ Gw wx w') := Hd fun wx hx => order_ref F[j] K' K' t wx _ _ (hrp.later ((HBA.out.trans (hb.below.mono HBA.out.size)).trans (hx.mono (Nat.le_trans HBA.out.size hb.below.size)))) (HT.out.later ((HBA.out.trans (hb.below.mono HBA.out.size)).trans (hx.mono (Nat.le_trans HBA.out.size hb.below.size))))
   have HC : Hid (∀ wx, Below wr.heap.size wr wx → (wx.cell? ⟨g, j * 6, none⟩ = some (.int .i64 p0) ∧ wx.cell? ⟨g, j * 6 + 1, none⟩ = some (.string p1) ∧ wx.cell? ⟨g, j * 6 + 2, none⟩ = some (.int .i64 p2) ∧ wx.cell? ⟨g, j * 6 + 3, none⟩ = some (.slice p3 p4 p5) ∧ wx.cell? ⟨g, j * 6 + 4, none⟩ = some (.slice p6 p7 p8) ∧ wx.cell? ⟨g, j * 6 + 5, none⟩ = some (.slice p9 pa pb)) ∧ wx.cell? ⟨w.heap.size, 0, none⟩ = some (.int .i64 x0) ∧ wx.cell? ⟨w.heap.size, 1, none⟩ = some (.string x1) ∧ wx.cell? ⟨w.heap.size, 2, none⟩ = some (.int .i64 x2) ∧ wx.cell? ⟨w.heap.size, 3, none⟩ = some (.slice x3 x4 x5) ∧ wx.cell? ⟨w.heap.size, 4, none⟩ = some (.slice x6 x7 x8) ∧ wx.cell? ⟨w.heap.size, 5, none⟩ = some (.slice x9 xa xb)) := Hd fun wx hx => ⟨⟨cell_stays hx hp.1, cell_stays hx hp.2.1, cell_stays hx hp.2.2.1, cell_stays hx hp.2.2.2.1, cell_stays hx hp.2.2.2.2.1, cell_stays hx hp.2.2.2.2.2⟩, ⟨cell_stays hx h6.1, cell_stays hx h6.2.1, cell_stays hx h6.2.2.1, cell_stays hx h6.2.2.2.1, cell_stays hx h6.2.2.2.2.1, cell_stays hx h6.2.2.2.2.2⟩⟩
   have HBDo := Hd (ordT_bd F[j] t)
   have HLT : Hid (ordT F[j] t = -1 → ∀ a (h : a < F.length), a + 1 = k → ordT F[a] t = -1) := Hd fun e a h ha => by
    have : a = j := by omega
    subst this
    exact e
   have HGJ : Hid (ordT F[j] t = 1 → ∀ a (h : a < F.length), j ≤ a → ordT F[a] t = 1) := Hd fun e a h ha => by
    rcases Nat.lt_or_ge j a with h1 | h1
    ·exact HGT.out a h (by omega)
    ·have : a = j := by omega
     subst this
     exact e
   have HZE : Hid (ordT F[j] t = 0 → insT t F = F) := Hd fun e => put_there HA.out hjl e
   have HKJ := Hd hkj
   generalize ordT F[j] t = oo at KO HBDo HLT HGJ HZE
   have t1 : decide ((0 : Int) < (k : Int)) = true := by simp; omega
   have t2 : 0 < k := by omega
   have wr1 : wrap64 ((k : Int) - 1) = ((j : Nat) : Int) := by rw [wrap_in (by omega) (by omega)]; omega
   have wr1' : IntKind.i64.wrap ((k : Int) - 1) = ((j : Nat) : Int) := by
    have e : IntKind.i64.wrap ((k : Int) - 1) = wrap64 ((k : Int) - 1) := by unfold wrap64; exact IntKind.wrap_i64 _
    rw [e, wr1]
   have i0' : (0 : Int) ≤ (j : Int) := by omega
   have i1' : (j : Int) < (F.length : Int) := by omega
   have HKF := Hd hk
   clear hgt hb hp hrp hbox h6 hk0 hkj hjl hk
   go_wp2_with fail
   refine wp_region_held_drew (S := (fun w' => (w'.cell? ⟨g, j * 6, none⟩ = some (.int .i64 p0) ∧ w'.cell? ⟨g, j * 6 + 1, none⟩ = some (.string p1) ∧ w'.cell? ⟨g, j * 6 + 2, none⟩ = some (.int .i64 p2) ∧ w'.cell? ⟨g, j * 6 + 3, none⟩ = some (.slice p3 p4 p5) ∧ w'.cell? ⟨g, j * 6 + 4, none⟩ = some (.slice p6 p7 p8) ∧ w'.cell? ⟨g, j * 6 + 5, none⟩ = some (.slice p9 pa pb)) ∧ w'.cell? ⟨w.heap.size, 0, none⟩ = some (.int .i64 x0) ∧ w'.cell? ⟨w.heap.size, 1, none⟩ = some (.string x1) ∧ w'.cell? ⟨w.heap.size, 2, none⟩ = some (.int .i64 x2) ∧ w'.cell? ⟨w.heap.size, 3, none⟩ = some (.slice x3 x4 x5) ∧ w'.cell? ⟨w.heap.size, 4, none⟩ = some (.slice x6 x7 x8) ∧ w'.cell? ⟨w.heap.size, 5, none⟩ = some (.slice x9 xa xb))) (by kernel_rfl) (HC.out _ (Below.refl _ _).drew) (fun hHeld => ?_)
   refine Plan.start [0, 1, 2, 3, 4, 5, 6, 7, 8] ?_
   iterate 9 (refine Plan.tk (so rfl) hHeld ?_; try simp only [Act.put, pz1, pz2, pz3])
   refine Plan.done ?_
   refine wpAnyH_ready (rs := [9]) (by kernel_rfl) (by simp) ?_
   refine AllReadyH.cons (sd (some 18) rfl) (fun K hK => ?_) AllReadyH.nil
   go_simp
   refine (KO.out _ (Below.refl _ _).drew).mono ?_
   rintro e w2 ⟨rfl, hb2⟩
   have HB2 := Hd ((Below.refl wr.heap.size wr).drew.trans hb2.below)
   have HG2 := Hd ((HB.out.drew).trans hb2)
   clear hb2
   go_wp2_with fail
   refine hK.out _ _ (HC.out _ HB2.out) (fun hHeld => ?_)
   clear hK K
   try simp only [Act.put, pz1, pz2, pz3]
   refine Plan.start [10, 11] ?_
   iterate 2 (refine Plan.tk (so rfl) hHeld ?_; try simp only [Act.put, pz1, pz2, pz3])
   refine Plan.done ?_
   refine wpAnyH_done (by kernel_rfl) ?_ _
   clear hHeld
   try clear hHeld
   rcases HBDo.out with rfl | rfl | rfl
   ·have u1 : decide ((0 : Int) < -1) = false := by decide
    go_wp2_with fail
    refine wp_region_held_drew (S := (fun w' => (w'.cell? ⟨g, j * 6, none⟩ = some (.int .i64 p0) ∧ w'.cell? ⟨g, j * 6 + 1, none⟩ = some (.string p1) ∧ w'.cell? ⟨g, j * 6 + 2, none⟩ = some (.int .i64 p2) ∧ w'.cell? ⟨g, j * 6 + 3, none⟩ = some (.slice p3 p4 p5) ∧ w'.cell? ⟨g, j * 6 + 4, none⟩ = some (.slice p6 p7 p8) ∧ w'.cell? ⟨g, j * 6 + 5, none⟩ = some (.slice p9 pa pb)) ∧ w'.cell? ⟨w.heap.size, 0, none⟩ = some (.int .i64 x0) ∧ w'.cell? ⟨w.heap.size, 1, none⟩ = some (.string x1) ∧ w'.cell? ⟨w.heap.size, 2, none⟩ = some (.int .i64 x2) ∧ w'.cell? ⟨w.heap.size, 3, none⟩ = some (.slice x3 x4 x5) ∧ w'.cell? ⟨w.heap.size, 4, none⟩ = some (.slice x6 x7 x8) ∧ w'.cell? ⟨w.heap.size, 5, none⟩ = some (.slice x9 xa xb))) (by kernel_rfl) (HC.out _ HB2.out.drew) (fun hHeld => ?_)
    refine Plan.start [0, 1, 2, 3, 4, 5, 6, 7, 8] ?_
    iterate 9 (refine Plan.tk (so rfl) hHeld ?_; try simp only [Act.put, pz1, pz2, pz3])
    refine Plan.done ?_
    refine wpAnyH_ready (rs := [9]) (by kernel_rfl) (by simp) ?_
    refine AllReadyH.cons (sd (some 32) rfl) (fun K hK => ?_) AllReadyH.nil
    go_simp
    refine (KO.out _ (HB2.out.drew)).mono ?_
    rintro e w4 ⟨rfl, hb4⟩
    have HB4 := Hd (HB2.out.drew.trans (hb4.below.mono HB2.out.size))
    have HG4 := Hd ((HG2.out.drew).trans hb4)
    clear hb4
    go_wp2_with fail
    refine hK.out _ _ (HC.out _ HB4.out) (fun hHeld => ?_)
    clear hK K
    try simp only [Act.put, pz1, pz2, pz3]
    refine Plan.start [10, 11] ?_
    iterate 2 (refine Plan.tk (so rfl) hHeld ?_; try simp only [Act.put, pz1, pz2, pz3])
    refine Plan.done ?_
    refine wpAnyH_done (by kernel_rfl) ?_ _
    clear hHeld
    (try clear hHeld)
    clear u1 KO HC HGJ HBDo
    clear t1 t2 wr1 wr1' i0' i1'
    have HGW : Hid (Gw (w.alloc (.cells #[.int .i64 x0, .string x1, .int .i64 x2, .slice x3 x4 x5, .slice x6 x7 x8, .slice x9 xa xb] 26)) (w4)) := Hd (HG4.out)
    have HKL : Hid (k ≤ F.length) := Hd (HKF.out)
    have HINS : Hid (insT t F = F.take k ++ t :: F.drop k) := Hd (put_new HA.out HKF.out HGT.out (HLT.out (by first | rfl | trivial)))
    obtain ⟨vs, hvs, hrs⟩ := HOUTK.out _ HGW.out
    have HOw := Hd (And.intro hvs hrs)
    have HC2 := Hd (cellsT_new (w4) [.int .i64 x0, .string x1, .int .i64 x2, .slice x3 x4 x5, .slice x6 x7 x8, .slice x9 xa xb] 26)
    have HBw : Hid (Below w0.heap.size w0 (w4)) := Hd (HBA.out.trans (HGW.out.below.mono HBA.out.size))
    have hbox := box_later HBX.out HGW.out.below
    have HBOX := Hd hbox
    obtain ⟨z0, z1, z2, z3, z4, z5⟩ := row6 _ _ _ _ _ _ _ _ _ _ _ _ hbox
    have HOWA : Hid ((w4.alloc (.cells #[.int .i64 x0, .string x1, .int .i64 x2, .slice x3 x4 x5, .slice x6 x7 x8, .slice x9 xa xb] 26)).ownsRow w0.heap.size 26 6 (.slice (some ⟨g, 0, none⟩) F.length c) F.length vs) := Hd (HOw.out.1.alloc (.cells #[.int .i64 x0, .string x1, .int .i64 x2, .slice x3 x4 x5, .slice x6 x7 x8, .slice x9 xa xb] 26))
    clear hvs hrs hbox
    go_wp2_with (at_builtin; refine wpList_plain rfl fun K hK => ?_; go_loud (refine wp_append_own_at _ _ 22 rfl w0.heap.size 26 i0 (.agg #[.int .i64 0, .string ⟨#[]⟩, .int .i64 0, .slice none 0 0, .slice none 0 0, .slice none 0 0]) 6 104 Tryz.underlying22 hi0 hz0 hz1 hz2 rfl (by decide) _ _ _ rfl HOWA.out ⟨w4.heap.size, 0, none⟩ 1 1 [.int .i64 x0, .string x1, .int .i64 x2, .slice x3 x4 x5, .slice x6 x7 x8, .slice x9 xa xb] rfl rfl ?a0 ?a1 ?a2 ?a3 ?a4 ?_))
    case a0 => exact HC2.out
    case a1 =>
     intro u hu
     simp only [List.mem_cons, List.not_mem_nil, or_false] at hu
     rcases hu with rfl | rfl | rfl | rfl | rfl | rfl <;> rfl
    case a2 => have := HBD.out; unfold maxLen; omega
    case a3 => have := HBD.out; omega
    case a4 =>
     have h3 : (w4.alloc (.cells #[.int .i64 x0, .string x1, .int .i64 x2, .slice x3 x4 x5, .slice x6 x7 x8, .slice x9 xa xb] 26)).heap.size = (w4).heap.size + 1 := World.size_alloc _ _
     have h4 : (w4).heap.size = (w4).heap.size := rfl
     have h5 := HBw.out.size
     show w0.heap.size ≤ (w4.alloc (.cells #[.int .i64 x0, .string x1, .int .i64 x2, .slice x3 x4 x5, .slice x6 x7 x8, .slice x9 xa xb] 26)).heap.size
     omega
    intro v5 w5 hown5 hg5 _ hwhere
    refine hK _ _ ?_
    clear hK K z0 z1 z2 z3 z4 z5
    have hp5 := out_push2 HBw.out HOw.out.1 HOw.out.2 HT.out hown5 hg5
    have hbox5 : w5.heap[w.heap.size]? = some (.cells #[.int .i64 x0, .string x1, .int .i64 x2, .slice x3 x4 x5, .slice x6 x7 x8, .slice x9 xa xb] 26 (0, 0)) := by
     have hlt := (Array.getElem?_eq_some_iff.1 HBOX.out).1
     have h3 : (w4.alloc (.cells #[.int .i64 x0, .string x1, .int .i64 x2, .slice x3 x4 x5, .slice x6 x7 x8, .slice x9 xa xb] 26)).heap.size = (w4).heap.size + 1 := World.size_alloc _ _
     have h4 : (w4).heap.size = (w4).heap.size := rfl
     have h6 : (w4.alloc (.cells #[.int .i64 x0, .string x1, .int .i64 x2, .slice x3 x4 x5, .slice x6 x7 x8, .slice x9 xa xb] 26)).heap[w.heap.size]? = (w4).heap[w.heap.size]? := Below.heap_alloc (w4) _ _ (by omega)
     exact (hg5.block w.heap.size (by show w.heap.size < (w4.alloc (.cells #[.int .i64 x0, .string x1, .int .i64 x2, .slice x3 x4 x5, .slice x6 x7 x8, .slice x9 xa xb] 26)).heap.size; omega) (fun e => HNE.out e.symm)).trans (h6.trans HBOX.out)
    rcases InT.of_out hp5.1 with ⟨-, hnil⟩ | ⟨g5, c5, hv5, hgg5, hin5⟩
    ·exact absurd hnil (by simp)
    have hgne : g5 ≠ w.heap.size := by
     rcases hwhere with h | h
     ·rw [hv5] at h
      exact fun e => HNE.out (by rw [← h, ← e]; rfl)
     ·rw [hv5] at h
      have hlt := (Array.getElem?_eq_some_iff.1 HBOX.out).1
      have h2 : g5 = (w4).heap.size + 1 := by first | exact Option.some.inj h | (have h3 := Option.some.inj h; simpa using h3)
      have h4 : (w4).heap.size = (w4).heap.size := rfl
      omega
    subst hv5
    have HIN5 := Hd hin5
    have HGE := Hd hgne
    have HGG := Hd hgg5
    have HB5 := Hd hp5.2
    have HBOX5 := Hd hbox5
    have HLN : Hid ((F ++ [t]).length = F.length + 1) := Hd (by simp)
    rw [HLN.out]
    have wr9 : wrap64 (((F.length + 1 : Nat) : Int) - 1) = ((F.length : Nat) : Int) := by have := HBD.out; rw [wrap_in (by omega) (by omega)]; omega
    clear hown5 hg5 hp5 hbox5 hwhere hin5 hgne hgg5
    go_wp2_with fail
    go_loopw [6] (fun v wr => ∃ (i : Nat) (x : Ty), k ≤ i ∧ i ≤ F.length ∧ v = .int .i64 i ∧ InT K' w0 wr g5 c5 (F.take i ++ x :: F.drop i) ∧ wr.heap[w.heap.size]? = some (.cells #[.int .i64 x0, .string x1, .int .i64 x2, .slice x3 x4 x5, .slice x6 x7 x8, .slice x9 xa xb] 26 (0, 0)) ∧ Below w0.heap.size w0 wr) (fun v _ => (intOf v).toNat)
    case atStart => exact ⟨F.length, t, HKL.out, Nat.le_refl _, by first | rfl | rw [wr9], by rw [List.take_length, List.drop_length]; exact HIN5.out, HBOX5.out, HB5.out⟩
    case round =>
     obtain ⟨i, x, hki, hin, rfl, hrow, hbox, hbr⟩ := hrel
     have HROW := Hd hrow
     have HBXR := Hd hbox
     have HBR := Hd hbr
     by_cases hgt : k < i
     ·obtain ⟨m, rfl⟩ : ∃ m, i = m + 1 := ⟨i - 1, by omega⟩
      have hm : m < F.length := by omega
      have hget : (F.take (m + 1) ++ x :: F.drop (m + 1))[m]? = some F[m] := by
       rw [List.getElem?_append_left (by simp; omega), List.getElem?_take, if_pos (by omega)]
       exact List.getElem?_eq_getElem hm
      obtain ⟨p0, p1, p2, p3, p4, p5, p6, p7, p8, p9, pa, pb, hp, hrp⟩ := hrow.sixAt hget
      have hlt1 : (F.take (m + 1)).length = m + 1 := by simp; omega
      obtain ⟨r0, r1, r2, r3, r4, r5, r6, r7, r8, r9, ra, rb, hr, -⟩ := hrow.sixAt (i := m + 1) (t := x) (by rw [List.getElem?_append_right (by omega), hlt1, Nat.sub_self]; rfl)
      have hset := hrow.set hrp
      rw [hlt1] at hset
      have HSET : Hid (InT K' w0 (wr.setCells g5 ((m + 1) * 6) [.int .i64 p0, .string p1, .int .i64 p2, .slice p3 p4 p5, .slice p6 p7 p8, .slice p9 pa pb]) g5 c5 (F.take m ++ F[m] :: F.drop m)) := Hd (by
       have e1 : F.take (m + 1) = F.take m ++ [F[m]] := List.take_succ_eq_append_getElem hm
       rw [e1, List.append_assoc] at hset
       rw [List.drop_eq_getElem_cons hm]
       exact hset)
      have HBS : Hid ((wr.setCells g5 ((m + 1) * 6) [.int .i64 p0, .string p1, .int .i64 p2, .slice p3 p4 p5, .slice p6 p7 p8, .slice p9 pa pb]).heap[w.heap.size]? = some (.cells #[.int .i64 x0, .string x1, .int .i64 x2, .slice x3 x4 x5, .slice x6 x7 x8, .slice x9 xa xb] 26 (0, 0))) := Hd (by rw [sets_other (fun e => HGE.out e.symm)]; exact hbox)
      have HBW : Hid (Below w0.heap.size w0 (wr.setCells g5 ((m + 1) * 6) [.int .i64 p0, .string p1, .int .i64 p2, .slice p3 p4 p5, .slice p6 p7 p8, .slice p9 pa pb])) := Hd (sets_below HGG.out _ _ _ hbr)
      obtain ⟨cur, hcur, -⟩ := hrow.blk
      have hfr : ∀ o, wr.frozen? ⟨g5, o, none⟩ = false := fun o => Lib.frozen_of_heap hcur o
      obtain ⟨p0', p1', p2', p3', p4', p5'⟩ := hp
      obtain ⟨r0', r1', r2', r3', r4', r5'⟩ := hr
      have t1 : decide ((k : Int) < ((m + 1 : Nat) : Int)) = true := decide_eq_true (by omega)
      have t2 : k < m + 1 := hgt
      have t3 : k ≤ m := by omega
      have t4 : (k : Int) ≤ (m : Int) := by omega
      have t5 : (k : Int) < (m : Int) + 1 := by omega
      have t6 : decide ((k : Int) < (m : Int) + 1) = true := decide_eq_true t5
      have t7 : decide (k < m + 1) = true := decide_eq_true t2
      have i0 : (0 : Int) ≤ (m : Int) := by omega
      have i1 : (m : Int) < (F.length : Int) + 1 := by omega
      have i2 : (m : Int) + 1 < (F.length : Int) + 1 := by omega
      have wr1 : wrap64 (((m + 1 : Nat) : Int) - 1) = ((m : Nat) : Int) := by have := HBD.out; rw [wrap_in (by omega) (by omega)]; omega
      have wr3 : wrap64 (m : Int) = (m : Int) := wrap_in (by omega) (by have := HBD.out; omega)
      have HKM : Hid (k ≤ m) := Hd (by omega)
      have HM1 : Hid (m ≤ F.length) := Hd (by omega)
      clear hki hin hrow hbox hbr hget hset hrp hcur hlt1 hgt
      go_wp2_with fail
      refine ⟨⟨m, F[m], HKM.out, HM1.out, by first | rfl | (rw [wr1]) | (rw [wr3]), HSET.out, HBS.out, HBW.out⟩, ?_⟩
      first | (simp only [intOf]; omega) | (rw [wr1]; simp only [intOf]; omega) | (rw [wr3]; simp only [intOf]; omega)
     ·have hik : i = k := by omega
      have hset := hrow.set HT.out
      have hlt1 : (F.take i).length = i := by simp; omega
      rw [hlt1] at hset
      obtain ⟨r0, r1, r2, r3, r4, r5, r6, r7, r8, r9, ra, rb, hr, -⟩ := hrow.sixAt (i := i) (t := x) (by rw [List.getElem?_append_right (by omega), hlt1, Nat.sub_self]; rfl)
      have HFIN : Hid (OutT K' w0 (wr.setCells g5 (i * 6) [.int .i64 x0, .string x1, .int .i64 x2, .slice x3 x4 x5, .slice x6 x7 x8, .slice x9 xa xb]) (.slice (some ⟨g5, 0, none⟩) (F.length + 1) c5) (insT t F) ∧ Below w0.heap.size w0 (wr.setCells g5 (i * 6) [.int .i64 x0, .string x1, .int .i64 x2, .slice x3 x4 x5, .slice x6 x7 x8, .slice x9 xa xb])) := Hd ⟨by
       have h1 := hset.out HGG.out
       have e : F.take i ++ t :: F.drop i = insT t F := by rw [hik]; exact HINS.out.symm
       have hl : (F.take i ++ t :: F.drop i).length = F.length + 1 := by simp; omega
       rw [hl, e] at h1
       exact h1, sets_below HGG.out _ _ _ hbr⟩
      obtain ⟨cur, hcur, -⟩ := hrow.blk
      have hfr : ∀ o, wr.frozen? ⟨g5, o, none⟩ = false := fun o => Lib.frozen_of_heap hcur o
      obtain ⟨z0, z1, z2, z3, z4, z5⟩ := row6 _ _ _ _ _ _ _ _ _ _ _ _ hbox
      obtain ⟨r0', r1', r2', r3', r4', r5'⟩ := hr
      rw [hik] at HFIN r0' r1' r2' r3' r4' r5'
      have t1 : decide ((k : Int) < (i : Int)) = false := decide_eq_false (by omega)
      have t2 : ¬ k < i := hgt
      have i0 : (0 : Int) ≤ (k : Int) := by omega
      have i2 : (k : Int) < (F.length : Int) + 1 := by omega
      clear hki hin hrow hbox hbr hset hcur hlt1 hik hgt
      go_wp2_with fail
      go_ret
      exact ⟨_, rfl, HFIN.out.1, HFIN.out.2⟩
   ·go_wp2_with fail
    refine wp_region_held_drew (S := (fun w' => (w'.cell? ⟨g, j * 6, none⟩ = some (.int .i64 p0) ∧ w'.cell? ⟨g, j * 6 + 1, none⟩ = some (.string p1) ∧ w'.cell? ⟨g, j * 6 + 2, none⟩ = some (.int .i64 p2) ∧ w'.cell? ⟨g, j * 6 + 3, none⟩ = some (.slice p3 p4 p5) ∧ w'.cell? ⟨g, j * 6 + 4, none⟩ = some (.slice p6 p7 p8) ∧ w'.cell? ⟨g, j * 6 + 5, none⟩ = some (.slice p9 pa pb)) ∧ w'.cell? ⟨w.heap.size, 0, none⟩ = some (.int .i64 x0) ∧ w'.cell? ⟨w.heap.size, 1, none⟩ = some (.string x1) ∧ w'.cell? ⟨w.heap.size, 2, none⟩ = some (.int .i64 x2) ∧ w'.cell? ⟨w.heap.size, 3, none⟩ = some (.slice x3 x4 x5) ∧ w'.cell? ⟨w.heap.size, 4, none⟩ = some (.slice x6 x7 x8) ∧ w'.cell? ⟨w.heap.size, 5, none⟩ = some (.slice x9 xa xb))) (by kernel_rfl) (HC.out _ HB2.out.drew) (fun hHeld => ?_)
    refine Plan.start [0, 1, 2, 3, 4, 5, 6, 7, 8] ?_
    iterate 9 (refine Plan.tk (so rfl) hHeld ?_; try simp only [Act.put, pz1, pz2, pz3])
    refine Plan.done ?_
    refine wpAnyH_ready (rs := [9]) (by kernel_rfl) (by simp) ?_
    refine AllReadyH.cons (sd (some 32) rfl) (fun K hK => ?_) AllReadyH.nil
    go_simp
    refine (KO.out _ (HB2.out.drew)).mono ?_
    rintro e w4 ⟨rfl, hb4⟩
    have HB4 := Hd (HB2.out.drew.trans (hb4.below.mono HB2.out.size))
    have HG4 := Hd ((HG2.out.drew).trans hb4)
    clear hb4
    go_wp2_with fail
    refine hK.out _ _ (HC.out _ HB4.out) (fun hHeld => ?_)
    clear hK K
    try simp only [Act.put, pz1, pz2, pz3]
    refine Plan.start [10, 11] ?_
    iterate 2 (refine Plan.tk (so rfl) hHeld ?_; try simp only [Act.put, pz1, pz2, pz3])
    refine Plan.done ?_
    refine wpAnyH_done (by kernel_rfl) ?_ _
    clear hHeld
    clear t1 t2 wr1 wr1' i0' i1'
    go_wp2_with fail
    go_ret
    refine ⟨_, rfl, ?_, ?_⟩
    ·rw [HZE.out (by first | rfl | trivial)]; exact HOUTK.out _ HG4.out
    ·exact HBA.out.trans (HG4.out.below.mono HBA.out.size)
   ·have wr1j := wr1
    clear t1 t2
    go_wp2_with fail
    refine ⟨⟨j, by have := HKJ.out; have := HKF.out; omega, by first | rfl | rw [wr1j], HGJ.out rfl, HG2.out⟩, ?_⟩
    have := HKJ.out
    first | (rw [wr1j]; simp only [intOf]; omega) | (simp only [intOf]; omega)
theorem self_9 (t : ByteArray) (n : Int) (ps : List Ty) (fs : FsT) (vs : VsT) : SelfIs (.mk 9 t n ps fs vs) (decide (0 ≤ n)) := by
 intro K w b o h
 obtain ⟨A, c, A2, c2, A3, c3, ⟨x0, x1, x2, x3, x4, x5⟩, ht, hP, hF, hV⟩ := h.six
 clear h ht hP hF hV
 go_enter Tryz.func83, Tryz.ntmps83
 go_wp2_with fail
 go_ret
 exact ⟨rfl, Below.refl _ _⟩
theorem self_16 (t : ByteArray) (n : Int) (ps : List Ty) (fs : FsT) (vs : VsT) : SelfIs (.mk 16 t n ps fs vs) (nameT t) := by
 intro K w b o h
 obtain ⟨A, c, A2, c2, A3, c3, ⟨x0, x1, x2, x3, x4, x5⟩, ht, hP, hF, hV⟩ := h.six
 have KC := Hd (name_prog t w ht)
 generalize nameT t = r at KC ⊢
 clear h ht hP hF hV
 go_enter Tryz.func83, Tryz.ntmps83
 go_wp2_with fail
 refine KC.out.mono ?_
 rintro e w2 ⟨rfl, hb2⟩
 have HB2 := Hd hb2
 clear hb2
 go_wp2_with fail
 go_ret
 exact ⟨rfl, HB2.out⟩
theorem self_22 (t : ByteArray) (n : Int) (ps : List Ty) (fs : FsT) (vs : VsT) : SelfIs (.mk 22 t n ps fs vs) (nameT t) := by
 intro K w b o h
 obtain ⟨A, c, A2, c2, A3, c3, ⟨x0, x1, x2, x3, x4, x5⟩, ht, hP, hF, hV⟩ := h.six
 have KC := Hd (name_prog t w ht)
 generalize nameT t = r at KC ⊢
 clear h ht hP hF hV
 go_enter Tryz.func83, Tryz.ntmps83
 go_wp2_with fail
 refine KC.out.mono ?_
 rintro e w2 ⟨rfl, hb2⟩
 have HB2 := Hd hb2
 clear hb2
 go_wp2_with fail
 go_ret
 exact ⟨rfl, HB2.out⟩
theorem self_17 (t : ByteArray) (n : Int) (ps : List Ty) (fs : FsT) (vs : VsT) : SelfIs (.mk 17 t n ps fs vs) (nameT t) := by
 intro K w b o h
 obtain ⟨A, c, A2, c2, A3, c3, ⟨x0, x1, x2, x3, x4, x5⟩, ht, hP, hF, hV⟩ := h.six
 have KC := Hd (name_prog t w ht)
 generalize nameT t = r at KC ⊢
 clear h ht hP hF hV
 go_enter Tryz.func83, Tryz.ntmps83
 go_wp2_with fail
 refine KC.out.mono ?_
 rintro e w2 ⟨rfl, hb2⟩
 have HB2 := Hd hb2
 clear hb2
 go_wp2_with fail
 go_ret
 exact ⟨rfl, HB2.out⟩
theorem self_13 (t : ByteArray) (n : Int) (ps : List Ty) (fs : FsT) (vs : VsT) (fv : Ty → Bool) (hf : ∀ v ∈ vs, ∀ b ∈ v.2, FormIs b (fv b)) : SelfIs (.mk 13 t n ps fs vs) (varsB (varsT vs fv)) := by
 intro K w b o h
 obtain ⟨A, c, A2, c2, A3, c3, ⟨x0, x1, x2, x3, x4, x5⟩, ht, hP, hF, hV⟩ := h.six
 have KC := Hd (formedVars_any hV hf)
 generalize varsB (varsT vs fv) = r at KC ⊢
 clear h ht hP hF hV hf
 go_enter Tryz.func83, Tryz.ntmps83
 go_wp2_with fail
 refine KC.out.mono ?_
 rintro e w2 ⟨rfl, hb2⟩
 have HB2 := Hd hb2
 clear hb2
 go_wp2_with fail
 go_ret
 exact ⟨rfl, HB2.out⟩
theorem self_14 (t : ByteArray) (n : Int) (ps : List Ty) (fs : FsT) (vs : VsT) (fv : Ty → Bool) (hf : ∀ f ∈ fs, FormIs f.2.2 (fv f.2.2)) : SelfIs (.mk 14 t n ps fs vs) (fieldsB (fieldsT fs fv)) := by
 intro K w b o h
 obtain ⟨A, c, A2, c2, A3, c3, ⟨x0, x1, x2, x3, x4, x5⟩, ht, hP, hF, hV⟩ := h.six
 have KC := Hd (formedFields_any hF hf)
 generalize fieldsB (fieldsT fs fv) = r at KC ⊢
 clear h ht hP hF hV hf
 go_enter Tryz.func83, Tryz.ntmps83
 go_wp2_with fail
 refine KC.out.mono ?_
 rintro e w2 ⟨rfl, hb2⟩
 have HB2 := Hd hb2
 clear hb2
 go_wp2_with fail
 go_ret
 exact ⟨rfl, HB2.out⟩
theorem self_20 (t : ByteArray) (n : Int) (ps : List Ty) (fs : FsT) (vs : VsT) : SelfIs (.mk 20 t n ps fs vs) (nameT t && decide (0 ≤ n) && decide (n ≤ 3)) := by
 intro K w b o h
 obtain ⟨A, c, A2, c2, A3, c3, ⟨x0, x1, x2, x3, x4, x5⟩, ht, hP, hF, hV⟩ := h.six
 have KC := Hd (name_prog t w ht)
 have HX2 : Hid (∀ wx, Below w.heap.size w wx → wx.cell? ⟨b, o + 2, none⟩ = some (.int .i64 n)) := Hd fun wx hx => cell_stays hx x2
 generalize nameT t = r at KC ⊢
 clear h ht hP hF hV
 cases r with
 | false =>
  go_enter Tryz.func83, Tryz.ntmps83
  go_wp2_with fail
  refine KC.out.mono ?_
  rintro e w2 ⟨rfl, hb2⟩
  have HB2 := Hd hb2
  clear hb2
  go_wp2_with fail
  go_ret
  exact ⟨rfl, HB2.out⟩
 | true =>
  by_cases h0 : 0 ≤ n
  ·have e0 : decide (0 ≤ n) = true := by simpa using h0
   have E0 := Hd e0
   go_enter Tryz.func83, Tryz.ntmps83
   go_wp2_with fail
   refine KC.out.mono ?_
   rintro e w2 ⟨rfl, hb2⟩
   have HB2 := Hd hb2
   have y2 := HX2.out _ hb2
   clear hb2
   go_wp2_with fail
   go_ret
   exact ⟨by rw [E0.out]; first | rfl | simp, HB2.out⟩
  ·have e0 : decide (0 ≤ n) = false := by simpa using h0
   have e1 : n < 0 := by omega
   have E0 := Hd e0
   go_enter Tryz.func83, Tryz.ntmps83
   go_wp2_with fail
   refine KC.out.mono ?_
   rintro e w2 ⟨rfl, hb2⟩
   have HB2 := Hd hb2
   have y2 := HX2.out _ hb2
   clear hb2
   go_wp2_with fail
   go_ret
   exact ⟨by rw [E0.out]; first | rfl | simp, HB2.out⟩
theorem self_21 (t : ByteArray) (n : Int) (ps : List Ty) (fs : FsT) (vs : VsT) : SelfIs (.mk 21 t n ps fs vs) ((n == 0 && t.toList == []) || (n == 1 && nameT t)) := by
 intro K w b o h
 obtain ⟨A, c, A2, c2, A3, c3, ⟨x0, x1, x2, x3, x4, x5⟩, ht, hP, hF, hV⟩ := h.six
 have KC := Hd (name_prog t w ht)
 generalize nameT t = r at KC ⊢
 clear h ht hP hF hV
 by_cases h0 : n = 0
 ·subst h0
  cases hl : t.toList with
  | nil =>
   go_enter Tryz.func83, Tryz.ntmps83
   go_wp2_with fail
   go_ret
   exact ⟨rfl, Below.refl _ _⟩
  | cons a l =>
   go_enter Tryz.func83, Tryz.ntmps83
   go_wp2_with fail
   go_ret
   exact ⟨rfl, Below.refl _ _⟩
 ·have e0 : (n == 0) = false := by simpa using h0
  have E0 := Hd e0
  by_cases h1 : n = 1
  ·subst h1
   go_enter Tryz.func83, Tryz.ntmps83
   go_wp2_with fail
   refine KC.out.mono ?_
   rintro e w2 ⟨rfl, hb2⟩
   have HB2 := Hd hb2
   clear hb2
   go_wp2_with fail
   go_ret
   exact ⟨by first | rfl | simp, HB2.out⟩
  ·have e1 : (n == 1) = false := by simpa using h1
   have E1 := Hd e1
   go_enter Tryz.func83, Tryz.ntmps83
   go_wp2_with fail
   go_ret
   exact ⟨by rw [E0.out, E1.out]; rfl, Below.refl _ _⟩
theorem self_23 (t : ByteArray) (n : Int) (ps : List Ty) (fs : FsT) (vs : VsT) : SelfIs (.mk 23 t n ps fs vs) (ps.all fun p => p.k == 13) := by
 intro K w b o h
 obtain ⟨A, c, A2, c2, A3, c3, ⟨x0, x1, x2, x3, x4, x5⟩, ht, hP, hF, hV⟩ := h.six
 have HP := Hd hP
 have hlp := hP.short
 clear h ht hP hF hV
 go_enter Tryz.func83, Tryz.ntmps83
 go_wp2_with fail
 go_loopw [101] (fun v wr => ∃ (i : Nat), i ≤ ps.length ∧ v = .int .i64 i ∧ (ps.all fun p => p.k == 13) = (ps.drop i).all (fun p => p.k == 13) ∧ wr = w) (fun v _ => ps.length - (intOf v).toNat)
 case atStart => exact ⟨0, by omega, rfl, by rw [List.drop_zero], rfl⟩
 case round =>
  obtain ⟨i, hi, rfl, he, rfl⟩ := hrel
  have HE := Hd he
  clear he
  by_cases hin : i < ps.length
  ·have t1 : decide ((i : Int) < (ps.length : Int)) = true := by simp; omega
   have wr2 : wrap64 ((i : Int) + 1) = ((i + 1 : Nat) : Int) := wrap_one (by omega)
   obtain ⟨pb, po, hA, _, hr⟩ := HP.out.at (by omega)
   subst hA
   obtain ⟨q, hq, hcq⟩ : ∃ q, ps[i].k = q ∧ wr.cell? ⟨pb, po + i * 6, none⟩ = some (.int .i64 q) := by
    have h1 := hr i hin
    generalize ps[i] = t at h1
    obtain ⟨k, s, n, ps, fs, vs⟩ := t
    obtain ⟨_, _, _, _, _, _, ⟨x0, _⟩, _⟩ := h1.six
    exact ⟨k, rfl, x0⟩
   have HS := Hd (all_drop (p := fun p : Ty => p.k == 13) hin)
   have HM := Hd (measI hin)
   have HIn := Hd hin
   by_cases h13 : q = 13
   ·have HK : Hid (((ps[i]'hin).k == 13) = true) := Hd (by rw [hq]; simpa using h13)
    have e13 : (q != 13) = false := by simpa using h13
    clear hr hi hq
    go_wp2_with fail
    refine ⟨⟨i + 1, HIn.out, by first | rfl | rw [wr2], by rw [HE.out, HS.out, HK.out]; rfl, by first | rfl | trivial⟩, ?_⟩
    first | exact HM.out | (rw [wr2]; exact HM.out)
   ·have HK : Hid (((ps[i]'hin).k == 13) = false) := Hd (by rw [hq]; simpa using h13)
    have e13 : (q != 13) = true := by simpa using h13
    clear hr hi hq
    go_wp2_with fail
    go_ret
    exact ⟨by rw [HE.out, HS.out, HK.out]; rfl, Below.refl _ _⟩
  ·have t1 : decide ((i : Int) < (ps.length : Int)) = false := by simp; omega
   have HE1 : Hid ((ps.all fun p => p.k == 13) = true) := Hd (by rw [HE.out, List.drop_eq_nil_of_le (by omega)]; rfl)
   clear hi
   go_wp2_with fail
   go_ret
   exact ⟨by rw [HE1.out]; rfl, Below.refl _ _⟩
theorem self_no (k : Int) (t : ByteArray) (n : Int) (ps : List Ty) (fs : FsT) (vs : VsT) (h9 : k ≠ 9) (h13 : k ≠ 13) (h14 : k ≠ 14) (h15 : k ≠ 15) (h16 : k ≠ 16) (h17 : k ≠ 17) (h20 : k ≠ 20) (h21 : k ≠ 21) (h22 : k ≠ 22) (h23 : k ≠ 23) : SelfIs (.mk k t n ps fs vs) true := by
 intro K w b o h
 obtain ⟨A, c, A2, c2, A3, c3, ⟨x0, x1, x2, x3, x4, x5⟩, -⟩ := h.six
 have t9 : (k == 9) = false := by simpa using h9
 have t13 : (k == 13) = false := by simpa using h13
 have t14 : (k == 14) = false := by simpa using h14
 have t15 : (k == 15) = false := by simpa using h15
 have t16 : (k == 16) = false := by simpa using h16
 have t17 : (k == 17) = false := by simpa using h17
 have t20 : (k == 20) = false := by simpa using h20
 have t21 : (k == 21) = false := by simpa using h21
 have t22 : (k == 22) = false := by simpa using h22
 have t23 : (k == 23) = false := by simpa using h23
 clear h h9 h13 h14 h15 h16 h17 h20 h21 h22 h23
 go_enter Tryz.func83, Tryz.ntmps83
 go_wp2_with fail
 go_ret
 exact ⟨rfl, Below.refl _ _⟩
theorem self_any (k : Int) (t : ByteArray) (n : Int) (ps : List Ty) (fs : FsT) (vs : VsT) (fv : Ty → Bool) (hf : ∀ f ∈ fs, FormIs f.2.2 (fv f.2.2)) (hv : ∀ v ∈ vs, ∀ b ∈ v.2, FormIs b (fv b)) :
  SelfIs (.mk k t n ps fs vs) (selfB k t n ps (fieldsB (fieldsT fs fv)) (varsB (varsT vs fv))) := by
 unfold selfB
 by_cases h9 : k = 9
 ·subst h9; exact self_9 t n ps fs vs
 rw [if_neg h9]
 by_cases h16 : k = 16
 ·subst h16; exact self_16 t n ps fs vs
 by_cases h22 : k = 22
 ·subst h22; exact self_22 t n ps fs vs
 by_cases h17 : k = 17
 ·subst h17; exact self_17 t n ps fs vs
 rw [if_neg (by omega)]
 by_cases h13 : k = 13
 ·subst h13; exact self_13 t n ps fs vs fv hv
 rw [if_neg h13]
 by_cases h14 : k = 14
 ·subst h14; exact self_14 t n ps fs vs fv hf
 rw [if_neg h14]
 by_cases h15 : k = 15
 ·subst h15; exact self_15 t n ps fs vs
 rw [if_neg h15]
 by_cases h20 : k = 20
 ·subst h20; exact self_20 t n ps fs vs
 rw [if_neg h20]
 by_cases h21 : k = 21
 ·subst h21; exact self_21 t n ps fs vs
 rw [if_neg h21]
 by_cases h23 : k = 23
 ·subst h23; exact self_23 t n ps fs vs
 rw [if_neg h23]
 exact self_no k t n ps fs vs h9 h13 h14 h15 h16 h17 h20 h21 h22 h23
theorem form_all (t : Ty) : FormIs t (formT t) := Ty.ind (C := fun t => FormIs t (formT t)) (fun k t n ps fs vs hp hf hv => by
 rw [formT_mk]
 exact form_step k t n ps fs vs _ formT (self_any k t n ps fs vs formT hf hv) hp) t
def formedT (t : Ty) : Bool := decide (cntT t ≤ 4096) && formT t
theorem Formed_any {K : Nat → Prop} {w : World} {t : Ty} {cs : List Value} (h : RepT K w t cs) :
  Calls Tryz.prog 24 #[.agg cs.toArray] w fun e w' => e = .returned (.bool (formedT t)) ∧ Below w.heap.size w w' := formed_val h (form_all t)
end Go.Proofs.YtgjblmlibhppiaaGreatDoor
