import Derived.Test.YtjbccjmpebgdjaaGreatDoorMg36
import Derived.Lib.OwnBridge
import Derived.Sort.OwnSorted
namespace Go.Proofs.YtjbccjmpebgdjaaGreatDoor
open Go.RowKit
set_option maxRecDepth 100000
set_option maxHeartbeats 64000000
open Go.RowKit Go.Sort
theorem riseS_nil : riseS [] = [] := List.eq_nil_of_length_eq_zero (Nat.le_zero.1 (riseS_len []))
theorem outS_of {B : Nat} {w : World} {v : Value} {l : List ByteArray} (h : w.ownsRow B 9 1 v l.length (l.map .string)) : OutS B w v l := h
def sortB (l : List ByteArray) : List ByteArray := ((l.map (·.data.toList)).mergeSort fun x y => decide (x ≤ y)).map fun x => ⟨x.toArray⟩
theorem sortB_enc (l : List ByteArray) : (sortB l).map Value.string = ((l.map (·.data.toList)).mergeSort fun x y => decide (x ≤ y)).map encStr := by
 unfold sortB
 rw [List.map_map]
 rfl
theorem sortB_len (l : List ByteArray) : (sortB l).length = l.length := by unfold sortB; simp
theorem sortB_dat (l : List ByteArray) : (sortB l).map (·.data.toList) = (l.map (·.data.toList)).mergeSort fun x y => decide (x ≤ y) := by
 unfold sortB
 rw [List.map_map]
 exact List.map_id' _
theorem sort_all {B : Nat} {w : World} {g c : Nat} {l : List ByteArray} (hs : StrI w g c l) (hb : B ≤ g) (hn : l.length ≤ 1000000000) :
  Calls Tryz.prog 45 #[.slice (some ⟨g, 0, none⟩) l.length c] w fun e w' => e = .returned (.tuple #[]) ∧ StrI w' g c (sortB l) ∧ w.grownBy w' (some g) := by
 have ho := hs.out hb
 obtain ⟨cur, h1, h2⟩ := hs.blk
 have h3 : w.ownsRow B 9 1 (.slice (some ⟨g, 0, none⟩) l.length c) l.length ((l.map (·.data.toList)).map encStr) := by rw [Lib.map_encStr l]; exact ho
 obtain ⟨g', cap, hv, _, hlt, _, _, _, hH⟩ := Lib.holds_of_ownsRow h3 (by intro h; cases h)
 injection hv with hv1 _ hv2
 injection hv1 with hv1
 injection hv1 with hv1
 subst hv1
 have main := Any.slices_Sort_string sortS g 0 c (l.map (·.data.toList)) w hH hlt (by rw [List.length_map]; omega)
 rw [List.length_map] at main
 refine main.mono ?_
 rintro e w' ⟨rfl, n, os, rfl⟩
 refine ⟨rfl, ?_, grownBy_sorted _⟩
 have h4 := ownsRow_sorted (w := w) (base := B) (cap := c) (n := n) (os := os) (ss := l.map (·.data.toList)) (ts := (l.map (·.data.toList)).mergeSort fun x y => decide (x ≤ y)) (by simp) hb h1 (by rw [List.length_map]; exact hs.le) hs.mx (by omega)
 rw [List.length_map, ← sortB_enc] at h4
 have h5 := outS_of (l := sortB l) (by rw [sortB_len]; exact h4)
 rcases h5.of with ⟨h6, _⟩ | ⟨g2, c2, h6, _, h7⟩
 ·cases h6
 ·injection h6 with h8 _ h9
  injection h8 with h8
  injection h8 with h8
  subst h8; subst h9
  exact h7
theorem compact_all_c {B : Nat} {w : World} {g c : Nat} {l : List ByteArray} (hs : StrI w g c l) (hb : B ≤ g) (hn : l.length ≤ 1000000000) :
  Calls Tryz.prog 46 #[.slice (some ⟨g, 0, none⟩) l.length c] w fun e w' => e = .returned (.slice (some ⟨g, 0, none⟩) ((Lib.compact (l.map (·.data.toList))).map fun x => (⟨x.toArray⟩ : ByteArray)).length c) ∧ StrI w' g c ((Lib.compact (l.map (·.data.toList))).map fun x => ⟨x.toArray⟩) ∧ Below B w w' := by
 have ho := hs.out hb
 have h3 : w.ownsRow B 9 1 (.slice (some ⟨g, 0, none⟩) l.length c) l.length ((l.map (·.data.toList)).map encStr) := by rw [Lib.map_encStr l]; exact ho
 obtain ⟨g', cap, hv, _, hlt, _, _, _, hH⟩ := Lib.holds_of_ownsRow h3 (by intro h; cases h)
 injection hv with hv1 _ hv2
 injection hv1 with hv1
 injection hv1 with hv1
 subst hv1
 have hle : (Lib.compact (l.map (·.data.toList))).length ≤ l.length := by
  unfold Lib.compact Lib.compactUpTo
  rw [List.length_map]
  refine Nat.le_trans (List.length_filter_le _ _) ?_
  rw [List.length_range, List.length_map]
  omega
 have main := Any.slices_Compact_string compactS g 0 c (l.map (·.data.toList)) w hH (by rw [List.length_map]; omega) (by rw [List.length_map]; exact hs.le)
 rw [List.length_map] at main
 refine main.mono ?_
 rintro e w' ⟨rfl, q, rfl⟩
 refine ⟨by rw [List.length_map], ?_, Lib.below_putRow (Below.refl _ _) hb⟩
 have h4 := Lib.ownsRow_putRow (q := q) (k := (Lib.compact (l.map (·.data.toList))).length) (ys := Lib.compact (l.map (·.data.toList)) ++ List.replicate (l.length - (Lib.compact (l.map (·.data.toList))).length) []) h3 (by rw [List.length_append, List.length_replicate]; omega) hle
 rw [List.take_left'] at h4
 rotate_left
 ·rfl
 have h5 := outS_of (l := (Lib.compact (l.map (·.data.toList))).map fun x => (⟨x.toArray⟩ : ByteArray)) (by rw [List.length_map, List.map_map]; exact h4)
 rcases h5.of with ⟨h6, _⟩ | ⟨g2, c2, h6, _, h7⟩
 ·cases h6
 ·injection h6 with h8 _ h9
  injection h8 with h8
  injection h8 with h8
  subst h8; subst h9
  exact h7
theorem infers_all {K : Nat → Prop} {w : World} {t : Ty} {cs : List Value} (hr : RepT K w t cs) (hf : formT t = true) (hn : (namesI t).length ≤ 1000000000) :
  Calls Tryz.prog 26 #[.agg cs.toArray] w fun e w' => ∃ A c, e = .returned (.slice A (riseS (namesI t)).length c) ∧ ListS w' (riseS (namesI t)) A ∧ Below w.heap.size w w' := by
 have kinf := infs_any t
 obtain ⟨k, s, n, ps, fs, vs⟩ := t
 obtain ⟨A, c, B, d, C, e0, rfl, -⟩ := hr.inv
 simp only [cells6T] at hr ⊢
 obtain ⟨w0, hw0⟩ : ∃ x, x = w.alloc (.cells #[.int .i64 k, .string s, .int .i64 n, .slice A ps.length c, .slice B fs.length d, .slice C vs.length e0] 26) := ⟨_, rfl⟩
 obtain ⟨w1, hw1⟩ : ∃ x, x = w0.alloc (.cells #[.slice none 0 0] 73) := ⟨_, rfl⟩
 have hat : AtT K w0 (.mk k s n ps fs vs) w.heap.size 0 := by rw [hw0]; exact AtT.box 26 hr
 have hb0 : Below w.heap.size w w0 := by rw [hw0]; exact (Below.refl _ _).alloc (Nat.le_refl _) _
 have hb1 : Below w0.heap.size w0 w1 := by rw [hw1]; exact (Below.refl _ _).alloc (Nat.le_refl _) _
 have hnm : NmS w0 w1 w0.heap.size [] := ⟨.slice none 0 0, by rw [hw1]; exact heap_alloc_new w0 _, ⟨rfl, .inl ⟨rfl, rfl⟩⟩, hb1, Nat.le_refl _⟩
 have KI := Hd (kinf K w0 w1 w.heap.size 0 w0.heap.size [] hat hf hnm (by simp only [List.length_nil]; omega))
 have HB0 := Hd hb0
 have HW0 := Hd hw0
 have HW1 := Hd hw1
 clear kinf hr hat hb0 hb1 hnm hw0 hw1 hf
 rw [List.nil_append] at KI
 generalize namesI (.mk k s n ps fs vs) = l at KI hn ⊢
 go_enter Tryz.func26, Tryz.ntmps26
 go_upto_region 1 with fail
 rw [← HW0.out]
 go_upto_region 2 with fail
 rw [← HW1.out]
 go_wp2_with fail
 refine KI.out.mono ?_
 rintro e w2 ⟨rfl, v, hv, ho, hb, hg⟩
 have HB2 := Hd (HB0.out.trans (hb.mono HB0.out.size))
 have hB0 := HB0.out.size
 rcases ho.of with ⟨rfl, rfl⟩ | ⟨g, c', rfl, hgb, hs⟩
 ·have z0 : w2.cell? ⟨w0.heap.size, 0, none⟩ = some (.slice none 0 0) := Ch hv 0
  clear hv ho hb hg
  go_wp2_with fail
  refine (sort_0 _ _ _).mono ?_
  rintro e w' ⟨rfl, hw⟩; obtain rfl := hw.symm
  go_wp2_with fail
  refine (compact_0 _ _ _).mono ?_
  rintro e w' ⟨rfl, hw⟩; obtain rfl := hw.symm
  go_wp2_with fail
  go_ret
  exact ⟨none, 0, by rw [riseS_nil]; rfl, by rw [riseS_nil]; exact ⟨0, 0, fun h => absurd h (by simp), by simp, fun i h => absurd h (by simp)⟩, HB2.out⟩
 ·have z0 : w2.cell? ⟨w0.heap.size, 0, none⟩ = some (.slice (some ⟨g, 0, none⟩) l.length c') := Ch hv 0
  have KS := Hd (sort_all hs hgb hn)
  have HNE : Hid (w0.heap.size ≠ g) := Hd fun e => by
   obtain ⟨cur, h1, _⟩ := hs.blk
   rw [← e, hv] at h1
   injection h1 with h1
   injection h1 with _ h1
   exact absurd h1 (by decide)
  have HLT : Hid (w0.heap.size < w2.heap.size) := Hd (Array.getElem?_eq_some_iff.1 hv).1
  have HGB := Hd hgb
  clear hv ho hb hg hs hgb
  go_wp2_with fail
  refine KS.out.mono ?_
  rintro e w3 ⟨rfl, hs3, hgr⟩
  have HB3 := Hd (HB2.out.grown hgr HB2.out.size fun k hk => by injection hk with hk; have := HGB.out; have := HB0.out.size; omega)
  have KC := Hd (compact_all_c hs3 HGB.out (by rw [sortB_len]; exact hn))
  have z1 : w3.cell? ⟨w0.heap.size, 0, none⟩ = some (.slice (some ⟨g, 0, none⟩) l.length c') := (World.cell?_of_block (a := ⟨w0.heap.size, 0, none⟩) (hgr.block w0.heap.size HLT.out fun e => HNE.out (by injection e))).trans z0
  rw [sortB_dat, sortB_len] at KC
  clear hs3 hgr KS z0
  go_wp2_with fail
  refine KC.out.mono ?_
  rintro e w4 ⟨rfl, hs4, hb4⟩
  have HFIN : Hid (ListS w4 (riseS l) (some ⟨g, 0, none⟩) ∧ Below w.heap.size w w4) := Hd ⟨hs4.list (show (riseS l).length ≤ _ from by have := riseS_len l; omega), HB3.out.trans (hb4.mono HB0.out.size)⟩
  go_wp2_with fail
  go_ret
  exact ⟨some ⟨g, 0, none⟩, c', by unfold riseS; rw [List.length_map]; rfl, HFIN.out.1, HFIN.out.2⟩
end Go.Proofs.YtjbccjmpebgdjaaGreatDoor
