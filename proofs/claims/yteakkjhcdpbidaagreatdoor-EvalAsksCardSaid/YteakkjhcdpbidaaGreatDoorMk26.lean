import Derived.Test.YteakkjhcdpbidaaGreatDoorMk24
namespace Go.Proofs.YteakkjhcdpbidaaGreatDoor
set_option maxRecDepth 100000
set_option maxHeartbeats 64000000
open Go.RowKit
theorem wp_append_str {B : Nat} {w : World} {v : Value} {l : List ByteArray} {s : ByteArray} {gg : Nat} {o : Oper} {a : Act} {Kc : Act → World → Prop} {Q : Exit → Act → World → Prop} (sl x : Operand)
  (ho : o.op = .call { callee := .builtin .append, args := #[sl, x], argTypes := #[47, 47] }) (hs : a.eval sl = v) (hx : a.eval x = .slice (some ⟨gg, 0, none⟩) 1 1)
  (hO : OutS B w v l) (hc : w.cell? ⟨gg, 0, none⟩ = some (.string s)) (hB : B ≤ w.heap.size) (hbd : l.length + 1 ≤ 1099511627776)
  (h : ∀ v' w', OutS B w' v' (l ++ [s]) → w.grownBy w' v.ownBlock → Kc (a.put o.dst v') w') :
  Oper.wp Tryz.prog o a w Kc Q := by
 obtain ⟨i0, hi0, hz0, hz1, hz2⟩ := partsT infoStr
 refine wp_append_own_at sl x 47 ho B 9 i0 (.string ⟨#[]⟩) 1 16 Tryz.underlying47 hi0 hz0 hz1 hz2 rfl (by decide) v l.length _ hs hO ⟨gg, 0, none⟩ 1 1 [.string s] hx rfl (fun j u hj => ?_) (fun u hu => ?_) (by unfold maxLen; omega) (by omega) hB ?_
 ·have hj0 : j = 0 := by have := (List.getElem?_eq_some_iff.1 hj).1; simp at this; exact this
  subst hj0
  obtain rfl : Value.string s = u := by simpa using hj
  have e : ((⟨gg, 0, none⟩ : Addr).add 0) = ⟨gg, 0, none⟩ := rfl
  rw [e]; exact hc
 ·simp only [List.mem_cons, List.not_mem_nil, or_false] at hu
  rw [hu]; rfl
 ·intro v' w' g1 g2 _ _
  refine h v' w' ?_ g2
  unfold OutS
  rw [List.length_append, List.map_append]
  exact g1
theorem two_set {W : World} {b : Nat} {T : TypeId} {x0 x1 : Value} (h : W.heap[b]? = some (.cells #[x0, x1] T (0, 0))) (y0 y1 : Value) : ((W.setCell ⟨b, 0, none⟩ y0).setCell ⟨b, 1, none⟩ y1).heap[b]? = some (.cells #[y0, y1] T (0, 0)) :=
 Go.heap_setCell_same _ b 1 _ _ y1 (Go.heap_setCell_same W b 0 _ _ y0 h)
def KeyPost (w : World) (q : Option (List ByteArray)) : Ending → World → Prop := fun e w' => (match q with
 | none => e = .returned (.agg #[.bool true, .slice none 0 0])
 | some l => ∃ A c, e = .returned (.agg #[.bool false, .slice A l.length c]) ∧ ListS w' l A) ∧ Below w.heap.size w w'
theorem keys_14 {K : Nat → Prop} {w : World} (s : ByteArray) (n : Int) (ps : List Ty) (fs : FsT) (vs : VsT) {cs : List Value} (hr : RepT K w (.mk 14 s n ps fs vs) cs) (hn : fs.length ≤ 1000000) :
  Calls Tryz.prog 26 #[.agg cs.toArray] w (KeyPost w (some (fs.map fun f => f.1))) := by
 obtain ⟨A, c, A', c', A'', c'', rfl, -, -, hF, -⟩ := hr.inv
 simp only [cells6T] at hr ⊢
 obtain ⟨w1, hw1⟩ : ∃ x, x = (w.alloc (.cells #[.int .i64 14, .string s, .int .i64 n, .slice A ps.length c, .slice A' fs.length c', .slice A'' vs.length c''] 26)).alloc (.cells #[.bool false, .slice none 0 0] 49) := ⟨_, rfl⟩
 obtain ⟨w2, hw2⟩ : ∃ x, x = w1.alloc (.cells #[.bool false, .slice none 0 0] 49) := ⟨_, rfl⟩
 obtain ⟨g, hg⟩ : ∃ g, g = w.heap.size + 1 := ⟨_, rfl⟩
 obtain ⟨g3, hg3⟩ : ∃ g, g = w.heap.size + 2 := ⟨_, rfl⟩
 have hb1 : Below w.heap.size w w1 := by rw [hw1]; exact ((Below.refl _ _).alloc (Nat.le_refl _) _).alloc (by simp) _
 have hs1 : w1.heap.size = w.heap.size + 2 := by rw [hw1]; simp
 have hb2 : Below w1.heap.size w1 w2 := by rw [hw2]; exact (Below.refl _ _).alloc (Nat.le_refl _) _
 have hs2 : w2.heap.size = w.heap.size + 3 := by rw [hw2, World.size_alloc, hs1]
 have hx0 : w1.heap[w.heap.size]? = some (.cells #[.int .i64 14, .string s, .int .i64 n, .slice A ps.length c, .slice A' fs.length c', .slice A'' vs.length c''] 26 (0, 0)) := by rw [hw1, Below.heap_alloc _ _ _ (by simp)]; exact heap_alloc_new w _
 have hx1 : w1.heap[g]? = some (.cells #[.bool false, .slice none 0 0] 49 (0, 0)) := by
  rw [hw1, hg]
  have h := heap_alloc_new (w.alloc (.cells #[.int .i64 14, .string s, .int .i64 n, .slice A ps.length c, .slice A' fs.length c', .slice A'' vs.length c''] 26)) (.cells #[.bool false, .slice none 0 0] 49)
  rw [World.size_alloc] at h
  exact h
 have hx3 : w2.heap[g3]? = some (.cells #[.bool false, .slice none 0 0] 49 (0, 0)) := by rw [hw2, hg3, ← hs1]; exact heap_alloc_new w1 _
 have HB1 := Hd hb1
 have HS1 := Hd hs1
 have HB2 := Hd hb2
 have HS2 := Hd hs2
 have HX0 := Hd (box_up hb2 (by omega) hx0)
 have HX1 := Hd hx1
 have HX3 := Hd hx3
 have HW1 := Hd hw1
 have HW2 := Hd hw2
 have HG := Hd hg
 have HG3 := Hd hg3
 have HF := Hd hF
 have HN := Hd hn
 have hlf := hF.shortF
 generalize hnm : fs.map (fun f => f.1) = names
 have HNM : Hid (names.length = fs.length ∧ ∀ i (h : i < fs.length), names.take (i + 1) = names.take i ++ [fs[i].1]) := Hd (by
  rw [← hnm]
  refine ⟨by simp, fun i h => ?_⟩
  rw [List.take_succ_eq_append_getElem (by simpa using h), List.getElem_map])
 have hyx := Ch hx0 0
 clear hr hb1 hs1 hb2 hs2 hx0 hx1 hx3 hw1 hw2 hg hg3 hF hn hnm hyx
 go_enter Tryz.func26, Tryz.ntmps26
 go_upto_region 1 with fail
 rw [← HW1.out, ← HG.out]
 have hx1 : w1.heap[w.heap.size]? = some (.cells #[.int .i64 14, .string s, .int .i64 n, .slice A ps.length c, .slice A' fs.length c', .slice A'' vs.length c''] 26 (0, 0)) := (HB2.out.block w.heap.size (by have := HS1.out; omega)).symm.trans HX0.out
 obtain ⟨x0, x1, x2, x3, x4, x5⟩ := cz6 hx1
 clear hx1 x1 x2 x3 x5
 go_upto_region 7 with fail
 have e3 : w1.heap.size = g3 := by rw [HS1.out, HG3.out]
 rw [← HW2.out, e3]
 have x4' := cell_stays HB2.out x4
 clear x0 x4
 have E3 := Hd e3
 clear e3
 go_wp2_with fail
 go_loopw [20] (fun v wr => ∃ (i : Nat) (A3 : Option Addr) (c3 : Nat), i ≤ fs.length ∧ v = .int .i64 i ∧ OutS (g3 + 1) wr (.slice A3 i c3) (names.take i) ∧ wr.heap[g3]? = some (.cells #[.bool false, .slice A3 i c3] 49 (0, 0)) ∧ Below w1.heap.size w1 wr ∧ w2.heap.size ≤ wr.heap.size) (fun v _ => fs.length - (intOf v).toNat)
 case atStart => exact ⟨0, none, 0, by omega, rfl, World.ownsRow_nil _ _ _ _, HX3.out, HB2.out, Nat.le_refl _⟩
 case round =>
  obtain ⟨i, A3, c3, hi, rfl, ho, hx3, hb, hsz⟩ := hrel
  have HO := Hd ho
  have HX := Hd hx3
  have HB := Hd hb
  have HSZ := Hd hsz
  have HBE := Hd (HB1.out.trans (hb.mono HB1.out.size))
  clear ho hb hsz
  by_cases hin : i < fs.length
  ·have t1 : decide ((i : Int) < (fs.length : Int)) = true := by simp; omega
   have wr2 : wrap64 ((i : Int) + 1) = ((i + 1 : Nat) : Int) := wrap_one (by omega)
   have HM := Hd (measI hin)
   have HIn : Hid (i + 1 ≤ fs.length) := Hd hin
   obtain ⟨b, o, hA, _, hat⟩ := HF.out.at (by omega)
   subst hA
   obtain ⟨hc0, hc1, hsz, ds, hds, hrep⟩ := hat i hin
   have HTk := Hd (HNM.out.2 i hin)
   generalize fs[i] = f at hc0 hc1 hds hrep HTk
   obtain ⟨nm, fl, t2⟩ := f
   obtain ⟨k2, s2, n2, ps2, fs2, vs2⟩ := t2
   obtain ⟨Aq, cq, Ag, cg, Ah, ch, rfl, -⟩ := hrep.inv
   have z0 : wr.cell? ⟨b, o + i * 8, none⟩ = some (.string nm) := cell_stays HBE.out hc0
   have z1 : wr.cell? ⟨b, o + i * 8 + 1, none⟩ = some (.int .i64 fl) := cell_stays HBE.out hc1
   have z2 : wr.cell? ⟨b, o + i * 8 + 2, none⟩ = some (.int .i64 k2) := cell_stays HBE.out (hds 0 _ rfl)
   have z3 : wr.cell? ⟨b, o + i * 8 + 3, none⟩ = some (.string s2) := cell_stays HBE.out (hds 1 _ rfl)
   have z4 : wr.cell? ⟨b, o + i * 8 + 4, none⟩ = some (.int .i64 n2) := cell_stays HBE.out (hds 2 _ rfl)
   have z5 : wr.cell? ⟨b, o + i * 8 + 5, none⟩ = some (.slice Aq ps2.length cq) := cell_stays HBE.out (hds 3 _ rfl)
   have z6 : wr.cell? ⟨b, o + i * 8 + 6, none⟩ = some (.slice Ag fs2.length cg) := cell_stays HBE.out (hds 4 _ rfl)
   have z7 : wr.cell? ⟨b, o + i * 8 + 7, none⟩ = some (.slice Ah vs2.length ch) := cell_stays HBE.out (hds 5 _ rfl)
   clear hi hat hc0 hc1 hds hrep hsz hx3
   go_upto_region 10 with fail
   generalize hW : wr.alloc (.cells #[.string nm, .int .i64 fl, .int .i64 k2, .string s2, .int .i64 n2, .slice Aq ps2.length cq, .slice Ag fs2.length cg, .slice Ah vs2.length ch] 37) = W
   have hbW : Below wr.heap.size wr W := by rw [← hW]; exact (Below.refl _ _).alloc (Nat.le_refl _) _
   have hlt3 : g3 < wr.heap.size := by have := HSZ.out; have := HS2.out; have := HG3.out; omega
   have hx5 : W.heap[wr.heap.size]? = some (.cells #[.string nm, .int .i64 fl, .int .i64 k2, .string s2, .int .i64 n2, .slice Aq ps2.length cq, .slice Ag fs2.length cg, .slice Ah vs2.length ch] 37 (0, 0)) := by rw [← hW]; exact heap_alloc_new wr _
   have hx3 := box_up hbW hlt3 HX.out
   have u0 := Ch hx5 0
   have q1 := Ch hx3 1
   simp only [List.getElem?_toArray, List.getElem?_cons_zero, List.getElem?_cons_succ] at u0 q1
   obtain ⟨W2, hW2⟩ : ∃ x, x = W.alloc (.cells #[.string nm] 9) := ⟨_, rfl⟩
   have hbW2 : Below W.heap.size W W2 := by rw [hW2]; exact (Below.refl _ _).alloc (Nat.le_refl _) _
   have HX32 := Hd (box_up hbW2 (by have := hbW.size; omega) hx3)
   have HOW := Hd ((HO.out.later hbW).later hbW2)
   have HC := Hd (show W2.cell? ⟨W.heap.size, 0, none⟩ = some (.string nm) by rw [hW2, Ch (heap_alloc_new W _)]; rfl)
   have HLT : Hid (g3 + 1 ≤ W2.heap.size) := Hd (by have := hbW.size; have := hbW2.size; omega)
   have HBW : Hid (Below w1.heap.size w1 W2 ∧ w2.heap.size ≤ W2.heap.size) := Hd ⟨HB.out.trans ((hbW.trans (hbW2.mono hbW.size)).mono HB.out.size), by have := HSZ.out; have := hbW.size; have := hbW2.size; omega⟩
   have HW2' := Hd hW2
   have HIL : Hid ((names.take i).length + 1 ≤ 1099511627776 ∧ (names.take i).length = i) := Hd (by
    have h1 := HNM.out.1
    have h2 := HN.out
    rw [List.length_take]
    exact ⟨by omega, by omega⟩)
   clear hW hbW hlt3 hx5 hx3 hW2 hbW2 z0 z1 z2 z3 z4 z5 z6 z7
   go_wp2_with (at_builtin; refine wpList_plain rfl fun Kx hK => ?_; rw [← HW2'.out]; go_loud (refine wp_append_str (B := g3 + 1) (gg := W.heap.size) (s := nm) (l := names.take i) _ _ rfl (by rfl) (by rfl) HOW.out HC.out HLT.out HIL.out.1 ?_))
   intro v3 w3 ho3 hg3x
   refine hK _ _ ?_
   clear hK Kx
   have hown : ∀ k, (Value.slice A3 i c3).ownBlock = some k → g3 + 1 ≤ k := fun k hk => (HOW.out.lt k hk).1
   have hx33 : w3.heap[g3]? = some (.cells #[.bool false, .slice A3 i c3] 49 (0, 0)) := (hg3x.block g3 (by have := HLT.out; omega) (fun e => by have := hown g3 e.symm; omega)).trans HX32.out
   have hb3 : Below w1.heap.size w1 w3 := HBW.out.1.grown hg3x HBW.out.1.size fun k hk => by have := hown k hk; have := E3.out; omega
   rw [← HTk.out] at ho3
   have hl3 : (names.take (i + 1)).length = i + 1 := by rw [List.length_take]; have := HNM.out.1; omega
   obtain ⟨A4, c4, hv4, -⟩ := OutS.list ho3 (by have := HN.out; omega)
   rw [hl3] at hv4
   subst hv4
   have r1 := Ch hx33 1
   have r0 := Lib.frozen_of_heap hx33 1
   simp only [List.getElem?_toArray, List.getElem?_cons_zero, List.getElem?_cons_succ] at r1
   have HX33 := Hd hx33
   have HB3 := Hd (And.intro hb3 (Nat.le_trans HBW.out.2 hg3x.size))
   have HO3 := Hd ho3
   clear hx33 hb3 ho3 hg3x u0 q1
   go_wp2_with fail
   have hset := Go.heap_setCell_same _ g3 1 _ _ (Value.slice A4 (i + 1) c4) HX33.out
   refine ⟨⟨i + 1, A4, c4, HIn.out, by first | rfl | rw [wr2], ?f1, hset, HB3.out.1.setCell (by show w1.heap.size ≤ g3; have := E3.out; omega) _, by rw [World.size_setCell]; exact HB3.out.2⟩, ?f2⟩
   case f1 =>
    refine ⟨HO3.out.1, ?_⟩
    rcases HO3.out.2 with hq | ⟨gq, cap, cur, hv, hgq, hh, rq⟩
    ·exact .inl hq
    ·exact .inr ⟨gq, cap, cur, hv, hgq, (Below.heap_setCell _ _ _ _ (show gq ≠ g3 by omega)).trans hh, rq⟩
   case f2 => first | exact HM.out | (rw [wr2]; exact HM.out)
  ·have t1 : decide ((i : Int) < (fs.length : Int)) = false := by simp; omega
   have hil : i = fs.length := by omega
   subst hil
   have hlen := HNM.out.1
   have HO2 : Hid (OutS (g3 + 1) wr (.slice A3 names.length c3) names) := Hd (by have h := HO.out; rw [← hlen, List.take_length] at h; exact h)
   have rb := box_up HB.out (by have := HG.out; have := HS1.out; omega) HX1.out
   have RB := Hd rb
   have q0 := Ch hx3 0
   have q1 := Ch hx3 1
   have u0 := Ch rb 0
   have u1 := Ch rb 1
   have z0 := Lib.frozen_of_heap rb 0
   have z1 := Lib.frozen_of_heap rb 1
   simp only [List.getElem?_toArray, List.getElem?_cons_zero, List.getElem?_cons_succ] at q0 q1 u0 u1
   clear rb hx3 hi
   go_wp2_with fail
   have rs := two_set RB.out (.bool false) (.slice A3 fs.length c3)
   have r0 := Ch rs 0
   have r1 := Ch rs 1
   simp only [List.getElem?_toArray, List.getElem?_cons_zero, List.getElem?_cons_succ] at r0 r1
   refine bodyPost_ret (v := .agg #[.bool false, .slice A3 fs.length c3]) (by simp [results, Tryz.results26, go_sem, r0, r1]) rfl ?_
   clear r0 r1 q0 q1 u0 u1 z0 z1
   refine ⟨⟨A3, c3, by rw [hlen], ?_⟩, (HBE.out.setCell (by show w.heap.size ≤ g; have := HG.out; omega) _).setCell (by show w.heap.size ≤ g; have := HG.out; omega) _⟩
   obtain ⟨A5, c5, hv5, hl5⟩ := HO2.out.list (by have := HN.out; omega)
   injection hv5 with hv5 _ _
   subst hv5
   rcases HO2.out.of with ⟨hv, hnil⟩ | ⟨gq, cq, hv, hgq, hsi⟩
   ·subst hnil; exact ⟨0, 0, fun h => absurd h (by simp), by simp, fun i h => absurd h (by simp)⟩
   ·injection hv with hv _ _
    subst hv
    have hne : gq ≠ g := by have := HG.out; have := HG3.out; omega
    exact (hsi.keep ((Below.heap_setCell _ _ _ _ hne).trans (Below.heap_setCell _ _ _ _ hne))).list (by have := HN.out; omega)
theorem of13 (k : Int) (w : World) : Calls Tryz.prog 13 #[.int .i64 k] w fun e w' => e = .returned (.agg #[.int .i64 k, .string ⟨#[]⟩, .int .i64 0, .slice none 0 0, .slice none 0 0, .slice none 0 0]) ∧ Below w.heap.size w w' := by
 go_enter Tryz.func13, Tryz.ntmps13
 go_wp2_with fail
 exact bodyPost_ret (v := .agg #[.int .i64 k, .string ⟨#[]⟩, .int .i64 0, .slice none 0 0, .slice none 0 0, .slice none 0 0]) (by simp [results, Tryz.results13, go_sem]) rfl ⟨rfl, (Below.refl _ _).alloc (Nat.le_refl _) _⟩
theorem str13 (s : ByteArray) (w : World) : Calls Tryz.prog 14 #[.string s] w fun e w' => e = .returned (.agg #[.int .i64 10, .string s, .int .i64 0, .slice none 0 0, .slice none 0 0, .slice none 0 0]) ∧ Below w.heap.size w w' := by
 go_enter Tryz.func14, Tryz.ntmps14
 go_wp2_with fail
 exact bodyPost_ret (v := .agg #[.int .i64 10, .string s, .int .i64 0, .slice none 0 0, .slice none 0 0, .slice none 0 0]) (by simp [results, Tryz.results14, go_sem]) rfl ⟨rfl, (Below.refl _ _).alloc (Nat.le_refl _) _⟩
theorem same13 {K K' : Nat → Prop} {w : World} {t q : Ty} {cs ds : List Value} (hr : RepT K w t cs) (hp : RepT K' w q ds) :
  Calls Tryz.prog 12 #[.agg cs.toArray, .agg ds.toArray] w fun e w' => e = .returned (.bool (ordT t q == 0)) ∧ Below w.heap.size w w' := by
 have KO := Hd fun wx (hx : Below w.heap.size w wx) => order_ref t K K' q wx cs ds (hr.later hx) (hp.later hx)
 generalize ordT t q = z at KO
 obtain ⟨k, s, n, ps, fs, vs⟩ := t
 obtain ⟨A, c, A', c', A'', c'', rfl, -⟩ := hr.inv
 obtain ⟨k3, s3, n3, ps3, fs3, vs3⟩ := q
 obtain ⟨A3, c3, B3, d3, C3, e3, rfl, -⟩ := hp.inv
 simp only [cells6T] at KO ⊢
 obtain ⟨w1, hw1⟩ : ∃ x, x = (w.alloc (.cells #[.int .i64 k, .string s, .int .i64 n, .slice A ps.length c, .slice A' fs.length c', .slice A'' vs.length c''] 26)).alloc (.cells #[.int .i64 k3, .string s3, .int .i64 n3, .slice A3 ps3.length c3, .slice B3 fs3.length d3, .slice C3 vs3.length e3] 26) := ⟨_, rfl⟩
 have hb1 : Below w.heap.size w w1 := by rw [hw1]; exact ((Below.refl _ _).alloc (Nat.le_refl _) _).alloc (by simp) _
 have hx0 : w1.heap[w.heap.size]? = some (.cells #[.int .i64 k, .string s, .int .i64 n, .slice A ps.length c, .slice A' fs.length c', .slice A'' vs.length c''] 26 (0, 0)) := by rw [hw1, Below.heap_alloc _ _ _ (by simp)]; exact heap_alloc_new w _
 have hy0 : w1.heap[w.heap.size + 1]? = some (.cells #[.int .i64 k3, .string s3, .int .i64 n3, .slice A3 ps3.length c3, .slice B3 fs3.length d3, .slice C3 vs3.length e3] 26 (0, 0)) := by
  rw [hw1]
  have h := heap_alloc_new (w.alloc (.cells #[.int .i64 k, .string s, .int .i64 n, .slice A ps.length c, .slice A' fs.length c', .slice A'' vs.length c''] 26)) (.cells #[.int .i64 k3, .string s3, .int .i64 n3, .slice A3 ps3.length c3, .slice B3 fs3.length d3, .slice C3 vs3.length e3] 26)
  rw [World.size_alloc] at h
  exact h
 have HB1 := Hd hb1
 have HX0 := Hd hx0
 have HY0 := Hd hy0
 have HW1 := Hd hw1
 clear hr hp hb1 hx0 hy0 hw1
 go_enter Tryz.func12, Tryz.ntmps12
 go_upto_region 1 with fail
 rw [← HW1.out]
 obtain ⟨x0, x1, x2, x3, x4, x5⟩ := cz6 HX0.out
 obtain ⟨y0, y1, y2, y3, y4, y5⟩ := cz6 HY0.out
 go_wp2_with fail
 refine (KO.out _ HB1.out).mono ?_
 rintro e w2 ⟨rfl, hg⟩
 have HB2 := Hd (HB1.out.trans (hg.below.mono HB1.out.size))
 clear hg KO x0 x1 x2 x3 x4 x5 y0 y1 y2 y3 y4 y5
 go_wp2_with fail
 go_ret
 exact ⟨rfl, HB2.out⟩
theorem small13 {K : Nat → Prop} {w : World} {t : Ty} {cs : List Value} (hr : RepT K w t cs) :
  Calls Tryz.prog 5 #[.agg cs.toArray] w fun e w' => e = .returned (.bool (decide (cntT t ≤ 4096))) ∧ Below w.heap.size w w' := by
 have hN := nod_any t
 have KN := Hd fun wx (hx : Below w.heap.size w wx) => hN K wx cs (hr.later hx)
 obtain ⟨k, s, n, ps, fs, vs⟩ := t
 obtain ⟨A, c, A', c', A'', c'', rfl, -⟩ := hr.inv
 simp only [cells6T] at KN ⊢
 obtain ⟨w1, hw1⟩ : ∃ x, x = w.alloc (.cells #[.int .i64 k, .string s, .int .i64 n, .slice A ps.length c, .slice A' fs.length c', .slice A'' vs.length c''] 26) := ⟨_, rfl⟩
 have hb1 : Below w.heap.size w w1 := by rw [hw1]; exact (Below.refl _ _).alloc (Nat.le_refl _) _
 have hx0 : w1.heap[w.heap.size]? = some (.cells #[.int .i64 k, .string s, .int .i64 n, .slice A ps.length c, .slice A' fs.length c', .slice A'' vs.length c''] 26 (0, 0)) := by rw [hw1]; exact heap_alloc_new w _
 have HB1 := Hd hb1
 have HX0 := Hd hx0
 have HW1 := Hd hw1
 generalize hq : cntT (.mk k s n ps fs vs) = q at KN
 have t1 : decide ((capN q : Int) ≤ 4096) = decide (q ≤ 4096) := by rw [decide_eq_decide]; unfold capN; omega
 have HT := Hd t1
 generalize decide (q ≤ 4096) = r at HT t1 ⊢
 clear hr hN hb1 hx0 hw1 hq
 go_enter Tryz.func5, Tryz.ntmps5
 go_upto_region 1 with fail
 rw [← HW1.out]
 obtain ⟨x0, x1, x2, x3, x4, x5⟩ := cz6 HX0.out
 go_wp2_with fail
 refine (KN.out _ HB1.out).mono ?_
 rintro e w2 ⟨rfl, hg⟩
 have HB2 := Hd (HB1.out.trans (hg.below.mono HB1.out.size))
 clear x0 x1 x2 x3 x4 x5 hg KN
 go_wp2_with fail
 go_ret
 exact ⟨by first | rfl | rw [HT.out] | (rw [← HT.out]; rfl), HB2.out⟩
def allR (l : List Ty) : List Ty := if hasK 3 (nonN l) then besT 3 (nonN l) else if hasK 2 (nonN l) then besT 2 (nonN l) else nonN l
def dropR (n s : Bool) (t : Ty) : Bool := t.k == 9 && n || t.k == 10 && s
def keptR (l : List Ty) : List Ty := (allR l).filter fun t => !dropR (hasK 7 (allR l)) (hasK 8 (allR l)) t
theorem hasK_iff {k : Int} {l : List Ty} : hasK k l = true ↔ ∃ t ∈ l, t.k = k := by
 unfold hasK; rw [List.any_eq_true]
 exact ⟨fun ⟨t, h, e⟩ => ⟨t, h, by simpa using e⟩, fun ⟨t, h, e⟩ => ⟨t, h, by simpa using e⟩⟩
theorem mem_nonN {l : List Ty} {t : Ty} : t ∈ nonN l ↔ t ∈ flatU l ∧ t.k ≠ 1 := by
 unfold nonN; rw [List.mem_filter]; simp
theorem hasK_nonN {l : List Ty} {k : Int} (hk : k ≠ 1) : hasK k (nonN l) = hasK k (flatU l) := by
 rw [Bool.eq_iff_iff, hasK_iff, hasK_iff]
 exact ⟨fun ⟨t, h, e⟩ => ⟨t, (mem_nonN.1 h).1, e⟩, fun ⟨t, h, e⟩ => ⟨t, mem_nonN.2 ⟨h, by rw [e]; exact hk⟩, e⟩⟩
theorem mem_besT {k : Int} {l : List Ty} {t : Ty} : t ∈ besT k l ↔ t = tyK k ∨ (t ∈ l ∧ t.k ≠ k ∧ infT t = true) := by
 unfold besT; rw [List.mem_cons, List.mem_filter]; simp
def PlainK (l : List Ty) : Prop := ∀ t ∈ l, (t.k = 3 → t = tyK 3) ∧ (t.k = 2 → t = tyK 2) ∧ (t.k = 7 ∨ t.k = 8 ∨ t.k = 9 ∨ t.k = 10 → infT t = false)
theorem tyK_k (k : Int) : (tyK k).k = k := rfl
theorem has_of {l : List Ty} {t : Ty} (h : t ∈ l) : hasK t.k l = true := hasK_iff.2 ⟨t, h, rfl⟩
theorem keptR_mem {l : List Ty} (hP : PlainK (flatU l)) (t : Ty) : t ∈ keptR l ↔ t ∈ keptU l := by
 unfold keptR keptU
 rw [List.mem_filter, List.mem_filter]
 have n3 : hasK 3 (nonN l) = hasK 3 (flatU l) := hasK_nonN (by decide)
 have n2 : hasK 2 (nonN l) = hasK 2 (flatU l) := hasK_nonN (by decide)
 have hno : ∀ k, (k = 7 ∨ k = 8) → ∀ q, (q = 3 ∨ q = 2) → hasK k (besT q (nonN l)) = false := by
  intro k hk q hq
  rw [← Bool.not_eq_true, hasK_iff]
  rintro ⟨x, hx, e⟩
  rcases mem_besT.1 hx with rfl | ⟨h1, -, h3⟩
  ·rw [tyK_k] at e; omega
  ·rw [(hP x (mem_nonN.1 h1).1).2.2 (by omega)] at h3; exact absurd h3 (by simp)
 unfold allR
 rw [n3, n2]
 cases h3 : hasK 3 (flatU l) with
 | true =>
  simp only [if_true]
  rw [hno 7 (.inl rfl) 3 (.inl rfl), hno 8 (.inr rfl) 3 (.inl rfl), mem_besT, mem_nonN]
  obtain ⟨x, hx, ex⟩ := hasK_iff.1 h3
  have hx3 := (hP x hx).1 ex
  subst hx3
  simp only [dropR, Bool.and_false, Bool.or_false, Bool.not_false, and_true]
  unfold keepT kindsOf
  rw [h3]
  constructor
  ·rintro (rfl | ⟨⟨h1, h4⟩, h5, h6⟩)
   ·exact ⟨hx, by rw [tyK_k]; rfl⟩
   ·refine ⟨h1, ?_⟩
    rw [if_neg h4, if_neg h5]
    simp [h6]
  ·rintro ⟨h1, h2⟩
   by_cases e1 : t.k = 1
   ·rw [if_pos e1] at h2; exact absurd h2 (by simp)
   by_cases e3 : t.k = 3
   ·exact .inl ((hP t h1).1 e3)
   ·rw [if_neg e1, if_neg e3] at h2
    simp at h2
    exact .inr ⟨⟨h1, e1⟩, e3, h2⟩
 | false =>
  simp only [Bool.false_eq_true, if_false]
  have e3 : t ∈ flatU l → t.k ≠ 3 := fun h e => by have := has_of h; rw [e, h3] at this; exact absurd this (by simp)
  cases h2 : hasK 2 (flatU l) with
  | true =>
   simp only [if_true]
   rw [hno 7 (.inl rfl) 2 (.inr rfl), hno 8 (.inr rfl) 2 (.inr rfl), mem_besT, mem_nonN]
   obtain ⟨x, hx, ex⟩ := hasK_iff.1 h2
   have hx2 := (hP x hx).2.1 ex
   subst hx2
   simp only [dropR, Bool.and_false, Bool.or_false, Bool.not_false, and_true]
   unfold keepT kindsOf
   rw [h3, h2]
   constructor
   ·rintro (rfl | ⟨⟨h1, h4⟩, h5, h6⟩)
    ·exact ⟨hx, by rw [tyK_k]; rfl⟩
    ·refine ⟨h1, ?_⟩
     rw [if_neg h4, if_neg (e3 h1)]
     simp [h5, h6]
   ·rintro ⟨h1, hk⟩
    by_cases e1 : t.k = 1
    ·rw [if_pos e1] at hk; exact absurd hk (by simp)
    by_cases e2 : t.k = 2
    ·exact .inl ((hP t h1).2.1 e2)
    ·rw [if_neg e1, if_neg (e3 h1)] at hk
     simp [e2] at hk
     exact .inr ⟨⟨h1, e1⟩, e2, hk⟩
  | false =>
   simp only [Bool.false_eq_true, if_false]
   have e2 : t ∈ flatU l → t.k ≠ 2 := fun h e => by have := has_of h; rw [e, h2] at this; exact absurd this (by simp)
   rw [hasK_nonN (by decide), hasK_nonN (by decide), mem_nonN]
   unfold keepT kindsOf dropR
   rw [h3, h2]
   constructor
   ·rintro ⟨⟨h1, h4⟩, h5⟩
    refine ⟨h1, ?_⟩
    rw [if_neg h4, if_neg (e3 h1), if_neg (by simp [e2 h1])]
    by_cases k9 : t.k = 9 <;> by_cases k10 : t.k = 10 <;> simp_all
   ·rintro ⟨h1, hk⟩
    by_cases e1 : t.k = 1
    ·rw [if_pos e1] at hk; exact absurd hk (by simp)
    rw [if_neg e1, if_neg (e3 h1), if_neg (by simp [e2 h1])] at hk
    refine ⟨⟨h1, e1⟩, ?_⟩
    by_cases k9 : t.k = 9 <;> by_cases k10 : t.k = 10 <;> simp_all
theorem unionR {l : List Ty} (hP : PlainK (flatU l)) : shutU (sortT (keptR l)) = unionT l := by
 unfold unionT
 rw [sortT_of (asc_sortT (keptU l)) fun x => by rw [mem_sortT, keptR_mem hP]]
theorem has_src {K : Nat → Prop} {w0 w : World} {l : List Ty} {A : Option Addr} {c : Nat} (hL : SrcT K w0 w A l) (k : Int) :
  Calls Tryz.prog 63 #[.slice A l.length c, .int .i64 k] w fun e w' => e = .returned (.bool (hasK k l)) ∧ w' = w := by
 obtain ⟨b, hAA, hll, hat0⟩ := hL
 have HAA := Hd hAA
 have HAT := Hd hat0
 clear hAA hat0
 go_enter Tryz.func63, Tryz.ntmps63
 go_wp2_with fail
 go_loopw [5] (fun v wr => ∃ (i : Nat), i ≤ l.length ∧ v = .int .i64 i ∧ hasK k l = hasK k (l.drop i) ∧ wr = w) (fun v _ => l.length - (intOf v).toNat)
 case atStart => exact ⟨0, by omega, rfl, by rw [List.drop_zero], rfl⟩
 case round =>
  obtain ⟨i, hi, rfl, he, rfl⟩ := hrel
  have HE := Hd he
  clear he
  by_cases hin : i < l.length
  ·have t1 : decide ((i : Int) < (l.length : Int)) = true := by simp; omega
   have wr2 : wrap64 ((i : Int) + 1) = ((i + 1 : Nat) : Int) := wrap_one (by omega)
   have hA := HAA.out (by omega)
   subst hA
   obtain ⟨q, hq, hcq⟩ : ∃ q, (l[i]'hin).k = q ∧ wr.cell? ⟨b, i * 6, none⟩ = some (.int .i64 q) := by
    obtain ⟨cs, h1, h2⟩ := HAT.out i hin
    generalize l[i] = t at h1
    obtain ⟨k, s, n, ps, fs, vs⟩ := t
    obtain ⟨_, _, _, _, _, _, rfl, -⟩ := h1.inv
    exact ⟨k, rfl, h2 0 _ rfl⟩
   have HS : Hid (hasK k (l.drop i) = ((l[i]'hin).k == k || hasK k (l.drop (i + 1)))) := Hd (by rw [List.drop_eq_getElem_cons hin]; rfl)
   have HM := Hd (measI hin)
   have HIn : Hid (i + 1 ≤ l.length) := Hd hin
   by_cases hk : q = k
   ·have HK : Hid (((l[i]'hin).k == k) = true) := Hd (by rw [hq]; simpa using hk)
    have e13 : (q == k) = true := by simpa using hk
    clear hi hq hk
    go_wp2_with fail
    go_ret
    exact ⟨by rw [HE.out, HS.out, HK.out]; rfl, rfl⟩
   ·have HK : Hid (((l[i]'hin).k == k) = false) := Hd (by rw [hq]; simpa using hk)
    have e13 : (q == k) = false := by simpa using hk
    clear hi hq hk
    go_wp2_with fail
    refine ⟨⟨i + 1, HIn.out, by first | rfl | rw [wr2], by rw [HE.out, HS.out, HK.out]; rfl, by first | rfl | trivial⟩, ?_⟩
    first | exact HM.out | (rw [wr2]; exact HM.out)
  ·have t1 : decide ((i : Int) < (l.length : Int)) = false := by simp; omega
   have HE1 : Hid (hasK k l = false) := Hd (by rw [HE.out, List.drop_eq_nil_of_le (by omega)]; rfl)
   clear hi
   go_wp2_with fail
   go_ret
   exact ⟨by rw [HE1.out]; rfl, rfl⟩
end Go.Proofs.YteakkjhcdpbidaaGreatDoor
