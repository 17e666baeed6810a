import Derived.Test.YtfchnfnifpopnaaGreatDoorMa0
import Derived.Test.YtfchnfnifpopnaaGreatDoorMa20
import Derived.Test.YtfchnfnifpopnaaGreatDoorMa39
namespace Go.Proofs.YtfchnfnifpopnaaGreatDoor
open Go.RowKit
theorem wp_append_str {B : Nat} {w : World} {v : Value} {l : List ByteArray} {s : ByteArray} {gg : Nat} {o : Oper} {a : Act} {Kc : Act → World → Prop} {Q : Exit → Act → World → Prop} (sl x : Operand)
  (ho : o.op = .call { callee := .builtin .append, args := #[sl, x], argTypes := #[56, 56] }) (hs : a.eval sl = v) (hx : a.eval x = .slice (some ⟨gg, 0, none⟩) 1 1)
  (hO : OutS B w v l) (hc : w.cell? ⟨gg, 0, none⟩ = some (.string s)) (hB : B ≤ w.heap.size) (hbd : l.length + 1 ≤ 1099511627776)
  (h : ∀ v' w', OutS B w' v' (l ++ [s]) → w.grownBy w' v.ownBlock → Kc (a.put o.dst v') w') :
  Oper.wp Tryz.prog o a w Kc Q := by
 obtain ⟨i0, hi0, hz0, hz1, hz2⟩ := partsT infoStr
 refine wp_append_own_at sl x 56 ho B 9 i0 (.string ⟨#[]⟩) 1 16 Tryz.underlying56 hi0 hz0 hz1 hz2 rfl (by decide) v l.length _ hs hO ⟨gg, 0, none⟩ 1 1 [.string s] hx rfl (fun j u hj => ?_) (fun u hu => ?_) (by unfold maxLen; omega) (by omega) hB ?_
 ·have hj0 : j = 0 := by have := (List.getElem?_eq_some_iff.1 hj).1; simp at this; exact this
  subst hj0
  obtain rfl : Value.string s = u := by simpa using hj
  have e : ((⟨gg, 0, none⟩ : Addr).add 0) = ⟨gg, 0, none⟩ := rfl
  rw [e]; exact hc
 ·simp only [List.mem_cons, List.not_mem_nil, or_false] at hu
  rw [hu]; rfl
 ·intro v' w' g1 g2 _ _
  refine h v' w' ?_ g2
  unfold OutS
  rw [List.length_append, List.map_append]
  exact g1
theorem two_set {W : World} {b : Nat} {T : TypeId} {x0 x1 : Value} (h : W.heap[b]? = some (.cells #[x0, x1] T (0, 0))) (y0 y1 : Value) : ((W.setCell ⟨b, 0, none⟩ y0).setCell ⟨b, 1, none⟩ y1).heap[b]? = some (.cells #[y0, y1] T (0, 0)) :=
 Go.heap_setCell_same _ b 1 _ _ y1 (Go.heap_setCell_same W b 0 _ _ y0 h)
def KeyPost (w : World) (q : Option (List ByteArray)) : Ending → World → Prop := fun e w' => (match q with
 | none => e = .returned (.agg #[.bool true, .slice none 0 0])
 | some l => ∃ A c, e = .returned (.agg #[.bool false, .slice A l.length c]) ∧ ListS w' l A) ∧ Below w.heap.size w w'
set_option maxRecDepth 100000 in
set_option maxHeartbeats 32000000 in
theorem keys_14 {K : Nat → Prop} {w : World} (s : ByteArray) (n : Int) (ps : List Ty) (fs : List (ByteArray × Int × Ty)) (vs : List (ByteArray × List Ty)) {cs : List Value} (hr : RepT K w (.mk 14 s n ps fs vs) cs) (hn : fs.length ≤ 1000000) :
  Calls Tryz.prog 33 #[.agg cs.toArray] w (KeyPost w (some (fs.map fun f => f.1))) := by
 obtain ⟨A, c, A', c', A'', c'', rfl, -, -, hF, -⟩ := hr.inv
 simp only [cells6T] at hr ⊢
 obtain ⟨w1, hw1⟩ : ∃ x, x = (w.alloc (.cells #[.int .i64 14, .string s, .int .i64 n, .slice A ps.length c, .slice A' fs.length c', .slice A'' vs.length c''] 26)).alloc (.cells #[.bool false, .slice none 0 0] 58) := ⟨_, rfl⟩
 obtain ⟨w2, hw2⟩ : ∃ x, x = w1.alloc (.cells #[.bool false, .slice none 0 0] 58) := ⟨_, rfl⟩
 obtain ⟨g, hg⟩ : ∃ g, g = w.heap.size + 1 := ⟨_, rfl⟩
 obtain ⟨g3, hg3⟩ : ∃ g, g = w.heap.size + 2 := ⟨_, rfl⟩
 have hb1 : Below w.heap.size w w1 := by rw [hw1]; exact ((Below.refl _ _).alloc (Nat.le_refl _) _).alloc (by simp) _
 have hs1 : w1.heap.size = w.heap.size + 2 := by rw [hw1]; simp
 have hb2 : Below w1.heap.size w1 w2 := by rw [hw2]; exact (Below.refl _ _).alloc (Nat.le_refl _) _
 have hs2 : w2.heap.size = w.heap.size + 3 := by rw [hw2, World.size_alloc, hs1]
 have hx0 : w1.heap[w.heap.size]? = some (.cells #[.int .i64 14, .string s, .int .i64 n, .slice A ps.length c, .slice A' fs.length c', .slice A'' vs.length c''] 26 (0, 0)) := by rw [hw1, Below.heap_alloc _ _ _ (by simp)]; exact heap_alloc_new w _
 have hx1 : w1.heap[g]? = some (.cells #[.bool false, .slice none 0 0] 58 (0, 0)) := by
  rw [hw1, hg]
  have h := heap_alloc_new (w.alloc (.cells #[.int .i64 14, .string s, .int .i64 n, .slice A ps.length c, .slice A' fs.length c', .slice A'' vs.length c''] 26)) (.cells #[.bool false, .slice none 0 0] 58)
  rw [World.size_alloc] at h
  exact h
 have hx3 : w2.heap[g3]? = some (.cells #[.bool false, .slice none 0 0] 58 (0, 0)) := by rw [hw2, hg3, ← hs1]; exact heap_alloc_new w1 _
 have HB1 := Lib.hid hb1
 have HS1 := Lib.hid hs1
 have HB2 := Lib.hid hb2
 have HS2 := Lib.hid hs2
 have HX0 := Lib.hid (box_up hb2 (by omega) hx0)
 have HX1 := Lib.hid hx1
 have HX3 := Lib.hid hx3
 have HW1 := Lib.hid hw1
 have HW2 := Lib.hid hw2
 have HG := Lib.hid hg
 have HG3 := Lib.hid hg3
 have HF := Lib.hid hF
 have HN := Lib.hid hn
 have hlf := hF.shortF
 generalize hnm : fs.map (fun f => f.1) = names
 have HNM : Hid (names.length = fs.length ∧ ∀ i (h : i < fs.length), names.take (i + 1) = names.take i ++ [fs[i].1]) := Lib.hid (by
  rw [← hnm]
  refine ⟨by simp, fun i h => ?_⟩
  rw [List.take_succ_eq_append_getElem (by simpa using h), List.getElem_map])
 have hyx := Lib.cell_of_heap hx0 0
 clear hr hb1 hs1 hb2 hs2 hx0 hx1 hx3 hw1 hw2 hg hg3 hF hn hnm hyx
 go_enter Tryz.func33, Tryz.ntmps33
 go_upto_region 1 with fail
 rw [← HW1.out, ← HG.out]
 have hx1 : w1.heap[w.heap.size]? = some (.cells #[.int .i64 14, .string s, .int .i64 n, .slice A ps.length c, .slice A' fs.length c', .slice A'' vs.length c''] 26 (0, 0)) := (HB2.out.block w.heap.size (by have := HS1.out; omega)).symm.trans HX0.out
 obtain ⟨x0, x1, x2, x3, x4, x5⟩ := cz6 hx1
 clear hx1 x1 x2 x3 x5
 go_upto_region 7 with fail
 have e3 : w1.heap.size = g3 := by rw [HS1.out, HG3.out]
 rw [← HW2.out, e3]
 have x4' := cell_stays HB2.out x4
 clear x0 x4
 have E3 := Lib.hid e3
 clear e3
 go_wp2_with fail
 go_loopw [20] (fun v wr => ∃ (i : Nat) (A3 : Option Addr) (c3 : Nat), i ≤ fs.length ∧ v = .int .i64 i ∧ OutS (g3 + 1) wr (.slice A3 i c3) (names.take i) ∧ wr.heap[g3]? = some (.cells #[.bool false, .slice A3 i c3] 58 (0, 0)) ∧ Below w1.heap.size w1 wr ∧ w2.heap.size ≤ wr.heap.size) (fun v _ => fs.length - (intOf v).toNat)
 case atStart => exact ⟨0, none, 0, by omega, rfl, World.ownsRow_nil _ _ _ _, HX3.out, HB2.out, Nat.le_refl _⟩
 case round =>
  obtain ⟨i, A3, c3, hi, rfl, ho, hx3, hb, hsz⟩ := hrel
  have HO := Lib.hid ho
  have HX := Lib.hid hx3
  have HB := Lib.hid hb
  have HSZ := Lib.hid hsz
  have HBE := Lib.hid (HB1.out.trans (hb.mono HB1.out.size))
  clear ho hb hsz
  by_cases hin : i < fs.length
  ·have t1 : decide ((i : Int) < (fs.length : Int)) = true := by simp; omega
   have wr2 : wrap64 ((i : Int) + 1) = ((i + 1 : Nat) : Int) := wrap_one (by omega)
   have HM := Lib.hid (measI hin)
   have HIn : Hid (i + 1 ≤ fs.length) := Lib.hid hin
   obtain ⟨b, o, hA, _, hat⟩ := HF.out.at (by omega)
   subst hA
   obtain ⟨hc0, hc1, hsz, ds, hds, hrep⟩ := hat i hin
   have HTk := Lib.hid (HNM.out.2 i hin)
   generalize fs[i] = f at hc0 hc1 hds hrep HTk
   obtain ⟨nm, fl, t2⟩ := f
   obtain ⟨k2, s2, n2, ps2, fs2, vs2⟩ := t2
   obtain ⟨Aq, cq, Ag, cg, Ah, ch, rfl, -⟩ := hrep.inv
   have z0 : wr.cell? ⟨b, o + i * 8, none⟩ = some (.string nm) := cell_stays HBE.out hc0
   have z1 : wr.cell? ⟨b, o + i * 8 + 1, none⟩ = some (.int .i64 fl) := cell_stays HBE.out hc1
   have z2 : wr.cell? ⟨b, o + i * 8 + 2, none⟩ = some (.int .i64 k2) := cell_stays HBE.out (hds 0 _ rfl)
   have z3 : wr.cell? ⟨b, o + i * 8 + 3, none⟩ = some (.string s2) := cell_stays HBE.out (hds 1 _ rfl)
   have z4 : wr.cell? ⟨b, o + i * 8 + 4, none⟩ = some (.int .i64 n2) := cell_stays HBE.out (hds 2 _ rfl)
   have z5 : wr.cell? ⟨b, o + i * 8 + 5, none⟩ = some (.slice Aq ps2.length cq) := cell_stays HBE.out (hds 3 _ rfl)
   have z6 : wr.cell? ⟨b, o + i * 8 + 6, none⟩ = some (.slice Ag fs2.length cg) := cell_stays HBE.out (hds 4 _ rfl)
   have z7 : wr.cell? ⟨b, o + i * 8 + 7, none⟩ = some (.slice Ah vs2.length ch) := cell_stays HBE.out (hds 5 _ rfl)
   clear hi hat hc0 hc1 hds hrep hsz hx3
   go_upto_region 10 with fail
   generalize hW : wr.alloc (.cells #[.string nm, .int .i64 fl, .int .i64 k2, .string s2, .int .i64 n2, .slice Aq ps2.length cq, .slice Ag fs2.length cg, .slice Ah vs2.length ch] 34) = W
   have hbW : Below wr.heap.size wr W := by rw [← hW]; exact (Below.refl _ _).alloc (Nat.le_refl _) _
   have hlt3 : g3 < wr.heap.size := by have := HSZ.out; have := HS2.out; have := HG3.out; omega
   have hx5 : W.heap[wr.heap.size]? = some (.cells #[.string nm, .int .i64 fl, .int .i64 k2, .string s2, .int .i64 n2, .slice Aq ps2.length cq, .slice Ag fs2.length cg, .slice Ah vs2.length ch] 34 (0, 0)) := by rw [← hW]; exact heap_alloc_new wr _
   have hx3 := box_up hbW hlt3 HX.out
   have u0 := Lib.cell_of_heap hx5 0
   have q1 := Lib.cell_of_heap hx3 1
   simp only [List.getElem?_toArray, List.getElem?_cons_zero, List.getElem?_cons_succ] at u0 q1
   obtain ⟨W2, hW2⟩ : ∃ x, x = W.alloc (.cells #[.string nm] 9) := ⟨_, rfl⟩
   have hbW2 : Below W.heap.size W W2 := by rw [hW2]; exact (Below.refl _ _).alloc (Nat.le_refl _) _
   have HX32 := Lib.hid (box_up hbW2 (by have := hbW.size; omega) hx3)
   have HOW := Lib.hid ((HO.out.later hbW).later hbW2)
   have HC := Lib.hid (show W2.cell? ⟨W.heap.size, 0, none⟩ = some (.string nm) by rw [hW2, Lib.cell_of_heap (heap_alloc_new W _)]; rfl)
   have HLT : Hid (g3 + 1 ≤ W2.heap.size) := Lib.hid (by have := hbW.size; have := hbW2.size; omega)
   have HBW : Hid (Below w1.heap.size w1 W2 ∧ w2.heap.size ≤ W2.heap.size) := Lib.hid ⟨HB.out.trans ((hbW.trans (hbW2.mono hbW.size)).mono HB.out.size), by have := HSZ.out; have := hbW.size; have := hbW2.size; omega⟩
   have HW2' := Lib.hid hW2
   have HIL : Hid ((names.take i).length + 1 ≤ 1099511627776 ∧ (names.take i).length = i) := Lib.hid (by
    have h1 := HNM.out.1
    have h2 := HN.out
    rw [List.length_take]
    exact ⟨by omega, by omega⟩)
   clear hW hbW hlt3 hx5 hx3 hW2 hbW2 z0 z1 z2 z3 z4 z5 z6 z7
   go_wp2_with (at_builtin; refine wpList_plain rfl fun Kx hK => ?_; rw [← HW2'.out]; go_loud (refine wp_append_str (B := g3 + 1) (gg := W.heap.size) (s := nm) (l := names.take i) _ _ rfl (by rfl) (by rfl) HOW.out HC.out HLT.out HIL.out.1 ?_))
   intro v3 w3 ho3 hg3x
   refine hK _ _ ?_
   clear hK Kx
   have hown : ∀ k, (Value.slice A3 i c3).ownBlock = some k → g3 + 1 ≤ k := fun k hk => (HOW.out.lt k hk).1
   have hx33 : w3.heap[g3]? = some (.cells #[.bool false, .slice A3 i c3] 58 (0, 0)) := (hg3x.block g3 (by have := HLT.out; omega) (fun e => by have := hown g3 e.symm; omega)).trans HX32.out
   have hb3 : Below w1.heap.size w1 w3 := HBW.out.1.grown hg3x HBW.out.1.size fun k hk => by have := hown k hk; have := E3.out; omega
   rw [← HTk.out] at ho3
   have hl3 : (names.take (i + 1)).length = i + 1 := by rw [List.length_take]; have := HNM.out.1; omega
   obtain ⟨A4, c4, hv4, -⟩ := OutS.list ho3 (by have := HN.out; omega)
   rw [hl3] at hv4
   subst hv4
   have r1 := Lib.cell_of_heap hx33 1
   have r0 := Lib.frozen_of_heap hx33 1
   simp only [List.getElem?_toArray, List.getElem?_cons_zero, List.getElem?_cons_succ] at r1
   have HX33 := Lib.hid hx33
   have HB3 := Lib.hid (And.intro hb3 (Nat.le_trans HBW.out.2 hg3x.size))
   have HO3 := Lib.hid ho3
   clear hx33 hb3 ho3 hg3x u0 q1
   go_wp2_with fail
   have hset := Go.heap_setCell_same _ g3 1 _ _ (Value.slice A4 (i + 1) c4) HX33.out
   refine ⟨⟨i + 1, A4, c4, HIn.out, by first | rfl | rw [wr2], ?f1, hset, HB3.out.1.setCell (by show w1.heap.size ≤ g3; have := E3.out; omega) _, by rw [World.size_setCell]; exact HB3.out.2⟩, ?f2⟩
   case f1 =>
    refine ⟨HO3.out.1, ?_⟩
    rcases HO3.out.2 with hq | ⟨gq, cap, cur, hv, hgq, hh, rq⟩
    ·exact .inl hq
    ·exact .inr ⟨gq, cap, cur, hv, hgq, (Below.heap_setCell _ _ _ _ (show gq ≠ g3 by omega)).trans hh, rq⟩
   case f2 => first | exact HM.out | (rw [wr2]; exact HM.out)
  ·have t1 : decide ((i : Int) < (fs.length : Int)) = false := by simp; omega
   have hil : i = fs.length := by omega
   subst hil
   have hlen := HNM.out.1
   have HO2 : Hid (OutS (g3 + 1) wr (.slice A3 names.length c3) names) := Lib.hid (by have h := HO.out; rw [← hlen, List.take_length] at h; exact h)
   have rb := box_up HB.out (by have := HG.out; have := HS1.out; omega) HX1.out
   have RB := Lib.hid rb
   have q0 := Lib.cell_of_heap hx3 0
   have q1 := Lib.cell_of_heap hx3 1
   have u0 := Lib.cell_of_heap rb 0
   have u1 := Lib.cell_of_heap rb 1
   have z0 := Lib.frozen_of_heap rb 0
   have z1 := Lib.frozen_of_heap rb 1
   simp only [List.getElem?_toArray, List.getElem?_cons_zero, List.getElem?_cons_succ] at q0 q1 u0 u1
   clear rb hx3 hi
   go_wp2_with fail
   have rs := two_set RB.out (.bool false) (.slice A3 fs.length c3)
   have r0 := Lib.cell_of_heap rs 0
   have r1 := Lib.cell_of_heap rs 1
   simp only [List.getElem?_toArray, List.getElem?_cons_zero, List.getElem?_cons_succ] at r0 r1
   refine bodyPost_ret (v := .agg #[.bool false, .slice A3 fs.length c3]) (by simp [results, Tryz.results33, go_sem, r0, r1]) rfl ?_
   clear r0 r1 q0 q1 u0 u1 z0 z1
   refine ⟨⟨A3, c3, by rw [hlen], ?_⟩, (HBE.out.setCell (by show w.heap.size ≤ g; have := HG.out; omega) _).setCell (by show w.heap.size ≤ g; have := HG.out; omega) _⟩
   obtain ⟨A5, c5, hv5, hl5⟩ := HO2.out.list (by have := HN.out; omega)
   injection hv5 with hv5 _ _
   subst hv5
   rcases HO2.out.of with ⟨hv, hnil⟩ | ⟨gq, cq, hv, hgq, hsi⟩
   ·subst hnil; exact ⟨0, 0, fun h => absurd h (by simp), by simp, fun i h => absurd h (by simp)⟩
   ·injection hv with hv _ _
    subst hv
    have hne : gq ≠ g := by have := HG.out; have := HG3.out; omega
    exact (hsi.keep ((Below.heap_setCell _ _ _ _ hne).trans (Below.heap_setCell _ _ _ _ hne))).list (by have := HN.out; omega)
theorem rep_str (K : Nat → Prop) (w : World) (s : ByteArray) (hs : s.size ≤ 1000000000000000) : RepT K w (strT s) [.int .i64 10, .string s, .int .i64 0, .slice none 0 0, .slice none 0 0, .slice none 0 0] :=
 RepT.of hs ⟨⟨0, 0, ⟨by simp, by decide, fun _ => rfl, fun h => absurd h (by simp)⟩, fun i h => absurd h (by simp)⟩⟩ ⟨⟨0, 0, ⟨by simp, by decide, fun _ => rfl, fun h => absurd h (by simp)⟩, fun i h => absurd h (by simp)⟩⟩ ⟨⟨0, 0, ⟨by simp, by decide, fun _ => rfl, fun h => absurd h (by simp)⟩, fun i h => absurd h (by simp)⟩⟩
theorem wp_append_one {K : Nat → Prop} {w0 w : World} {v : Value} {ts : List Ty} {t : Ty} {cs : List Value} {gg : Nat} {o : Oper} {a : Act} {Kc : Act → World → Prop} {Q : Exit → Act → World → Prop} (sl x : Operand)
  (ho : o.op = .call { callee := .builtin .append, args := #[sl, x], argTypes := #[22, 22] }) (hs : a.eval sl = v) (hx : a.eval x = .slice (some ⟨gg, 0, none⟩) 1 1)
  (hO : OutT K w0 w v ts) (ht : RepT K w0 t cs) (hc : ∀ j u, cs[j]? = some u → w.cell? ⟨gg, j, none⟩ = some u) (hb : Below w0.heap.size w0 w) (hsize : ts.length + 1 ≤ 1099511627776)
  (h : ∀ v' w', OutT K w0 w' v' (ts ++ [t]) → Below w0.heap.size w0 w' → w.grownBy w' v.ownBlock → Kc (a.put o.dst v') w') :
  Oper.wp Tryz.prog o a w Kc Q := by
 obtain ⟨vs, hown, hreps⟩ := hO
 obtain ⟨i0, hi0, hz0, hz1, hz2⟩ := partsT infoTy
 refine wp_append_own_at sl x 22 ho w0.heap.size 26 i0 _ 6 104 sliceTy hi0 hz0 hz1 hz2 (by decide) (by decide) v ts.length vs hs hown ⟨gg, 0, none⟩ 1 1 cs hx (by rw [ht.six]) (fun j u hj => ?_) (one_cells ht) (by simp only [maxLen]; omega) (by omega) hb.size ?_
 ·have e2 : ((⟨gg, 0, none⟩ : Addr).add j) = ⟨gg, j, none⟩ := by unfold Addr.add; by_cases h0 : j = 0 <;> simp [h0]
  rw [e2]; exact hc j u hj
 ·intro v' w' g1 g2 _ _
  exact h v' w' (OutT.snoc hown.1 hreps ht g1) (hb.grown g2 hb.size fun k hk => (hown.lt k hk).1) g2
theorem flat_strs_len (l : List ByteArray) : (flatU (l.map strT)).length = l.length := by rw [flat_strs, List.length_map]
theorem OutT.block_lt {K : Nat → Prop} {w0 w : World} {v : Value} {ts : List Ty} (h : OutT K w0 w v ts) {b : Nat} (hb : v.ownBlock = some b) : b < w.heap.size := by
 obtain ⟨vs, hown, _⟩ := h
 exact (hown.lt b hb).2
set_option maxRecDepth 100000 in
set_option maxHeartbeats 32000000 in
theorem lkeys_some (hU : UnionP) {K : Nat → Prop} {w : World} {t : Ty} {cs : List Value} (hr : RepT K w t cs) (hlo : ∀ b, K b → b < w.heap.size) (l : List ByteArray) (hl : l.length ≤ 1000000) (hsz : ∀ x ∈ l, x.size ≤ 1000000000000000)
  (KK : ∀ wx, Below w.heap.size w wx → Calls Tryz.prog 33 #[.agg cs.toArray] wx (KeyPost wx (some l))) :
  Calls Tryz.prog 17 #[.agg cs.toArray] w (TyPost K w (unionT (l.map strT))) := by
 obtain ⟨k, s, n, ps, fs, vs⟩ := t
 obtain ⟨A, c, A', c', A'', c'', rfl, -⟩ := hr.inv
 simp only [cells6T] at hr KK ⊢
 obtain ⟨ts, hts⟩ : ∃ ts, ts = l.map strT := ⟨_, rfl⟩
 have HTS : Hid (ts.length = l.length ∧ (flatU ts).length ≤ 1000000 ∧ ∀ i (h : i < l.length), ts.take (i + 1) = ts.take i ++ [strT l[i]]) := Lib.hid (by
  subst hts
  refine ⟨List.length_map _, by rw [flat_strs_len]; exact hl, fun i h => ?_⟩
  rw [List.take_succ_eq_append_getElem (by rw [List.length_map]; exact h), List.getElem_map])
 rw [← hts]
 generalize hu : unionT ts = u
 obtain ⟨k2, s2, n2, ps2, fs2, vs2⟩ := u
 have HUE := Lib.hid hu
 clear hts
 have HLL := Lib.hid hl
 have HSZ := Lib.hid hsz
 have hll := hl
 clear hu hl hsz
 obtain ⟨w1, hw1⟩ : ∃ x, x = (w.alloc (.cells #[.int .i64 k, .string s, .int .i64 n, .slice A ps.length c, .slice A' fs.length c', .slice A'' vs.length c''] 26)).alloc (.cells #[.int .i64 0, .string ⟨#[]⟩, .int .i64 0, .slice none 0 0, .slice none 0 0, .slice none 0 0] 26) := ⟨_, rfl⟩
 obtain ⟨g, hg⟩ : ∃ g, g = w.heap.size + 1 := ⟨_, rfl⟩
 have hb1 : Below w.heap.size w w1 := by rw [hw1]; exact ((Below.refl _ _).alloc (Nat.le_refl _) _).alloc (by simp) _
 have hs1 : w1.heap.size = w.heap.size + 2 := by rw [hw1]; simp
 have hx0 : w1.heap[w.heap.size]? = some (.cells #[.int .i64 k, .string s, .int .i64 n, .slice A ps.length c, .slice A' fs.length c', .slice A'' vs.length c''] 26 (0, 0)) := by rw [hw1, Below.heap_alloc _ _ _ (by simp)]; exact heap_alloc_new w _
 have hx1 : w1.heap[g]? = some (.cells #[.int .i64 0, .string ⟨#[]⟩, .int .i64 0, .slice none 0 0, .slice none 0 0, .slice none 0 0] 26 (0, 0)) := by
  rw [hw1, hg]
  have h := heap_alloc_new (w.alloc (.cells #[.int .i64 k, .string s, .int .i64 n, .slice A ps.length c, .slice A' fs.length c', .slice A'' vs.length c''] 26)) (.cells #[.int .i64 0, .string ⟨#[]⟩, .int .i64 0, .slice none 0 0, .slice none 0 0, .slice none 0 0] 26)
  rw [World.size_alloc] at h
  exact h
 have HB1 := Lib.hid hb1
 have HS1 := Lib.hid hs1
 have HX0 := Lib.hid hx0
 have HX1 := Lib.hid hx1
 have HW1 := Lib.hid hw1
 have HG := Lib.hid hg
 have HLO := Lib.hid hlo
 have HU := Lib.hid hU
 have KC := Lib.hid (KK w1 hb1)
 unfold TyPost
 clear hr hb1 hs1 hx0 hx1 hw1 hg hlo hU KK
 go_enter Tryz.func17, Tryz.ntmps17
 go_upto_region 1 with fail
 rw [← HW1.out, ← HG.out]
 obtain ⟨x0, x1, x2, x3, x4, x5⟩ := cz6 HX0.out
 go_wp2_with fail
 refine KC.out.mono ?_
 rintro e w2 ⟨hm, hb⟩
 obtain ⟨A2, c2, he, hls⟩ : ∃ A2 c2, e = .returned (.agg #[.bool false, .slice A2 l.length c2]) ∧ ListS w2 l A2 := hm
 subst he
 have HB2 := Lib.hid hb
 have HBE := Lib.hid (HB1.out.trans (hb.mono HB1.out.size))
 have HLS := Lib.hid hls
 clear hls hb KC x0 x1 x2 x3 x4 x5
 go_upto_region 2 with fail
 obtain ⟨w3, hw3⟩ : ∃ x, x = w2.alloc (.cells #[.bool false, .slice A2 l.length c2] 58) := ⟨_, rfl⟩
 rw [← hw3]
 have hbW : Below w2.heap.size w2 w3 := by rw [hw3]; exact (Below.refl _ _).alloc (Nat.le_refl _) _
 have hx3 : w3.heap[w2.heap.size]? = some (.cells #[.bool false, .slice A2 l.length c2] 58 (0, 0)) := by rw [hw3]; exact heap_alloc_new w2 _
 have q0 := Lib.cell_of_heap hx3 0
 have q1 := Lib.cell_of_heap hx3 1
 simp only [List.getElem?_toArray, List.getElem?_cons_zero, List.getElem?_cons_succ] at q0 q1
 have HB3 := Lib.hid (HBE.out.trans (hbW.mono HBE.out.size))
 have HZ3 := Lib.hid (HB2.out.trans (hbW.mono HB2.out.size))
 have HBW := Lib.hid hbW
 clear hw3 hbW hx3
 go_wp2_with fail
 go_loopw [4, 15] (fun ov v wr => ∃ (i : Nat), i ≤ l.length ∧ v = .int .i64 i ∧ OutT K w3 wr ov (ts.take i) ∧ Below w3.heap.size w3 wr) (fun _ v _ => l.length - (intOf v).toNat)
 case atStart => exact ⟨0, by omega, rfl, ⟨⟨[], World.ownsRow_nil _ _ _ _, fun i h => absurd h (by simp)⟩⟩, Below.refl _ _⟩
 case round =>
  obtain ⟨i, hi, rfl, ho, hb⟩ := hrel
  have HO := Lib.hid ho
  have HB := Lib.hid hb
  by_cases hin : i < l.length
  ·have t1 : decide ((i : Int) < (l.length : Int)) = true := by simp; omega
   have wr2 : wrap64 ((i : Int) + 1) = ((i + 1 : Nat) : Int) := wrap_one (by omega)
   have HM := Lib.hid (measI hin)
   have HIn : Hid (i + 1 ≤ l.length) := Lib.hid hin
   obtain ⟨b, o, hA, -, hat⟩ := HLS.out
   have hA2 := hA (by omega)
   subst hA2
   have HTk : Hid (ts.take (i + 1) = ts.take i ++ [strT l[i]] ∧ (ts.take i).length + 1 ≤ 1099511627776) := Lib.hid ⟨HTS.out.2.2 i hin, by rw [List.length_take]; omega⟩
   have hnz := HSZ.out _ (List.getElem_mem hin)
   have z0 : wr.cell? ⟨b, o + i, none⟩ = some (.string l[i]) := cell_stays hb (cell_stays HBW.out (hat i hin))
   generalize l[i] = nm at HTk hnz z0
   have HNZ := Lib.hid hnz
   obtain ⟨vs0, hvs0, -⟩ := ho
   obtain ⟨A5, c5, rfl, -⟩ := sliceT hvs0
   obtain ⟨W2, hW2⟩ : ∃ x, x = wr.alloc (.cells #[.int .i64 10, .string nm, .int .i64 0, .slice none 0 0, .slice none 0 0, .slice none 0 0] 26) := ⟨_, rfl⟩
   have hbW2 : Below wr.heap.size wr W2 := by rw [hW2]; exact (Below.refl _ _).alloc (Nat.le_refl _) _
   have HOW : Hid (OutT K w3 W2 (.slice A5 (ts.take i).length c5) (ts.take i)) := Lib.hid (HO.out.keep fun b hb => hbW2.block b (HO.out.block_lt hb))
   have HC : Hid (∀ j u, ([.int .i64 10, .string nm, .int .i64 0, .slice none 0 0, .slice none 0 0, .slice none 0 0] : List Value)[j]? = some u → W2.cell? ⟨wr.heap.size, j, none⟩ = some u) := Lib.hid fun j u hj => by rw [hW2, Lib.cell_of_heap (heap_alloc_new wr _)]; simpa using hj
   have HBB := Lib.hid (HB.out.trans (hbW2.mono HB.out.size))
   have HW2 := Lib.hid hW2
   clear hi hA hat hb hvs0 hW2 hbW2 hnz
   go_wp2_with (at_builtin; refine wpList_plain rfl fun Kx hK => ?_; rw [← HW2.out]; go_loud (refine wp_append_one (K := K) (w0 := w3) (gg := wr.heap.size) (t := strT nm) (ts := ts.take i) _ _ rfl (by rfl) (by rfl) HOW.out (rep_str K w3 nm HNZ.out) HC.out HBB.out HTk.out.2 ?_))
   intro v3 w4 ho3 hb3 _
   refine hK _ _ ?_
   clear hK Kx
   rw [← HTk.out.1] at ho3
   have HO3 := Lib.hid (And.intro ho3 hb3)
   clear ho3 hb3 z0
   go_wp2_with fail
   refine ⟨⟨i + 1, HIn.out, by first | rfl | rw [wr2], HO3.out.1, HO3.out.2⟩, ?_⟩
   first | exact HM.out | (rw [wr2]; exact HM.out)
  ·have t1 : decide ((i : Int) < (l.length : Int)) = false := by simp; omega
   have hil : ts.take i = ts := List.take_of_length_le (by have := HTS.out.1; omega)
   rw [hil] at ho
   obtain ⟨vs0, hvs0, -⟩ := ho
   obtain ⟨A5, c5, rfl, -⟩ := sliceT hvs0
   have ho := HO.out
   rw [hil] at ho
   have KU := Lib.hid (union_own HU.out ho (fun b h => by have := HLO.out b h; have := HB3.out.size; omega) hb (by have := HTS.out.2.1; omega) (by have := HTS.out.1; have := HLL.out; omega))
   clear ho
   clear hi hil hvs0 hb
   go_wp2_with fail
   refine KU.out.mono ?_
   rintro e w5 ⟨rs, rfl, hr5, hb5⟩
   have HZ5 := Lib.hid (HZ3.out.trans ((HB.out.trans (hb5.mono HB.out.size)).mono HZ3.out.size))
   have HB5 := Lib.hid (HB1.out.trans (HZ5.out.mono HB1.out.size))
   have rb := box_up HZ5.out (by have := HG.out; have := HS1.out; omega) HX1.out
   have hr6 : RepT (fun b => K b ∨ g < b) w5 (unionT ts) rs := hr5.weak fun b h => h.imp id fun h => by have := HG.out; have := HS1.out; have := HZ3.out.size; omega
   rw [HUE.out] at hr6
   obtain ⟨Aq, cq, Ag, cg, Ah, ch, rfl, -⟩ := hr6.inv
   have HR6 := Lib.hid hr6
   simp only [cells6T] at HR6 ⊢
   clear hr5 hb5 hr6 KU
   obtain ⟨q0, q1, q2, q3, q4, q5, z0, z1, z2, z3, z4, z5⟩ := qz6 rb
   have RBX := Lib.hid rb
   clear rb
   go_wp2_with fail
   have rs := six_set RBX.out (.int .i64 k2) (.string s2) (.int .i64 n2) (.slice Aq ps2.length cq) (.slice Ag fs2.length cg) (.slice Ah vs2.length ch)
   obtain ⟨r0, r1, r2, r3, r4, r5⟩ := cz6 rs
   clear q0 q1 q2 q3 q4 q5 z0 z1 z2 z3 z4 z5 RBX rs
   refine bodyPost_ret (v := .agg #[.int .i64 k2, .string s2, .int .i64 n2, .slice Aq ps2.length cq, .slice Ag fs2.length cg, .slice Ah vs2.length ch]) (by simp [results, Tryz.results17, go_sem, r0, r1, r2, r3, r4, r5]) rfl ?_
   clear r0 r1 r2 r3 r4 r5
   exact ⟨[.int .i64 k2, .string s2, .int .i64 n2, .slice Aq ps2.length cq, .slice Ag fs2.length cg, .slice Ah vs2.length ch], rfl, ret_box HR6.out (fun b h => by have := HLO.out b h; have := HG.out; omega) (by have := HG.out; omega) _ _ _ _ _ _, set_six_below HB5.out (by have := HG.out; omega) _ _ _ _ _ _⟩
set_option maxRecDepth 100000 in
set_option maxHeartbeats 16000000 in
theorem ekeys_ok {K : Nat → Prop} {w : World} {t u : Ty} {cs : List Value} (hr : RepT K w t cs) (hlo : ∀ b, K b → b < w.heap.size) (hft : formedT t = true) (KA : ∀ wx, Below w.heap.size w wx → Calls Tryz.prog 17 #[.agg cs.toArray] wx (TyPost K wx u)) :
  Calls Tryz.prog 7 #[.agg cs.toArray] w (OkPost K w u) := by
 have KF := Lib.hid fun wx (hx : Below w.heap.size w wx) => Formed_any (hr.later hx)
 rw [hft] at KF
 obtain ⟨k, s, n, ps, fs, vs⟩ := t
 obtain ⟨A, c, A', c', A'', c'', rfl, -⟩ := hr.inv
 simp only [cells6T] at KF KA ⊢
 obtain ⟨w1, hw1⟩ : ∃ x, x = (w.alloc (.cells #[.int .i64 k, .string s, .int .i64 n, .slice A ps.length c, .slice A' fs.length c', .slice A'' vs.length c''] 26)).alloc (.cells #[.int .i64 0, .string ⟨#[]⟩, .int .i64 0, .slice none 0 0, .slice none 0 0, .slice none 0 0] 26) := ⟨_, rfl⟩
 obtain ⟨g, hg⟩ : ∃ g, g = w.heap.size + 1 := ⟨_, rfl⟩
 have hb1 : Below w.heap.size w w1 := by rw [hw1]; exact ((Below.refl _ _).alloc (Nat.le_refl _) _).alloc (by simp) _
 have hs1 : w1.heap.size = w.heap.size + 2 := by rw [hw1]; simp
 have hx0 : w1.heap[w.heap.size]? = some (.cells #[.int .i64 k, .string s, .int .i64 n, .slice A ps.length c, .slice A' fs.length c', .slice A'' vs.length c''] 26 (0, 0)) := by rw [hw1, Below.heap_alloc _ _ _ (by simp)]; exact heap_alloc_new w _
 have hx1 : w1.heap[g]? = some (.cells #[.int .i64 0, .string ⟨#[]⟩, .int .i64 0, .slice none 0 0, .slice none 0 0, .slice none 0 0] 26 (0, 0)) := by
  rw [hw1, hg]
  have h := heap_alloc_new (w.alloc (.cells #[.int .i64 k, .string s, .int .i64 n, .slice A ps.length c, .slice A' fs.length c', .slice A'' vs.length c''] 26)) (.cells #[.int .i64 0, .string ⟨#[]⟩, .int .i64 0, .slice none 0 0, .slice none 0 0, .slice none 0 0] 26)
  rw [World.size_alloc] at h
  exact h
 have HB1 := Lib.hid hb1
 have HS1 := Lib.hid hs1
 have HX0 := Lib.hid hx0
 have HX1 := Lib.hid hx1
 have HW1 := Lib.hid hw1
 have HG := Lib.hid hg
 have HLO := Lib.hid hlo
 have KA2 := Lib.hid KA
 obtain ⟨k2, s2, n2, ps2, fs2, vs2⟩ := u
 unfold OkPost
 clear KA
 clear hr hb1 hs1 hx0 hx1 hw1 hg hlo hft
 go_enter Tryz.func7, Tryz.ntmps7
 go_upto_region 1 with fail
 rw [← HW1.out, ← HG.out]
 obtain ⟨x0, x1, x2, x3, x4, x5⟩ := cz6 HX0.out
 go_wp2_with fail
 refine (KF.out _ HB1.out).mono ?_
 rintro e w2 ⟨rfl, hb⟩
 have HZ2 := Lib.hid hb
 have HB2 := Lib.hid (HB1.out.trans (hb.mono HB1.out.size))
 have h2 := box_up hb (by have := HS1.out; omega) HX0.out
 clear x0 x1 x2 x3 x4 x5 hb KF
 obtain ⟨x0, x1, x2, x3, x4, x5⟩ := cz6 h2
 clear h2
 go_wp2_with fail
 refine (KA2.out _ HB2.out).mono ?_
 rintro e w4 ⟨rs, rfl, hr4, hb4⟩
 have HB4 := Lib.hid (HB2.out.trans (hb4.mono HB2.out.size))
 have HZ4 := Lib.hid (HZ2.out.trans (hb4.mono HZ2.out.size))
 have rb := box_up HZ4.out (by have := HG.out; have := HS1.out; omega) HX1.out
 have hr5 : RepT (fun b => K b ∨ g < b) w4 (.mk k2 s2 n2 ps2 fs2 vs2) rs := hr4.weak fun b h => h.imp id fun h => by have := HG.out; have := HS1.out; have := HZ2.out.size; omega
 obtain ⟨Aq, cq, Ag, cg, Ah, ch, rfl, -⟩ := hr5.inv
 have HR5 := Lib.hid hr5
 simp only [cells6T] at HR5 ⊢
 clear hr4 hb4 hr5 KA2 x0 x1 x2 x3 x4 x5
 obtain ⟨q0, q1, q2, q3, q4, q5, z0, z1, z2, z3, z4, z5⟩ := qz6 rb
 have RBX := Lib.hid rb
 clear rb
 go_wp2_with fail
 have rs := six_set RBX.out (.int .i64 k2) (.string s2) (.int .i64 n2) (.slice Aq ps2.length cq) (.slice Ag fs2.length cg) (.slice Ah vs2.length ch)
 obtain ⟨r0, r1, r2, r3, r4, r5⟩ := cz6 rs
 clear q0 q1 q2 q3 q4 q5 z0 z1 z2 z3 z4 z5 RBX rs
 refine bodyPost_ret (v := .tuple #[.agg #[.int .i64 k2, .string s2, .int .i64 n2, .slice Aq ps2.length cq, .slice Ag fs2.length cg, .slice Ah vs2.length ch], .int .i64 0]) (by simp [results, Tryz.results7, go_sem, r0, r1, r2, r3, r4, r5]) rfl ?_
 clear r0 r1 r2 r3 r4 r5
 exact ⟨[.int .i64 k2, .string s2, .int .i64 n2, .slice Aq ps2.length cq, .slice Ag fs2.length cg, .slice Ah vs2.length ch], rfl, ret_box HR5.out (fun b h => by have := HLO.out b h; have := HG.out; omega) (by have := HG.out; omega) _ _ _ _ _ _, set_six_below HB4.out (by have := HG.out; omega) _ _ _ _ _ _⟩
theorem parts_any {K : Nat → Prop} {w : World} {t : Ty} {cs : List Value} (hr : RepT K w t cs) (hlo : ∀ b, K b → b < w.heap.size) (hn : t.ps.length ≤ 1099511627776) :
  Calls Tryz.prog 18 #[.agg cs.toArray] w (ListPost K w (prtsT t)) := by
 obtain ⟨k, s, n, ps, fs, vs⟩ := t
 unfold prtsT
 have e1 : Ty.k (.mk k s n ps fs vs) = k := rfl
 have e2 : Ty.ps (.mk k s n ps fs vs) = ps := rfl
 rw [e1, e2]
 rw [e2] at hn
 by_cases h15 : k = 15
 ·subst h15; rw [if_pos rfl]; exact parts_15 s n ps fs vs hr hlo hn
 rw [if_neg h15]
 by_cases h1 : k = 1
 ·subst h1; rw [if_pos rfl]; exact parts_1 s n ps fs vs hr hlo
 rw [if_neg h1]
 exact parts_no k s n ps fs vs hr hlo h15 h1
set_option maxRecDepth 100000 in
set_option maxHeartbeats 16000000 in
theorem eparts_any {K : Nat → Prop} {w : World} {t : Ty} {cs : List Value} (hr : RepT K w t cs) (hlo : ∀ b, K b → b < w.heap.size) (hn : t.ps.length ≤ 1099511627776) :
  Calls Tryz.prog 8 #[.agg cs.toArray] w (ListPost K w (prtsT t)) := by
 have KP := Lib.hid fun wx (hx : Below w.heap.size w wx) => parts_any (hr.later hx) (fun b h => Nat.lt_of_lt_of_le (hlo b h) hx.size) hn
 generalize prtsT t = l at KP
 obtain ⟨k, s, n, ps, fs, vs⟩ := t
 obtain ⟨A, c, A', c', A'', c'', rfl, -⟩ := hr.inv
 simp only [cells6T] at KP ⊢
 obtain ⟨w1, hw1⟩ : ∃ x, x = w.alloc (.cells #[.int .i64 k, .string s, .int .i64 n, .slice A ps.length c, .slice A' fs.length c', .slice A'' vs.length c''] 26) := ⟨_, rfl⟩
 have hb1 : Below w.heap.size w w1 := by rw [hw1]; exact (Below.refl _ _).alloc (Nat.le_refl _) _
 have hx0 : w1.heap[w.heap.size]? = some (.cells #[.int .i64 k, .string s, .int .i64 n, .slice A ps.length c, .slice A' fs.length c', .slice A'' vs.length c''] 26 (0, 0)) := by rw [hw1]; exact heap_alloc_new w _
 have HB1 := Lib.hid hb1
 have HX0 := Lib.hid hx0
 have HW1 := Lib.hid hw1
 unfold ListPost
 clear hr hb1 hx0 hw1 hlo hn
 go_enter Tryz.func8, Tryz.ntmps8
 go_upto_region 1 with fail
 rw [← HW1.out]
 obtain ⟨x0, x1, x2, x3, x4, x5⟩ := cz6 HX0.out
 go_wp2_with fail
 refine (KP.out _ HB1.out).mono ?_
 rintro e w2 ⟨A3, c3, rfl, hl, hb⟩
 have HL := Lib.hid (And.intro hl (HB1.out.trans (hb.mono HB1.out.size)))
 clear hl hb KP x0 x1 x2 x3 x4 x5
 go_wp2_with fail
 go_ret
 exact ⟨A3, c3, rfl, HL.out.1.weak fun b h => h.imp id fun h => Nat.le_trans HB1.out.size h, HL.out.2⟩
end Go.Proofs.YtfchnfnifpopnaaGreatDoor
