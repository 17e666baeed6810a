import Derived.Test.YteakkjhcdpbidaaGreatDoorMk40
import Derived.KernelRfl
namespace Go.Proofs.YteakkjhcdpbidaaGreatDoor
set_option maxRecDepth 100000
set_option maxHeartbeats 64000000
open Go.RowKit
theorem rep_str (K : Nat → Prop) (w : World) (s : ByteArray) (hs : s.size ≤ 1000000000000000) : RepT K w (strT s) [.int .i64 10, .string s, .int .i64 0, .slice none 0 0, .slice none 0 0, .slice none 0 0] :=
 RepT.of hs ⟨⟨0, 0, ⟨by simp, by decide, fun _ => rfl, fun h => absurd h (by simp)⟩, fun i h => absurd h (by simp)⟩⟩ ⟨⟨0, 0, ⟨by simp, by decide, fun _ => rfl, fun h => absurd h (by simp)⟩, fun i h => absurd h (by simp)⟩⟩ ⟨⟨0, 0, ⟨by simp, by decide, fun _ => rfl, fun h => absurd h (by simp)⟩, fun i h => absurd h (by simp)⟩⟩
theorem wp_append_one {K : Nat → Prop} {w0 w : World} {v : Value} {ts : List Ty} {t : Ty} {cs : List Value} {gg : Nat} {o : Oper} {a : Act} {Kc : Act → World → Prop} {Q : Exit → Act → World → Prop} (sl x : Operand)
  (ho : o.op = .call { callee := .builtin .append, args := #[sl, x], argTypes := #[22, 22] }) (hs : a.eval sl = v) (hx : a.eval x = .slice (some ⟨gg, 0, none⟩) 1 1)
  (hO : OutT K w0 w v ts) (ht : RepT K w0 t cs) (hc : ∀ j u, cs[j]? = some u → w.cell? ⟨gg, j, none⟩ = some u) (hb : Below w0.heap.size w0 w) (hsize : ts.length + 1 ≤ 1099511627776)
  (h : ∀ v' w', OutT K w0 w' v' (ts ++ [t]) → Below w0.heap.size w0 w' → w.grownBy w' v.ownBlock → Kc (a.put o.dst v') w') :
  Oper.wp Tryz.prog o a w Kc Q := by
 obtain ⟨vs, hown, hreps⟩ := hO
 obtain ⟨i0, hi0, hz0, hz1, hz2⟩ := partsT infoTy
 refine wp_append_own_at sl x 22 ho w0.heap.size 26 i0 _ 6 104 sliceTy hi0 hz0 hz1 hz2 (by decide) (by decide) v ts.length vs hs hown ⟨gg, 0, none⟩ 1 1 cs hx (by rw [ht.six]) (fun j u hj => ?_) (one_cells ht) (by simp only [maxLen]; omega) (by omega) hb.size ?_
 ·have e2 : ((⟨gg, 0, none⟩ : Addr).add j) = ⟨gg, j, none⟩ := by unfold Addr.add; by_cases h0 : j = 0 <;> simp [h0]
  rw [e2]; exact hc j u hj
 ·intro v' w' g1 g2 _ _
  exact h v' w' (OutT.snoc hown.1 hreps ht g1) (hb.grown g2 hb.size fun k hk => (hown.lt k hk).1) g2
theorem flat_strs_len (l : List ByteArray) : (flatU (l.map strT)).length = l.length := by rw [flat_strs, List.length_map]
theorem OutT.block_lt {K : Nat → Prop} {w0 w : World} {v : Value} {ts : List Ty} (h : OutT K w0 w v ts) {b : Nat} (hb : v.ownBlock = some b) : b < w.heap.size := by
 obtain ⟨vs, hown, _⟩ := h
 exact (hown.lt b hb).2
theorem lkeys_all (hU : UnionP) {K : Nat → Prop} {w : World} {t : Ty} {cs : List Value} (hr : RepT K w t cs) (hlo : ∀ b, K b → b < w.heap.size) 
  (KK : ∀ wx, Below w.heap.size w wx → Calls Tryz.prog 26 #[.agg cs.toArray] wx (KeyPost wx none)) :
  Calls Tryz.prog 17 #[.agg cs.toArray] w (TyPost K w (tyK 8)) := by
 obtain ⟨k, s, n, ps, fs, vs⟩ := t
 obtain ⟨A, c, A', c', A'', c'', rfl, -⟩ := hr.inv
 simp only [cells6T] at hr KK ⊢
 obtain ⟨w1, hw1⟩ : ∃ x, x = (w.alloc (.cells #[.int .i64 k, .string s, .int .i64 n, .slice A ps.length c, .slice A' fs.length c', .slice A'' vs.length c''] 26)).alloc (.cells #[.int .i64 0, .string ⟨#[]⟩, .int .i64 0, .slice none 0 0, .slice none 0 0, .slice none 0 0] 26) := ⟨_, rfl⟩
 obtain ⟨g, hg⟩ : ∃ g, g = w.heap.size + 1 := ⟨_, rfl⟩
 have hb1 : Below w.heap.size w w1 := by rw [hw1]; exact ((Below.refl _ _).alloc (Nat.le_refl _) _).alloc (by simp) _
 have hs1 : w1.heap.size = w.heap.size + 2 := by rw [hw1]; simp
 have hx0 : w1.heap[w.heap.size]? = some (.cells #[.int .i64 k, .string s, .int .i64 n, .slice A ps.length c, .slice A' fs.length c', .slice A'' vs.length c''] 26 (0, 0)) := by rw [hw1, Below.heap_alloc _ _ _ (by simp)]; exact heap_alloc_new w _
 have hx1 : w1.heap[g]? = some (.cells #[.int .i64 0, .string ⟨#[]⟩, .int .i64 0, .slice none 0 0, .slice none 0 0, .slice none 0 0] 26 (0, 0)) := by
  rw [hw1, hg]
  have h := heap_alloc_new (w.alloc (.cells #[.int .i64 k, .string s, .int .i64 n, .slice A ps.length c, .slice A' fs.length c', .slice A'' vs.length c''] 26)) (.cells #[.int .i64 0, .string ⟨#[]⟩, .int .i64 0, .slice none 0 0, .slice none 0 0, .slice none 0 0] 26)
  rw [World.size_alloc] at h
  exact h
 have HB1 := Hd hb1
 have HS1 := Hd hs1
 have HX0 := Hd hx0
 have HX1 := Hd hx1
 have HW1 := Hd hw1
 have HG := Hd hg
 have HLO := Hd hlo
 have HU := Hd hU
 have KC := Hd (KK w1 hb1)
 unfold TyPost
 clear hr hb1 hs1 hx0 hx1 hw1 hg hlo hU KK
 go_enter Tryz.func17, Tryz.ntmps17
 go_upto_region 1 with fail
 rw [← HW1.out, ← HG.out]
 obtain ⟨x0, x1, x2, x3, x4, x5⟩ := cz6 HX0.out
 go_wp2_with fail
 refine KC.out.mono ?_
 rintro e w2 ⟨hm, hb⟩
 have he : e = .returned (.agg #[.bool true, .slice none 0 0]) := hm
 subst he
 have HB2 := Hd hb
 have HBE := Hd (HB1.out.trans (hb.mono HB1.out.size))
 clear hm hb KC x0 x1 x2 x3 x4 x5
 go_upto_region 3 with fail
 generalize hW : w2.alloc (.cells #[.bool true, .slice none 0 0] 49) = W
 have hbW : Below w2.heap.size w2 W := by rw [← hW]; exact (Below.refl _ _).alloc (Nat.le_refl _) _
 have HBW := Hd (HBE.out.trans (hbW.mono HBE.out.size))
 have rb := box_up hbW (by have := HG.out; have := HS1.out; have := HB2.out.size; omega) (box_up HB2.out (by have := HG.out; have := HS1.out; omega) HX1.out)
 clear hW hbW
 obtain ⟨q0, q1, q2, q3, q4, q5, z0, z1, z2, z3, z4, z5⟩ := qz6 rb
 have RBX := Hd rb
 clear rb
 go_wp2_with fail
 have rs := six_set RBX.out (.int .i64 8) (.string ⟨#[]⟩) (.int .i64 0) (.slice none 0 0) (.slice none 0 0) (.slice none 0 0)
 obtain ⟨r0, r1, r2, r3, r4, r5⟩ := cz6 rs
 clear q0 q1 q2 q3 q4 q5 z0 z1 z2 z3 z4 z5 RBX rs
 refine bodyPost_ret (v := .agg #[.int .i64 8, .string ⟨#[]⟩, .int .i64 0, .slice none 0 0, .slice none 0 0, .slice none 0 0]) (by simp [results, Tryz.results17, go_sem, r0, r1, r2, r3, r4, r5]) rfl ?_
 clear r0 r1 r2 r3 r4 r5
 exact ⟨[.int .i64 8, .string ⟨#[]⟩, .int .i64 0, .slice none 0 0, .slice none 0 0, .slice none 0 0], rfl, ret_box (rep_k (fun b => K b ∨ g < b) W 8) (fun b h => by have := HLO.out b h; have := HG.out; omega) (by have := HG.out; omega) _ _ _ _ _ _, set_six_below HBW.out (by have := HG.out; omega) _ _ _ _ _ _⟩
theorem lkeys_some (hU : UnionP) {K : Nat → Prop} {w : World} {t : Ty} {cs : List Value} (hr : RepT K w t cs) (hlo : ∀ b, K b → b < w.heap.size) (l : List ByteArray) (hl : l.length ≤ 1000000) (hsz : ∀ x ∈ l, x.size ≤ 1000000000000000)
  (KK : ∀ wx, Below w.heap.size w wx → Calls Tryz.prog 26 #[.agg cs.toArray] wx (KeyPost wx (some l))) :
  Calls Tryz.prog 17 #[.agg cs.toArray] w (TyPost K w (unionT (l.map strT))) := by
 obtain ⟨k, s, n, ps, fs, vs⟩ := t
 obtain ⟨A, c, A', c', A'', c'', rfl, -⟩ := hr.inv
 simp only [cells6T] at hr KK ⊢
 obtain ⟨ts, hts⟩ : ∃ ts, ts = l.map strT := ⟨_, rfl⟩
 have HTS : Hid (ts.length = l.length ∧ (flatU ts).length ≤ 1000000 ∧ ∀ i (h : i < l.length), ts.take (i + 1) = ts.take i ++ [strT l[i]]) := Hd (by
  subst hts
  refine ⟨List.length_map _, by rw [flat_strs_len]; exact hl, fun i h => ?_⟩
  rw [List.take_succ_eq_append_getElem (by rw [List.length_map]; exact h), List.getElem_map])
 rw [← hts]
 generalize hu : unionT ts = u
 obtain ⟨k2, s2, n2, ps2, fs2, vs2⟩ := u
 have HUE := Hd hu
 clear hts
 have HLL := Hd hl
 have HSZ := Hd hsz
 have hll := hl
 clear hu hl hsz
 obtain ⟨w1, hw1⟩ : ∃ x, x = (w.alloc (.cells #[.int .i64 k, .string s, .int .i64 n, .slice A ps.length c, .slice A' fs.length c', .slice A'' vs.length c''] 26)).alloc (.cells #[.int .i64 0, .string ⟨#[]⟩, .int .i64 0, .slice none 0 0, .slice none 0 0, .slice none 0 0] 26) := ⟨_, rfl⟩
 obtain ⟨g, hg⟩ : ∃ g, g = w.heap.size + 1 := ⟨_, rfl⟩
 have hb1 : Below w.heap.size w w1 := by rw [hw1]; exact ((Below.refl _ _).alloc (Nat.le_refl _) _).alloc (by simp) _
 have hs1 : w1.heap.size = w.heap.size + 2 := by rw [hw1]; simp
 have hx0 : w1.heap[w.heap.size]? = some (.cells #[.int .i64 k, .string s, .int .i64 n, .slice A ps.length c, .slice A' fs.length c', .slice A'' vs.length c''] 26 (0, 0)) := by rw [hw1, Below.heap_alloc _ _ _ (by simp)]; exact heap_alloc_new w _
 have hx1 : w1.heap[g]? = some (.cells #[.int .i64 0, .string ⟨#[]⟩, .int .i64 0, .slice none 0 0, .slice none 0 0, .slice none 0 0] 26 (0, 0)) := by
  rw [hw1, hg]
  have h := heap_alloc_new (w.alloc (.cells #[.int .i64 k, .string s, .int .i64 n, .slice A ps.length c, .slice A' fs.length c', .slice A'' vs.length c''] 26)) (.cells #[.int .i64 0, .string ⟨#[]⟩, .int .i64 0, .slice none 0 0, .slice none 0 0, .slice none 0 0] 26)
  rw [World.size_alloc] at h
  exact h
 have HB1 := Hd hb1
 have HS1 := Hd hs1
 have HX0 := Hd hx0
 have HX1 := Hd hx1
 have HW1 := Hd hw1
 have HG := Hd hg
 have HLO := Hd hlo
 have HU := Hd hU
 have KC := Hd (KK w1 hb1)
 unfold TyPost
 clear hr hb1 hs1 hx0 hx1 hw1 hg hlo hU KK
 go_enter Tryz.func17, Tryz.ntmps17
 go_upto_region 1 with fail
 rw [← HW1.out, ← HG.out]
 obtain ⟨x0, x1, x2, x3, x4, x5⟩ := cz6 HX0.out
 go_wp2_with fail
 refine KC.out.mono ?_
 rintro e w2 ⟨hm, hb⟩
 obtain ⟨A2, c2, he, hls⟩ : ∃ A2 c2, e = .returned (.agg #[.bool false, .slice A2 l.length c2]) ∧ ListS w2 l A2 := hm
 subst he
 have HB2 := Hd hb
 have HBE := Hd (HB1.out.trans (hb.mono HB1.out.size))
 have HLS := Hd hls
 clear hls hb KC x0 x1 x2 x3 x4 x5
 go_upto_region 2 with fail
 obtain ⟨w3, hw3⟩ : ∃ x, x = w2.alloc (.cells #[.bool false, .slice A2 l.length c2] 49) := ⟨_, rfl⟩
 rw [← hw3]
 have hbW : Below w2.heap.size w2 w3 := by rw [hw3]; exact (Below.refl _ _).alloc (Nat.le_refl _) _
 have hx3 : w3.heap[w2.heap.size]? = some (.cells #[.bool false, .slice A2 l.length c2] 49 (0, 0)) := by rw [hw3]; exact heap_alloc_new w2 _
 have q0 := Ch hx3 0
 have q1 := Ch hx3 1
 simp only [List.getElem?_toArray, List.getElem?_cons_zero, List.getElem?_cons_succ] at q0 q1
 have HB3 := Hd (HBE.out.trans (hbW.mono HBE.out.size))
 have HZ3 := Hd (HB2.out.trans (hbW.mono HB2.out.size))
 have HBW := Hd hbW
 clear hw3 hbW hx3
 go_wp2_with fail
 go_loopw [4, 15] (fun ov v wr => ∃ (i : Nat), i ≤ l.length ∧ v = .int .i64 i ∧ OutT K w3 wr ov (ts.take i) ∧ Below w3.heap.size w3 wr) (fun _ v _ => l.length - (intOf v).toNat)
 case atStart => exact ⟨0, by omega, rfl, ⟨⟨[], World.ownsRow_nil _ _ _ _, fun i h => absurd h (by simp)⟩⟩, Below.refl _ _⟩
 case round =>
  obtain ⟨i, hi, rfl, ho, hb⟩ := hrel
  have HO := Hd ho
  have HB := Hd hb
  by_cases hin : i < l.length
  ·have t1 : decide ((i : Int) < (l.length : Int)) = true := by simp; omega
   have wr2 : wrap64 ((i : Int) + 1) = ((i + 1 : Nat) : Int) := wrap_one (by omega)
   have HM := Hd (measI hin)
   have HIn : Hid (i + 1 ≤ l.length) := Hd hin
   obtain ⟨b, o, hA, -, hat⟩ := HLS.out
   have hA2 := hA (by omega)
   subst hA2
   have HTk : Hid (ts.take (i + 1) = ts.take i ++ [strT l[i]] ∧ (ts.take i).length + 1 ≤ 1099511627776) := Hd ⟨HTS.out.2.2 i hin, by rw [List.length_take]; omega⟩
   have hnz := HSZ.out _ (List.getElem_mem hin)
   have z0 : wr.cell? ⟨b, o + i, none⟩ = some (.string l[i]) := cell_stays hb (cell_stays HBW.out (hat i hin))
   generalize l[i] = nm at HTk hnz z0
   have HNZ := Hd hnz
   obtain ⟨vs0, hvs0, -⟩ := ho
   obtain ⟨A5, c5, rfl, -⟩ := sliceT hvs0
   obtain ⟨W2, hW2⟩ : ∃ x, x = wr.alloc (.cells #[.int .i64 10, .string nm, .int .i64 0, .slice none 0 0, .slice none 0 0, .slice none 0 0] 26) := ⟨_, rfl⟩
   have hbW2 : Below wr.heap.size wr W2 := by rw [hW2]; exact (Below.refl _ _).alloc (Nat.le_refl _) _
   have HOW : Hid (OutT K w3 W2 (.slice A5 (ts.take i).length c5) (ts.take i)) := Hd (HO.out.keep fun b hb => hbW2.block b (HO.out.block_lt hb))
   have HC : Hid (∀ j u, ([.int .i64 10, .string nm, .int .i64 0, .slice none 0 0, .slice none 0 0, .slice none 0 0] : List Value)[j]? = some u → W2.cell? ⟨wr.heap.size, j, none⟩ = some u) := Hd fun j u hj => by rw [hW2, Ch (heap_alloc_new wr _)]; simpa using hj
   have HBB := Hd (HB.out.trans (hbW2.mono HB.out.size))
   have HW2 := Hd hW2
   clear hi hA hat hb hvs0 hW2 hbW2 hnz
   go_wp2_with (at_builtin; refine wpList_plain rfl fun Kx hK => ?_; rw [← HW2.out]; go_loud (refine wp_append_one (K := K) (w0 := w3) (gg := wr.heap.size) (t := strT nm) (ts := ts.take i) _ _ rfl (by rfl) (by rfl) HOW.out (rep_str K w3 nm HNZ.out) HC.out HBB.out HTk.out.2 ?_))
   intro v3 w4 ho3 hb3 _
   refine hK _ _ ?_
   clear hK Kx
   rw [← HTk.out.1] at ho3
   have HO3 := Hd (And.intro ho3 hb3)
   clear ho3 hb3 z0
   go_wp2_with fail
   refine ⟨⟨i + 1, HIn.out, by first | rfl | rw [wr2], HO3.out.1, HO3.out.2⟩, ?_⟩
   first | exact HM.out | (rw [wr2]; exact HM.out)
  ·have t1 : decide ((i : Int) < (l.length : Int)) = false := by simp; omega
   have hil : ts.take i = ts := List.take_of_length_le (by have := HTS.out.1; omega)
   rw [hil] at ho
   obtain ⟨vs0, hvs0, -⟩ := ho
   obtain ⟨A5, c5, rfl, -⟩ := sliceT hvs0
   have ho := HO.out
   rw [hil] at ho
   have KU := Hd (union_own HU.out ho (fun b h => by have := HLO.out b h; have := HB3.out.size; omega) hb (by have := HTS.out.2.1; omega) (by have := HTS.out.1; have := HLL.out; omega))
   clear ho
   clear hi hil hvs0 hb
   go_wp2_with fail
   refine KU.out.mono ?_
   rintro e w5 ⟨rs, rfl, hr5, hb5⟩
   have HZ5 := Hd (HZ3.out.trans ((HB.out.trans (hb5.mono HB.out.size)).mono HZ3.out.size))
   have HB5 := Hd (HB1.out.trans (HZ5.out.mono HB1.out.size))
   have rb := box_up HZ5.out (by have := HG.out; have := HS1.out; omega) HX1.out
   have hr6 : RepT (fun b => K b ∨ g < b) w5 (unionT ts) rs := hr5.weak fun b h => h.imp id fun h => by have := HG.out; have := HS1.out; have := HZ3.out.size; omega
   rw [HUE.out] at hr6
   obtain ⟨Aq, cq, Ag, cg, Ah, ch, rfl, -⟩ := hr6.inv
   have HR6 := Hd hr6
   simp only [cells6T] at HR6 ⊢
   clear hr5 hb5 hr6 KU
   obtain ⟨q0, q1, q2, q3, q4, q5, z0, z1, z2, z3, z4, z5⟩ := qz6 rb
   have RBX := Hd rb
   clear rb
   go_wp2_with fail
   have rs := six_set RBX.out (.int .i64 k2) (.string s2) (.int .i64 n2) (.slice Aq ps2.length cq) (.slice Ag fs2.length cg) (.slice Ah vs2.length ch)
   obtain ⟨r0, r1, r2, r3, r4, r5⟩ := cz6 rs
   clear q0 q1 q2 q3 q4 q5 z0 z1 z2 z3 z4 z5 RBX rs
   refine bodyPost_ret (v := .agg #[.int .i64 k2, .string s2, .int .i64 n2, .slice Aq ps2.length cq, .slice Ag fs2.length cg, .slice Ah vs2.length ch]) (by simp [results, Tryz.results17, go_sem, r0, r1, r2, r3, r4, r5]) rfl ?_
   clear r0 r1 r2 r3 r4 r5
   exact ⟨[.int .i64 k2, .string s2, .int .i64 n2, .slice Aq ps2.length cq, .slice Ag fs2.length cg, .slice Ah vs2.length ch], rfl, ret_box HR6.out (fun b h => by have := HLO.out b h; have := HG.out; omega) (by have := HG.out; omega) _ _ _ _ _ _, set_six_below HB5.out (by have := HG.out; omega) _ _ _ _ _ _⟩
theorem ekeys_ok {K : Nat → Prop} {w : World} {t u : Ty} {cs : List Value} (hr : RepT K w t cs) (hlo : ∀ b, K b → b < w.heap.size) (hft : formedT t = true) (KA : ∀ wx, Below w.heap.size w wx → Calls Tryz.prog 17 #[.agg cs.toArray] wx (TyPost K wx u)) :
  Calls Tryz.prog 6 #[.agg cs.toArray] w (OkPost K w u) := by
 have KF := Hd fun wx (hx : Below w.heap.size w wx) => Formed_any (hr.later hx)
 rw [hft] at KF
 obtain ⟨k, s, n, ps, fs, vs⟩ := t
 obtain ⟨A, c, A', c', A'', c'', rfl, -⟩ := hr.inv
 simp only [cells6T] at KF KA ⊢
 obtain ⟨w1, hw1⟩ : ∃ x, x = (w.alloc (.cells #[.int .i64 k, .string s, .int .i64 n, .slice A ps.length c, .slice A' fs.length c', .slice A'' vs.length c''] 26)).alloc (.cells #[.int .i64 0, .string ⟨#[]⟩, .int .i64 0, .slice none 0 0, .slice none 0 0, .slice none 0 0] 26) := ⟨_, rfl⟩
 obtain ⟨g, hg⟩ : ∃ g, g = w.heap.size + 1 := ⟨_, rfl⟩
 have hb1 : Below w.heap.size w w1 := by rw [hw1]; exact ((Below.refl _ _).alloc (Nat.le_refl _) _).alloc (by simp) _
 have hs1 : w1.heap.size = w.heap.size + 2 := by rw [hw1]; simp
 have hx0 : w1.heap[w.heap.size]? = some (.cells #[.int .i64 k, .string s, .int .i64 n, .slice A ps.length c, .slice A' fs.length c', .slice A'' vs.length c''] 26 (0, 0)) := by rw [hw1, Below.heap_alloc _ _ _ (by simp)]; exact heap_alloc_new w _
 have hx1 : w1.heap[g]? = some (.cells #[.int .i64 0, .string ⟨#[]⟩, .int .i64 0, .slice none 0 0, .slice none 0 0, .slice none 0 0] 26 (0, 0)) := by
  rw [hw1, hg]
  have h := heap_alloc_new (w.alloc (.cells #[.int .i64 k, .string s, .int .i64 n, .slice A ps.length c, .slice A' fs.length c', .slice A'' vs.length c''] 26)) (.cells #[.int .i64 0, .string ⟨#[]⟩, .int .i64 0, .slice none 0 0, .slice none 0 0, .slice none 0 0] 26)
  rw [World.size_alloc] at h
  exact h
 have HB1 := Hd hb1
 have HS1 := Hd hs1
 have HX0 := Hd hx0
 have HX1 := Hd hx1
 have HW1 := Hd hw1
 have HG := Hd hg
 have HLO := Hd hlo
 have KA2 := Hd KA
 obtain ⟨k2, s2, n2, ps2, fs2, vs2⟩ := u
 unfold OkPost
 clear KA
 clear hr hb1 hs1 hx0 hx1 hw1 hg hlo hft
 go_enter Tryz.func6, Tryz.ntmps6
 go_upto_region 1 with fail
 rw [← HW1.out, ← HG.out]
 obtain ⟨x0, x1, x2, x3, x4, x5⟩ := cz6 HX0.out
 go_wp2_with fail
 refine (KF.out _ HB1.out).mono ?_
 rintro e w2 ⟨rfl, hb⟩
 have HZ2 := Hd hb
 have HB2 := Hd (HB1.out.trans (hb.mono HB1.out.size))
 have h2 := box_up hb (by have := HS1.out; omega) HX0.out
 clear x0 x1 x2 x3 x4 x5 hb KF
 obtain ⟨x0, x1, x2, x3, x4, x5⟩ := cz6 h2
 clear h2
 go_wp2_with fail
 refine (KA2.out _ HB2.out).mono ?_
 rintro e w4 ⟨rs, rfl, hr4, hb4⟩
 have HB4 := Hd (HB2.out.trans (hb4.mono HB2.out.size))
 have HZ4 := Hd (HZ2.out.trans (hb4.mono HZ2.out.size))
 have rb := box_up HZ4.out (by have := HG.out; have := HS1.out; omega) HX1.out
 have hr5 : RepT (fun b => K b ∨ g < b) w4 (.mk k2 s2 n2 ps2 fs2 vs2) rs := hr4.weak fun b h => h.imp id fun h => by have := HG.out; have := HS1.out; have := HZ2.out.size; omega
 obtain ⟨Aq, cq, Ag, cg, Ah, ch, rfl, -⟩ := hr5.inv
 have HR5 := Hd hr5
 simp only [cells6T] at HR5 ⊢
 clear hr4 hb4 hr5 KA2 x0 x1 x2 x3 x4 x5
 obtain ⟨q0, q1, q2, q3, q4, q5, z0, z1, z2, z3, z4, z5⟩ := qz6 rb
 have RBX := Hd rb
 clear rb
 go_wp2_with fail
 have rs := six_set RBX.out (.int .i64 k2) (.string s2) (.int .i64 n2) (.slice Aq ps2.length cq) (.slice Ag fs2.length cg) (.slice Ah vs2.length ch)
 obtain ⟨r0, r1, r2, r3, r4, r5⟩ := cz6 rs
 clear q0 q1 q2 q3 q4 q5 z0 z1 z2 z3 z4 z5 RBX rs
 refine bodyPost_ret (v := .tuple #[.agg #[.int .i64 k2, .string s2, .int .i64 n2, .slice Aq ps2.length cq, .slice Ag fs2.length cg, .slice Ah vs2.length ch], .int .i64 0]) (by simp [results, Tryz.results6, go_sem, r0, r1, r2, r3, r4, r5]) rfl ?_
 clear r0 r1 r2 r3 r4 r5
 exact ⟨[.int .i64 k2, .string s2, .int .i64 n2, .slice Aq ps2.length cq, .slice Ag fs2.length cg, .slice Ah vs2.length ch], rfl, ret_box HR5.out (fun b h => by have := HLO.out b h; have := HG.out; omega) (by have := HG.out; omega) _ _ _ _ _ _, set_six_below HB4.out (by have := HG.out; omega) _ _ _ _ _ _⟩
theorem ekeys_bad {K : Nat → Prop} {w : World} {t : Ty} {cs : List Value} (hr : RepT K w t cs) (hlo : ∀ b, K b → b < w.heap.size) (hft : formedT t = false) :
  Calls Tryz.prog 6 #[.agg cs.toArray] w (BadPost w) := by
 have KF := Hd fun wx (hx : Below w.heap.size w wx) => Formed_any (hr.later hx)
 rw [hft] at KF
 obtain ⟨k, s, n, ps, fs, vs⟩ := t
 obtain ⟨A, c, A', c', A'', c'', rfl, -⟩ := hr.inv
 simp only [cells6T] at KF ⊢
 obtain ⟨w1, hw1⟩ : ∃ x, x = (w.alloc (.cells #[.int .i64 k, .string s, .int .i64 n, .slice A ps.length c, .slice A' fs.length c', .slice A'' vs.length c''] 26)).alloc (.cells #[.int .i64 0, .string ⟨#[]⟩, .int .i64 0, .slice none 0 0, .slice none 0 0, .slice none 0 0] 26) := ⟨_, rfl⟩
 obtain ⟨g, hg⟩ : ∃ g, g = w.heap.size + 1 := ⟨_, rfl⟩
 have hb1 : Below w.heap.size w w1 := by rw [hw1]; exact ((Below.refl _ _).alloc (Nat.le_refl _) _).alloc (by simp) _
 have hs1 : w1.heap.size = w.heap.size + 2 := by rw [hw1]; simp
 have hx0 : w1.heap[w.heap.size]? = some (.cells #[.int .i64 k, .string s, .int .i64 n, .slice A ps.length c, .slice A' fs.length c', .slice A'' vs.length c''] 26 (0, 0)) := by rw [hw1, Below.heap_alloc _ _ _ (by simp)]; exact heap_alloc_new w _
 have hx1 : w1.heap[g]? = some (.cells #[.int .i64 0, .string ⟨#[]⟩, .int .i64 0, .slice none 0 0, .slice none 0 0, .slice none 0 0] 26 (0, 0)) := by
  rw [hw1, hg]
  have h := heap_alloc_new (w.alloc (.cells #[.int .i64 k, .string s, .int .i64 n, .slice A ps.length c, .slice A' fs.length c', .slice A'' vs.length c''] 26)) (.cells #[.int .i64 0, .string ⟨#[]⟩, .int .i64 0, .slice none 0 0, .slice none 0 0, .slice none 0 0] 26)
  rw [World.size_alloc] at h
  exact h
 have HB1 := Hd hb1
 have HS1 := Hd hs1
 have HX0 := Hd hx0
 have HX1 := Hd hx1
 have HW1 := Hd hw1
 have HG := Hd hg
 have HLO := Hd hlo
 unfold BadPost
 clear hr hb1 hs1 hx0 hx1 hw1 hg hlo hft
 go_enter Tryz.func6, Tryz.ntmps6
 go_upto_region 1 with fail
 rw [← HW1.out, ← HG.out]
 obtain ⟨x0, x1, x2, x3, x4, x5⟩ := cz6 HX0.out
 go_wp2_with fail
 refine (KF.out _ HB1.out).mono ?_
 rintro e w2 ⟨rfl, hb⟩
 have HZ2 := Hd hb
 have HB2 := Hd (HB1.out.trans (hb.mono HB1.out.size))
 have h2 := box_up hb (by have := HS1.out; omega) HX0.out
 clear x0 x1 x2 x3 x4 x5 hb KF
 obtain ⟨x0, x1, x2, x3, x4, x5⟩ := cz6 h2
 clear h2
 go_upto_region 2 with fail
 have rb := box_up HZ2.out (by have := HG.out; have := HS1.out; omega) HX1.out
 obtain ⟨q0, q1, q2, q3, q4, q5, z0, z1, z2, z3, z4, z5⟩ := qz6 rb
 have RBX := Hd rb
 clear rb
 go_wp2_with fail
 have rs := six_set RBX.out (.int .i64 0) (.string ⟨#[]⟩) (.int .i64 0) (.slice none 0 0) (.slice none 0 0) (.slice none 0 0)
 obtain ⟨r0, r1, r2, r3, r4, r5⟩ := cz6 rs
 clear q0 q1 q2 q3 q4 q5 z0 z1 z2 z3 z4 z5 RBX rs
 refine bodyPost_ret (v := .tuple #[.agg #[.int .i64 0, .string ⟨#[]⟩, .int .i64 0, .slice none 0 0, .slice none 0 0, .slice none 0 0], .int .i64 4]) (by simp [results, Tryz.results6, go_sem, r0, r1, r2, r3, r4, r5]) rfl ?_
 clear r0 r1 r2 r3 r4 r5
 exact ⟨rfl, set_six_below HB2.out (by have := HG.out; omega) _ _ _ _ _ _⟩
theorem parts_any {K : Nat → Prop} {w : World} {t : Ty} {cs : List Value} (hr : RepT K w t cs) (hlo : ∀ b, K b → b < w.heap.size) (hn : t.ps.length ≤ 1099511627776) :
  Calls Tryz.prog 22 #[.agg cs.toArray] w (ListPost K w (prtsT t)) := by
 obtain ⟨k, s, n, ps, fs, vs⟩ := t
 unfold prtsT
 have e1 : Ty.k (.mk k s n ps fs vs) = k := rfl
 have e2 : Ty.ps (.mk k s n ps fs vs) = ps := rfl
 rw [e1, e2]
 rw [e2] at hn
 by_cases h15 : k = 15
 ·subst h15; rw [if_pos rfl]; exact parts_15 s n ps fs vs hr hlo hn
 rw [if_neg h15]
 by_cases h1 : k = 1
 ·subst h1; rw [if_pos rfl]; exact parts_1 s n ps fs vs hr hlo
 rw [if_neg h1]
 exact parts_no k s n ps fs vs hr hlo h15 h1
theorem eparts_any {K : Nat → Prop} {w : World} {t : Ty} {cs : List Value} (hr : RepT K w t cs) (hlo : ∀ b, K b → b < w.heap.size) (hn : t.ps.length ≤ 1099511627776) :
  Calls Tryz.prog 10 #[.agg cs.toArray] w (ListPost K w (prtsT t)) := by
 have KP := Hd fun wx (hx : Below w.heap.size w wx) => parts_any (hr.later hx) (fun b h => Nat.lt_of_lt_of_le (hlo b h) hx.size) hn
 generalize prtsT t = l at KP
 obtain ⟨k, s, n, ps, fs, vs⟩ := t
 obtain ⟨A, c, A', c', A'', c'', rfl, -⟩ := hr.inv
 simp only [cells6T] at KP ⊢
 obtain ⟨w1, hw1⟩ : ∃ x, x = w.alloc (.cells #[.int .i64 k, .string s, .int .i64 n, .slice A ps.length c, .slice A' fs.length c', .slice A'' vs.length c''] 26) := ⟨_, rfl⟩
 have hb1 : Below w.heap.size w w1 := by rw [hw1]; exact (Below.refl _ _).alloc (Nat.le_refl _) _
 have hx0 : w1.heap[w.heap.size]? = some (.cells #[.int .i64 k, .string s, .int .i64 n, .slice A ps.length c, .slice A' fs.length c', .slice A'' vs.length c''] 26 (0, 0)) := by rw [hw1]; exact heap_alloc_new w _
 have HB1 := Hd hb1
 have HX0 := Hd hx0
 have HW1 := Hd hw1
 unfold ListPost
 clear hr hb1 hx0 hw1 hlo hn
 go_enter Tryz.func10, Tryz.ntmps10
 go_upto_region 1 with fail
 rw [← HW1.out]
 obtain ⟨x0, x1, x2, x3, x4, x5⟩ := cz6 HX0.out
 go_wp2_with fail
 refine (KP.out _ HB1.out).mono ?_
 rintro e w2 ⟨A3, c3, rfl, hl, hb⟩
 have HL := Hd (And.intro hl (HB1.out.trans (hb.mono HB1.out.size)))
 clear hl hb KP x0 x1 x2 x3 x4 x5
 go_wp2_with fail
 go_ret
 exact ⟨A3, c3, rfl, HL.out.1.weak fun b h => h.imp id fun h => Nat.le_trans HB1.out.size h, HL.out.2⟩
theorem among_ref {K K' : Nat → Prop} {w : World} {b x : Ty} {cs ds : List Value} (hr : RepT K w b cs) (hp : RepT K' w x ds) (hlo : ∀ a, K a → a < w.heap.size) :
  Calls Tryz.prog 66 #[.agg cs.toArray, .agg ds.toArray] w fun e w' => e = .returned (.bool (amongT b x)) ∧ Below w.heap.size w w' := by
 have KP0 := fun wx (hx : Below w.heap.size w wx) => prts_ref (hr.later hx) (fun a h => Nat.lt_of_lt_of_le (hlo a h) hx.size)
 have KO0 : ∀ (q : Ty) wx es (K2 : Nat → Prop), Below w.heap.size w wx → RepT K2 wx q es → Calls Tryz.prog 23 #[.agg es.toArray, .agg ds.toArray] wx fun e w' => e = .returned (.int .i64 (ordT q x)) ∧ Gw wx w' := fun q wx es K2 hx hq => order_ref q K2 K' x wx es ds hq (hp.later hx)
 obtain ⟨k, s, n, ps, fs, vs⟩ := b
 unfold amongT
 have e1 : Ty.k (.mk k s n ps fs vs) = k := rfl
 rw [e1]
 clear e1
 have KX : Hid (∀ q : Ty, q.k = q.k) := Hd fun _ => rfl
 clear KX
 generalize hO : (fun p => decide (ordT p x = 0)) = O
 have HOD : Hid (∀ p, O p = decide (ordT p x = 0)) := Hd fun p => by rw [← hO]
 clear hO
 have KO : Hid (∀ (q : Ty) wx es (K2 : Nat → Prop), Below w.heap.size w wx → RepT K2 wx q es → Calls Tryz.prog 23 #[.agg es.toArray, .agg ds.toArray] wx fun e w' => ∃ z : Int, e = .returned (.int .i64 z) ∧ (z == 0) = O q ∧ Below wx.heap.size wx w') := Hd fun q wx es K2 hx hq => (KO0 q wx es K2 hx hq).mono fun e w' h => ⟨_, h.1, by rw [HOD.out]; rfl, h.2.below⟩
 clear KO0 HOD
 obtain ⟨k3, s3, n3, ps3, fs3, vs3⟩ := x
 refine two_pre hr hp fun A c B d C e A3 c3 B3 d3 C3 e3 w1 h hcs hds => ?_
 subst hcs
 subst hds
 obtain ⟨HBX, HB1, HW1, -, -⟩ := h
 have KP := Hd (KP0 w1 HB1.out)
 generalize prtsT (.mk k s n ps fs vs) = L at KP ⊢
 clear KP0 hr hp hlo
 by_cases h8 : k = 8
 ·subst h8
  go_enter Tryz.func66, Tryz.ntmps66
  go_upto_region 1 with fail
  rw [← HW1.out]
  obtain ⟨⟨x0, x1, x2, x3, x4, x5⟩, ⟨y0, y1, y2, y3, y4, y5⟩⟩ := HBX.out _ (Below.refl _ _)
  go_wp2_with fail
  go_ret
  exact ⟨rfl, HB1.out⟩
 have f1 : (k == 8) = false := beq_eq_false_iff_ne.2 h8
 rw [f1, Bool.false_or]
 clear h8
 go_enter Tryz.func66, Tryz.ntmps66
 go_upto_region 1 with fail
 rw [← HW1.out]
 obtain ⟨⟨x0, x1, x2, x3, x4, x5⟩, ⟨y0, y1, y2, y3, y4, y5⟩⟩ := HBX.out _ (Below.refl _ _)
 go_wp2_with fail
 refine (KP.out).mono ?_
 rintro e w2 ⟨A2, c2, rfl, hl, hb2⟩
 have HL := Hd hl
 have HB12 := Hd hb2
 have HB2 := Hd (HB1.out.trans (hb2.mono HB1.out.size))
 have HLN := Hd hl.short
 clear hl hb2 KP x0 x1 x2 x3 x4 x5 y0 y1 y2 y3 y4 y5
 go_wp2_with fail
 go_loopw [6] (fun v wr => ∃ i : Nat, i ≤ L.length ∧ v = .int .i64 i ∧ (∀ p ∈ L.take i, O p = false) ∧ Below w2.heap.size w2 wr) (fun v _ => L.length - (intOf v).toNat)
 case atStart => exact ⟨0, by omega, rfl, fun p h => absurd h (by simp), Below.refl _ _⟩
 case round =>
  obtain ⟨i, hi, rfl, hno, hb⟩ := hrel
  have HNO := Hd hno
  have HBR := Hd hb
  clear hno hb
  have hll := HLN.out
  by_cases hin : i < L.length
  ·have t1 : decide ((i : Int) < (L.length : Int)) = true := by simp; omega
   have wr2 : wrap64 ((i : Int) + 1) = ((i + 1 : Nat) : Int) := wrap_one (by omega)
   have HM := Hd (measI hin)
   have HIn : Hid (i + 1 ≤ L.length) := Hd hin
   obtain ⟨tb, tq, hA, -, hat⟩ := HL.out.at (by omega)
   subst hA
   obtain ⟨es, hes, hrq⟩ := hat i hin
   have HNX : Hid (O L[i] = false → ∀ p ∈ L.take (i + 1), O p = false) := Hd fun e p hp => by
    rw [List.take_succ_eq_append_getElem hin, List.mem_append, List.mem_singleton] at hp
    rcases hp with hp | rfl
    ·exact HNO.out p hp
    ·exact e
   have HYS : Hid (O L[i] = true → L.any O = true) := Hd fun e => List.any_eq_true.2 ⟨_, List.getElem_mem hin, e⟩
   have KQ : Hid (∀ wx, Below wr.heap.size wr wx → Calls Tryz.prog 23 #[.agg es.toArray, .agg #[.int .i64 k3, .string s3, .int .i64 n3, .slice A3 ps3.length c3, .slice B3 fs3.length d3, .slice C3 vs3.length e3]] wx fun e w' => ∃ z : Int, e = .returned (.int .i64 z) ∧ (z == 0) = O L[i] ∧ Below wx.heap.size wx w') := Hd fun wx hx => KO.out L[i] wx es _ (HB2.out.trans ((HBR.out.trans (hx.mono HBR.out.size)).mono HB2.out.size)) (hrq.later (HBR.out.trans (hx.mono HBR.out.size)))
   generalize L[i] = u at hrq HNX HYS KQ
   obtain ⟨k4, s4, n4, ps4, fs4, vs4⟩ := u
   obtain ⟨A4, c4, B4, d4, C4, e4, rfl, -⟩ := hrq.inv
   simp only [cells6T] at hes KQ
   have HC : Hid (∀ wx, Below wr.heap.size wr wx → (wx.cell? ⟨tb, tq + i * 6, none⟩ = some (.int .i64 k4) ∧ wx.cell? ⟨tb, tq + i * 6 + 1, none⟩ = some (.string s4) ∧ wx.cell? ⟨tb, tq + i * 6 + 2, none⟩ = some (.int .i64 n4) ∧ wx.cell? ⟨tb, tq + i * 6 + 3, none⟩ = some (.slice A4 ps4.length c4) ∧ wx.cell? ⟨tb, tq + i * 6 + 4, none⟩ = some (.slice B4 fs4.length d4) ∧ wx.cell? ⟨tb, tq + i * 6 + 5, none⟩ = some (.slice C4 vs4.length e4)) ∧ (wx.cell? ⟨w.heap.size + 1, 0, none⟩ = some (.int .i64 k3) ∧ wx.cell? ⟨w.heap.size + 1, 1, none⟩ = some (.string s3) ∧ wx.cell? ⟨w.heap.size + 1, 2, none⟩ = some (.int .i64 n3) ∧ wx.cell? ⟨w.heap.size + 1, 3, none⟩ = some (.slice A3 ps3.length c3) ∧ wx.cell? ⟨w.heap.size + 1, 4, none⟩ = some (.slice B3 fs3.length d3) ∧ wx.cell? ⟨w.heap.size + 1, 5, none⟩ = some (.slice C3 vs3.length e3))) := Hd fun wx hx => by
    have hxx := HBR.out.trans (hx.mono HBR.out.size)
    exact ⟨⟨cell_stays hxx (hes 0 _ rfl), cell_stays hxx (hes 1 _ rfl), cell_stays hxx (hes 2 _ rfl), cell_stays hxx (hes 3 _ rfl), cell_stays hxx (hes 4 _ rfl), cell_stays hxx (hes 5 _ rfl)⟩, (HBX.out wx (HB12.out.trans (hxx.mono HB12.out.size))).2⟩
   generalize O (.mk k4 s4 n4 ps4 fs4 vs4) = ob at HNX HYS KQ
   have i1 : (0 : Int) ≤ (i : Int) := by omega
   have i2 : (i : Int) < (L.length : Int) := by omega
   clear hi hat hes hrq hll HNO
   go_upto_region 7 with fail
   refine wp_region_held_drew (S := (fun w' => (w'.cell? ⟨tb, tq + i * 6, none⟩ = some (.int .i64 k4) ∧ w'.cell? ⟨tb, tq + i * 6 + 1, none⟩ = some (.string s4) ∧ w'.cell? ⟨tb, tq + i * 6 + 2, none⟩ = some (.int .i64 n4) ∧ w'.cell? ⟨tb, tq + i * 6 + 3, none⟩ = some (.slice A4 ps4.length c4) ∧ w'.cell? ⟨tb, tq + i * 6 + 4, none⟩ = some (.slice B4 fs4.length d4) ∧ w'.cell? ⟨tb, tq + i * 6 + 5, none⟩ = some (.slice C4 vs4.length e4)) ∧ (w'.cell? ⟨w.heap.size + 1, 0, none⟩ = some (.int .i64 k3) ∧ w'.cell? ⟨w.heap.size + 1, 1, none⟩ = some (.string s3) ∧ w'.cell? ⟨w.heap.size + 1, 2, none⟩ = some (.int .i64 n3) ∧ w'.cell? ⟨w.heap.size + 1, 3, none⟩ = some (.slice A3 ps3.length c3) ∧ w'.cell? ⟨w.heap.size + 1, 4, none⟩ = some (.slice B3 fs3.length d3) ∧ w'.cell? ⟨w.heap.size + 1, 5, none⟩ = some (.slice C3 vs3.length e3)))) (by kernel_rfl) (HC.out _ (Below.refl _ _).drew) (fun hHeld => ?_)
   refine Plan.start [0, 1, 2, 3, 4] ?_
   iterate 5 (refine Plan.tk (so rfl) hHeld ?_; try simp only [Act.put, pz1, pz2, pz3])
   refine Plan.done ?_
   refine wpAnyH_ready (rs := [5]) (by kernel_rfl) (by simp) ?_
   refine AllReadyH.cons (sd (some 23) rfl) (fun Kx hK => ?_) AllReadyH.nil
   go_simp
   refine (KQ.out _ (Below.refl _ _).drew).mono ?_
   rintro e w5 ⟨z, rfl, hz, hb5⟩
   have HB5 := Hd ((Below.refl wr.heap.size wr).drew.trans hb5)
   clear hb5
   go_wp2_with fail
   refine hK.out _ _ (HC.out _ HB5.out) (fun hHeld => ?_)
   clear hK Kx
   try simp only [Act.put, pz1, pz2, pz3]
   refine Plan.start [6] ?_
   refine Plan.tk (so rfl) hHeld ?_
   try simp only [Act.put, pz1, pz2, pz3]
   refine Plan.done ?_
   refine wpAnyH_done (by kernel_rfl) ?_ _
   clear hHeld
   try clear hHeld
   rcases Bool.eq_false_or_eq_true ob with hob | hob
   ·subst hob
    go_wp2_with fail
    go_ret
    exact ⟨by rw [HYS.out (by first | rfl | trivial)]; rfl, HB2.out.trans ((HBR.out.trans (HB5.out.mono HBR.out.size)).mono HB2.out.size)⟩
   ·subst hob
    go_wp2_with fail
    rw [wr2]
    exact ⟨⟨i + 1, HIn.out, rfl, HNX.out (by first | rfl | trivial), HBR.out.trans (HB5.out.mono HBR.out.size)⟩, HM.out⟩
  ·have t1 : decide ((i : Int) < (L.length : Int)) = false := by simp; omega
   obtain rfl : i = L.length := by omega
   have HF : Hid (L.any O = false) := Hd (by
    rw [List.any_eq_false]
    intro p hp
    have := HNO.out p (by rw [List.take_length]; exact hp)
    simp [this])
   clear hin hi hll
   go_wp2_with fail
   go_ret
   exact ⟨by rw [HF.out]; rfl, HB2.out.trans (HBR.out.mono HB2.out.size)⟩
end Go.Proofs.YteakkjhcdpbidaaGreatDoor
