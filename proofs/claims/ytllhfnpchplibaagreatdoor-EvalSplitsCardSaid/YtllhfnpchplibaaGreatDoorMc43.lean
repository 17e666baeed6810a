import Derived.Test.YtllhfnpchplibaaGreatDoorMc42
namespace Go.Proofs.YtllhfnpchplibaaGreatDoor
open Go.RowKit
theorem rep_str (K : Nat → Prop) (w : World) (s : ByteArray) (hs : s.size ≤ 1000000000000000) : RepT K w (strT s) [.int .i64 10, .string s, .int .i64 0, .slice none 0 0, .slice none 0 0, .slice none 0 0] :=
 RepT.of hs ⟨⟨0, 0, ⟨by simp, by decide, fun _ => rfl, fun h => absurd h (by simp)⟩, fun i h => absurd h (by simp)⟩⟩ ⟨⟨0, 0, ⟨by simp, by decide, fun _ => rfl, fun h => absurd h (by simp)⟩, fun i h => absurd h (by simp)⟩⟩ ⟨⟨0, 0, ⟨by simp, by decide, fun _ => rfl, fun h => absurd h (by simp)⟩, fun i h => absurd h (by simp)⟩⟩
theorem wp_append_one {K : Nat → Prop} {w0 w : World} {v : Value} {ts : List Ty} {t : Ty} {cs : List Value} {gg : Nat} {o : Oper} {a : Act} {Kc : Act → World → Prop} {Q : Exit → Act → World → Prop} (sl x : Operand)
  (ho : o.op = .call { callee := .builtin .append, args := #[sl, x], argTypes := #[22, 22] }) (hs : a.eval sl = v) (hx : a.eval x = .slice (some ⟨gg, 0, none⟩) 1 1)
  (hO : OutT K w0 w v ts) (ht : RepT K w0 t cs) (hc : ∀ j u, cs[j]? = some u → w.cell? ⟨gg, j, none⟩ = some u) (hb : Below w0.heap.size w0 w) (hsize : ts.length + 1 ≤ 1099511627776)
  (h : ∀ v' w', OutT K w0 w' v' (ts ++ [t]) → Below w0.heap.size w0 w' → w.grownBy w' v.ownBlock → Kc (a.put o.dst v') w') :
  Oper.wp Tryz.prog o a w Kc Q := by
 obtain ⟨vs, hown, hreps⟩ := hO
 obtain ⟨i0, hi0, hz0, hz1, hz2⟩ := partsT infoTy
 refine wp_append_own_at sl x 22 ho w0.heap.size 26 i0 _ 6 104 sliceTy hi0 hz0 hz1 hz2 (by decide) (by decide) v ts.length vs hs hown ⟨gg, 0, none⟩ 1 1 cs hx (by rw [ht.six]) (fun j u hj => ?_) (one_cells ht) (by simp only [maxLen]; omega) (by omega) hb.size ?_
 ·have e2 : ((⟨gg, 0, none⟩ : Addr).add j) = ⟨gg, j, none⟩ := by unfold Addr.add; by_cases h0 : j = 0 <;> simp [h0]
  rw [e2]; exact hc j u hj
 ·intro v' w' g1 g2 _ _
  exact h v' w' (OutT.snoc hown.1 hreps ht g1) (hb.grown g2 hb.size fun k hk => (hown.lt k hk).1) g2
theorem flat_strs_len (l : List ByteArray) : (flatU (l.map strT)).length = l.length := by rw [flat_strs, List.length_map]
theorem OutT.block_lt {K : Nat → Prop} {w0 w : World} {v : Value} {ts : List Ty} (h : OutT K w0 w v ts) {b : Nat} (hb : v.ownBlock = some b) : b < w.heap.size := by
 obtain ⟨vs, hown, _⟩ := h
 exact (hown.lt b hb).2
set_option maxRecDepth 100000 in
set_option maxHeartbeats 32000000 in
theorem lkeys_some (hU : UnionP) {K : Nat → Prop} {w : World} {t : Ty} {cs : List Value} (hr : RepT K w t cs) (hlo : ∀ b, K b → b < w.heap.size) (l : List ByteArray) (hl : l.length ≤ 1000000) (hsz : ∀ x ∈ l, x.size ≤ 1000000000000000)
  (KK : ∀ wx, Below w.heap.size w wx → Calls Tryz.prog 44 #[.agg cs.toArray] wx (KeyPost wx (some l))) :
  Calls Tryz.prog 29 #[.agg cs.toArray] w (TyPost K w (unionT (l.map strT))) := by
 obtain ⟨k, s, n, ps, fs, vs⟩ := t
 obtain ⟨A, c, A', c', A'', c'', rfl, -⟩ := hr.inv
 simp only [cells6T] at hr KK ⊢
 obtain ⟨ts, hts⟩ : ∃ ts, ts = l.map strT := ⟨_, rfl⟩
 have HTS : Hid (ts.length = l.length ∧ (flatU ts).length ≤ 1000000 ∧ ∀ i (h : i < l.length), ts.take (i + 1) = ts.take i ++ [strT l[i]]) := Lib.hid (by
  subst hts
  refine ⟨List.length_map _, by rw [flat_strs_len]; exact hl, fun i h => ?_⟩
  rw [List.take_succ_eq_append_getElem (by rw [List.length_map]; exact h), List.getElem_map])
 rw [← hts]
 generalize hu : unionT ts = u
 obtain ⟨k2, s2, n2, ps2, fs2, vs2⟩ := u
 have HUE := Lib.hid hu
 clear hts
 have HLL := Lib.hid hl
 have HSZ := Lib.hid hsz
 have hll := hl
 clear hu hl hsz
 obtain ⟨w1, hw1⟩ : ∃ x, x = (w.alloc (.cells #[.int .i64 k, .string s, .int .i64 n, .slice A ps.length c, .slice A' fs.length c', .slice A'' vs.length c''] 26)).alloc (.cells #[.int .i64 0, .string ⟨#[]⟩, .int .i64 0, .slice none 0 0, .slice none 0 0, .slice none 0 0] 26) := ⟨_, rfl⟩
 obtain ⟨g, hg⟩ : ∃ g, g = w.heap.size + 1 := ⟨_, rfl⟩
 have hb1 : Below w.heap.size w w1 := by rw [hw1]; exact ((Below.refl _ _).alloc (Nat.le_refl _) _).alloc (by simp) _
 have hs1 : w1.heap.size = w.heap.size + 2 := by rw [hw1]; simp
 have hx0 : w1.heap[w.heap.size]? = some (.cells #[.int .i64 k, .string s, .int .i64 n, .slice A ps.length c, .slice A' fs.length c', .slice A'' vs.length c''] 26 (0, 0)) := by rw [hw1, Below.heap_alloc _ _ _ (by simp)]; exact heap_alloc_new w _
 have hx1 : w1.heap[g]? = some (.cells #[.int .i64 0, .string ⟨#[]⟩, .int .i64 0, .slice none 0 0, .slice none 0 0, .slice none 0 0] 26 (0, 0)) := by
  rw [hw1, hg]
  have h := heap_alloc_new (w.alloc (.cells #[.int .i64 k, .string s, .int .i64 n, .slice A ps.length c, .slice A' fs.length c', .slice A'' vs.length c''] 26)) (.cells #[.int .i64 0, .string ⟨#[]⟩, .int .i64 0, .slice none 0 0, .slice none 0 0, .slice none 0 0] 26)
  rw [World.size_alloc] at h
  exact h
 have HB1 := Lib.hid hb1
 have HS1 := Lib.hid hs1
 have HX0 := Lib.hid hx0
 have HX1 := Lib.hid hx1
 have HW1 := Lib.hid hw1
 have HG := Lib.hid hg
 have HLO := Lib.hid hlo
 have HU := Lib.hid hU
 have KC := Lib.hid (KK w1 hb1)
 unfold TyPost
 clear hr hb1 hs1 hx0 hx1 hw1 hg hlo hU KK
 go_enter Tryz.func29, Tryz.ntmps29
 go_upto_region 1 with fail
 rw [← HW1.out, ← HG.out]
 obtain ⟨x0, x1, x2, x3, x4, x5⟩ := cz6 HX0.out
 go_wp2_with fail
 refine KC.out.mono ?_
 rintro e w2 ⟨hm, hb⟩
 obtain ⟨A2, c2, he, hls⟩ : ∃ A2 c2, e = .returned (.agg #[.bool false, .slice A2 l.length c2]) ∧ ListS w2 l A2 := hm
 subst he
 have HB2 := Lib.hid hb
 have HBE := Lib.hid (HB1.out.trans (hb.mono HB1.out.size))
 have HLS := Lib.hid hls
 clear hls hb KC x0 x1 x2 x3 x4 x5
 go_upto_region 2 with fail
 obtain ⟨w3, hw3⟩ : ∃ x, x = w2.alloc (.cells #[.bool false, .slice A2 l.length c2] 67) := ⟨_, rfl⟩
 rw [← hw3]
 have hbW : Below w2.heap.size w2 w3 := by rw [hw3]; exact (Below.refl _ _).alloc (Nat.le_refl _) _
 have hx3 : w3.heap[w2.heap.size]? = some (.cells #[.bool false, .slice A2 l.length c2] 67 (0, 0)) := by rw [hw3]; exact heap_alloc_new w2 _
 have q0 := Lib.cell_of_heap hx3 0
 have q1 := Lib.cell_of_heap hx3 1
 simp only [List.getElem?_toArray, List.getElem?_cons_zero, List.getElem?_cons_succ] at q0 q1
 have HB3 := Lib.hid (HBE.out.trans (hbW.mono HBE.out.size))
 have HZ3 := Lib.hid (HB2.out.trans (hbW.mono HB2.out.size))
 have HBW := Lib.hid hbW
 clear hw3 hbW hx3
 go_wp2_with fail
 go_loopw [4, 15] (fun ov v wr => ∃ (i : Nat), i ≤ l.length ∧ v = .int .i64 i ∧ OutT K w3 wr ov (ts.take i) ∧ Below w3.heap.size w3 wr) (fun _ v _ => l.length - (intOf v).toNat)
 case atStart => exact ⟨0, by omega, rfl, ⟨⟨[], World.ownsRow_nil _ _ _ _, fun i h => absurd h (by simp)⟩⟩, Below.refl _ _⟩
 case round =>
  obtain ⟨i, hi, rfl, ho, hb⟩ := hrel
  have HO := Lib.hid ho
  have HB := Lib.hid hb
  by_cases hin : i < l.length
  ·have t1 : decide ((i : Int) < (l.length : Int)) = true := by simp; omega
   have wr2 : wrap64 ((i : Int) + 1) = ((i + 1 : Nat) : Int) := wrap_one (by omega)
   have HM := Lib.hid (measI hin)
   have HIn : Hid (i + 1 ≤ l.length) := Lib.hid hin
   obtain ⟨b, o, hA, -, hat⟩ := HLS.out
   have hA2 := hA (by omega)
   subst hA2
   have HTk : Hid (ts.take (i + 1) = ts.take i ++ [strT l[i]] ∧ (ts.take i).length + 1 ≤ 1099511627776) := Lib.hid ⟨HTS.out.2.2 i hin, by rw [List.length_take]; omega⟩
   have hnz := HSZ.out _ (List.getElem_mem hin)
   have z0 : wr.cell? ⟨b, o + i, none⟩ = some (.string l[i]) := cell_stays hb (cell_stays HBW.out (hat i hin))
   generalize l[i] = nm at HTk hnz z0
   have HNZ := Lib.hid hnz
   obtain ⟨vs0, hvs0, -⟩ := ho
   obtain ⟨A5, c5, rfl, -⟩ := sliceT hvs0
   obtain ⟨W2, hW2⟩ : ∃ x, x = wr.alloc (.cells #[.int .i64 10, .string nm, .int .i64 0, .slice none 0 0, .slice none 0 0, .slice none 0 0] 26) := ⟨_, rfl⟩
   have hbW2 : Below wr.heap.size wr W2 := by rw [hW2]; exact (Below.refl _ _).alloc (Nat.le_refl _) _
   have HOW : Hid (OutT K w3 W2 (.slice A5 (ts.take i).length c5) (ts.take i)) := Lib.hid (HO.out.keep fun b hb => hbW2.block b (HO.out.block_lt hb))
   have HC : Hid (∀ j u, ([.int .i64 10, .string nm, .int .i64 0, .slice none 0 0, .slice none 0 0, .slice none 0 0] : List Value)[j]? = some u → W2.cell? ⟨wr.heap.size, j, none⟩ = some u) := Lib.hid fun j u hj => by rw [hW2, Lib.cell_of_heap (heap_alloc_new wr _)]; simpa using hj
   have HBB := Lib.hid (HB.out.trans (hbW2.mono HB.out.size))
   have HW2 := Lib.hid hW2
   clear hi hA hat hb hvs0 hW2 hbW2 hnz
   go_wp2_with (at_builtin; refine wpList_plain rfl fun Kx hK => ?_; rw [← HW2.out]; go_loud (refine wp_append_one (K := K) (w0 := w3) (gg := wr.heap.size) (t := strT nm) (ts := ts.take i) _ _ rfl (by rfl) (by rfl) HOW.out (rep_str K w3 nm HNZ.out) HC.out HBB.out HTk.out.2 ?_))
   intro v3 w4 ho3 hb3 _
   refine hK _ _ ?_
   clear hK Kx
   rw [← HTk.out.1] at ho3
   have HO3 := Lib.hid (And.intro ho3 hb3)
   clear ho3 hb3 z0
   go_wp2_with fail
   refine ⟨⟨i + 1, HIn.out, by first | rfl | rw [wr2], HO3.out.1, HO3.out.2⟩, ?_⟩
   first | exact HM.out | (rw [wr2]; exact HM.out)
  ·have t1 : decide ((i : Int) < (l.length : Int)) = false := by simp; omega
   have hil : ts.take i = ts := List.take_of_length_le (by have := HTS.out.1; omega)
   rw [hil] at ho
   obtain ⟨vs0, hvs0, -⟩ := ho
   obtain ⟨A5, c5, rfl, -⟩ := sliceT hvs0
   have ho := HO.out
   rw [hil] at ho
   have KU := Lib.hid (union_own HU.out ho (fun b h => by have := HLO.out b h; have := HB3.out.size; omega) hb (by have := HTS.out.2.1; omega) (by have := HTS.out.1; have := HLL.out; omega))
   clear ho
   clear hi hil hvs0 hb
   go_wp2_with fail
   refine KU.out.mono ?_
   rintro e w5 ⟨rs, rfl, hr5, hb5⟩
   have HZ5 := Lib.hid (HZ3.out.trans ((HB.out.trans (hb5.mono HB.out.size)).mono HZ3.out.size))
   have HB5 := Lib.hid (HB1.out.trans (HZ5.out.mono HB1.out.size))
   have rb := box_up HZ5.out (by have := HG.out; have := HS1.out; omega) HX1.out
   have hr6 : RepT (fun b => K b ∨ g < b) w5 (unionT ts) rs := hr5.weak fun b h => h.imp id fun h => by have := HG.out; have := HS1.out; have := HZ3.out.size; omega
   rw [HUE.out] at hr6
   obtain ⟨Aq, cq, Ag, cg, Ah, ch, rfl, -⟩ := hr6.inv
   have HR6 := Lib.hid hr6
   simp only [cells6T] at HR6 ⊢
   clear hr5 hb5 hr6 KU
   obtain ⟨q0, q1, q2, q3, q4, q5, z0, z1, z2, z3, z4, z5⟩ := qz6 rb
   have RBX := Lib.hid rb
   clear rb
   go_wp2_with fail
   have rs := six_set RBX.out (.int .i64 k2) (.string s2) (.int .i64 n2) (.slice Aq ps2.length cq) (.slice Ag fs2.length cg) (.slice Ah vs2.length ch)
   obtain ⟨r0, r1, r2, r3, r4, r5⟩ := cz6 rs
   clear q0 q1 q2 q3 q4 q5 z0 z1 z2 z3 z4 z5 RBX rs
   refine bodyPost_ret (v := .agg #[.int .i64 k2, .string s2, .int .i64 n2, .slice Aq ps2.length cq, .slice Ag fs2.length cg, .slice Ah vs2.length ch]) (by simp [results, Tryz.results29, go_sem, r0, r1, r2, r3, r4, r5]) rfl ?_
   clear r0 r1 r2 r3 r4 r5
   exact ⟨[.int .i64 k2, .string s2, .int .i64 n2, .slice Aq ps2.length cq, .slice Ag fs2.length cg, .slice Ah vs2.length ch], rfl, ret_box HR6.out (fun b h => by have := HLO.out b h; have := HG.out; omega) (by have := HG.out; omega) _ _ _ _ _ _, set_six_below HB5.out (by have := HG.out; omega) _ _ _ _ _ _⟩
set_option maxRecDepth 100000 in
set_option maxHeartbeats 16000000 in
theorem ekeys_ok {K : Nat → Prop} {w : World} {t u : Ty} {cs : List Value} (hr : RepT K w t cs) (hlo : ∀ b, K b → b < w.heap.size) (hft : formedT t = true) (KA : ∀ wx, Below w.heap.size w wx → Calls Tryz.prog 29 #[.agg cs.toArray] wx (TyPost K wx u)) :
  Calls Tryz.prog 14 #[.agg cs.toArray] w (OkPost K w u) := by
 have KF := Lib.hid fun wx (hx : Below w.heap.size w wx) => Formed_any (hr.later hx)
 rw [hft] at KF
 obtain ⟨k, s, n, ps, fs, vs⟩ := t
 obtain ⟨A, c, A', c', A'', c'', rfl, -⟩ := hr.inv
 simp only [cells6T] at KF KA ⊢
 obtain ⟨w1, hw1⟩ : ∃ x, x = (w.alloc (.cells #[.int .i64 k, .string s, .int .i64 n, .slice A ps.length c, .slice A' fs.length c', .slice A'' vs.length c''] 26)).alloc (.cells #[.int .i64 0, .string ⟨#[]⟩, .int .i64 0, .slice none 0 0, .slice none 0 0, .slice none 0 0] 26) := ⟨_, rfl⟩
 obtain ⟨g, hg⟩ : ∃ g, g = w.heap.size + 1 := ⟨_, rfl⟩
 have hb1 : Below w.heap.size w w1 := by rw [hw1]; exact ((Below.refl _ _).alloc (Nat.le_refl _) _).alloc (by simp) _
 have hs1 : w1.heap.size = w.heap.size + 2 := by rw [hw1]; simp
 have hx0 : w1.heap[w.heap.size]? = some (.cells #[.int .i64 k, .string s, .int .i64 n, .slice A ps.length c, .slice A' fs.length c', .slice A'' vs.length c''] 26 (0, 0)) := by rw [hw1, Below.heap_alloc _ _ _ (by simp)]; exact heap_alloc_new w _
 have hx1 : w1.heap[g]? = some (.cells #[.int .i64 0, .string ⟨#[]⟩, .int .i64 0, .slice none 0 0, .slice none 0 0, .slice none 0 0] 26 (0, 0)) := by
  rw [hw1, hg]
  have h := heap_alloc_new (w.alloc (.cells #[.int .i64 k, .string s, .int .i64 n, .slice A ps.length c, .slice A' fs.length c', .slice A'' vs.length c''] 26)) (.cells #[.int .i64 0, .string ⟨#[]⟩, .int .i64 0, .slice none 0 0, .slice none 0 0, .slice none 0 0] 26)
  rw [World.size_alloc] at h
  exact h
 have HB1 := Lib.hid hb1
 have HS1 := Lib.hid hs1
 have HX0 := Lib.hid hx0
 have HX1 := Lib.hid hx1
 have HW1 := Lib.hid hw1
 have HG := Lib.hid hg
 have HLO := Lib.hid hlo
 have KA2 := Lib.hid KA
 obtain ⟨k2, s2, n2, ps2, fs2, vs2⟩ := u
 unfold OkPost
 clear KA
 clear hr hb1 hs1 hx0 hx1 hw1 hg hlo hft
 go_enter Tryz.func14, Tryz.ntmps14
 go_upto_region 1 with fail
 rw [← HW1.out, ← HG.out]
 obtain ⟨x0, x1, x2, x3, x4, x5⟩ := cz6 HX0.out
 go_wp2_with fail
 refine (KF.out _ HB1.out).mono ?_
 rintro e w2 ⟨rfl, hb⟩
 have HZ2 := Lib.hid hb
 have HB2 := Lib.hid (HB1.out.trans (hb.mono HB1.out.size))
 have h2 := box_up hb (by have := HS1.out; omega) HX0.out
 clear x0 x1 x2 x3 x4 x5 hb KF
 obtain ⟨x0, x1, x2, x3, x4, x5⟩ := cz6 h2
 clear h2
 go_wp2_with fail
 refine (KA2.out _ HB2.out).mono ?_
 rintro e w4 ⟨rs, rfl, hr4, hb4⟩
 have HB4 := Lib.hid (HB2.out.trans (hb4.mono HB2.out.size))
 have HZ4 := Lib.hid (HZ2.out.trans (hb4.mono HZ2.out.size))
 have rb := box_up HZ4.out (by have := HG.out; have := HS1.out; omega) HX1.out
 have hr5 : RepT (fun b => K b ∨ g < b) w4 (.mk k2 s2 n2 ps2 fs2 vs2) rs := hr4.weak fun b h => h.imp id fun h => by have := HG.out; have := HS1.out; have := HZ2.out.size; omega
 obtain ⟨Aq, cq, Ag, cg, Ah, ch, rfl, -⟩ := hr5.inv
 have HR5 := Lib.hid hr5
 simp only [cells6T] at HR5 ⊢
 clear hr4 hb4 hr5 KA2 x0 x1 x2 x3 x4 x5
 obtain ⟨q0, q1, q2, q3, q4, q5, z0, z1, z2, z3, z4, z5⟩ := qz6 rb
 have RBX := Lib.hid rb
 clear rb
 go_wp2_with fail
 have rs := six_set RBX.out (.int .i64 k2) (.string s2) (.int .i64 n2) (.slice Aq ps2.length cq) (.slice Ag fs2.length cg) (.slice Ah vs2.length ch)
 obtain ⟨r0, r1, r2, r3, r4, r5⟩ := cz6 rs
 clear q0 q1 q2 q3 q4 q5 z0 z1 z2 z3 z4 z5 RBX rs
 refine bodyPost_ret (v := .tuple #[.agg #[.int .i64 k2, .string s2, .int .i64 n2, .slice Aq ps2.length cq, .slice Ag fs2.length cg, .slice Ah vs2.length ch], .int .i64 0]) (by simp [results, Tryz.results14, go_sem, r0, r1, r2, r3, r4, r5]) rfl ?_
 clear r0 r1 r2 r3 r4 r5
 exact ⟨[.int .i64 k2, .string s2, .int .i64 n2, .slice Aq ps2.length cq, .slice Ag fs2.length cg, .slice Ah vs2.length ch], rfl, ret_box HR5.out (fun b h => by have := HLO.out b h; have := HG.out; omega) (by have := HG.out; omega) _ _ _ _ _ _, set_six_below HB4.out (by have := HG.out; omega) _ _ _ _ _ _⟩
theorem parts_any {K : Nat → Prop} {w : World} {t : Ty} {cs : List Value} (hr : RepT K w t cs) (hlo : ∀ b, K b → b < w.heap.size) (hn : t.ps.length ≤ 1099511627776) :
  Calls Tryz.prog 23 #[.agg cs.toArray] w (ListPost K w (prtsT t)) := by
 obtain ⟨k, s, n, ps, fs, vs⟩ := t
 unfold prtsT
 have e1 : Ty.k (.mk k s n ps fs vs) = k := rfl
 have e2 : Ty.ps (.mk k s n ps fs vs) = ps := rfl
 rw [e1, e2]
 rw [e2] at hn
 by_cases h15 : k = 15
 ·subst h15; rw [if_pos rfl]; exact parts_15 s n ps fs vs hr hlo hn
 rw [if_neg h15]
 by_cases h1 : k = 1
 ·subst h1; rw [if_pos rfl]; exact parts_1 s n ps fs vs hr hlo
 rw [if_neg h1]
 exact parts_no k s n ps fs vs hr hlo h15 h1
set_option maxRecDepth 100000 in
set_option maxHeartbeats 16000000 in
theorem eparts_any {K : Nat → Prop} {w : World} {t : Ty} {cs : List Value} (hr : RepT K w t cs) (hlo : ∀ b, K b → b < w.heap.size) (hn : t.ps.length ≤ 1099511627776) :
  Calls Tryz.prog 9 #[.agg cs.toArray] w (ListPost K w (prtsT t)) := by
 have KP := Lib.hid fun wx (hx : Below w.heap.size w wx) => parts_any (hr.later hx) (fun b h => Nat.lt_of_lt_of_le (hlo b h) hx.size) hn
 generalize prtsT t = l at KP
 obtain ⟨k, s, n, ps, fs, vs⟩ := t
 obtain ⟨A, c, A', c', A'', c'', rfl, -⟩ := hr.inv
 simp only [cells6T] at KP ⊢
 obtain ⟨w1, hw1⟩ : ∃ x, x = w.alloc (.cells #[.int .i64 k, .string s, .int .i64 n, .slice A ps.length c, .slice A' fs.length c', .slice A'' vs.length c''] 26) := ⟨_, rfl⟩
 have hb1 : Below w.heap.size w w1 := by rw [hw1]; exact (Below.refl _ _).alloc (Nat.le_refl _) _
 have hx0 : w1.heap[w.heap.size]? = some (.cells #[.int .i64 k, .string s, .int .i64 n, .slice A ps.length c, .slice A' fs.length c', .slice A'' vs.length c''] 26 (0, 0)) := by rw [hw1]; exact heap_alloc_new w _
 have HB1 := Lib.hid hb1
 have HX0 := Lib.hid hx0
 have HW1 := Lib.hid hw1
 unfold ListPost
 clear hr hb1 hx0 hw1 hlo hn
 go_enter Tryz.func9, Tryz.ntmps9
 go_upto_region 1 with fail
 rw [← HW1.out]
 obtain ⟨x0, x1, x2, x3, x4, x5⟩ := cz6 HX0.out
 go_wp2_with fail
 refine (KP.out _ HB1.out).mono ?_
 rintro e w2 ⟨A3, c3, rfl, hl, hb⟩
 have HL := Lib.hid (And.intro hl (HB1.out.trans (hb.mono HB1.out.size)))
 clear hl hb KP x0 x1 x2 x3 x4 x5
 go_wp2_with fail
 go_ret
 exact ⟨A3, c3, rfl, HL.out.1.weak fun b h => h.imp id fun h => Nat.le_trans HB1.out.size h, HL.out.2⟩
set_option maxRecDepth 100000 in
set_option maxHeartbeats 16000000 in
theorem formed_ref {K : Nat → Prop} {w : World} {t : Ty} {cs : List Value} (hr : RepT K w t cs) :
  Calls Tryz.prog 6 #[.agg cs.toArray] w fun e w' => e = .returned (.bool (formedT t)) ∧ Below w.heap.size w w' := by
 have hN := nod_any t
 have hFo := form_ref t
 have hsp : formedT t = (decide (cntT t ≤ 4096) && formT t) := rfl
 generalize hft : formT t = r at hsp
 obtain ⟨k, s, n, ps, fs, vs⟩ := t
 have KN := Lib.hid fun wx (hx : Below w.heap.size w wx) => hN K wx cs (hr.later hx)
 have KF := Lib.hid fun wx (hx : Below w.heap.size w wx) h => hFo K wx cs (hr.later hx) h
 obtain ⟨A, c, A', c', A'', c'', rfl, -⟩ := hr.inv
 simp only [cells6T] at KN KF ⊢
 rw [hft] at KF
 obtain ⟨w1, hw1⟩ : ∃ x, x = w.alloc (.cells #[.int .i64 k, .string s, .int .i64 n, .slice A ps.length c, .slice A' fs.length c', .slice A'' vs.length c''] 26) := ⟨_, rfl⟩
 have hb1 : Below w.heap.size w w1 := by rw [hw1]; exact (Below.refl _ _).alloc (Nat.le_refl _) _
 have hs1 : w1.heap.size = w.heap.size + 1 := by rw [hw1]; simp
 have hx0 : w1.heap[w.heap.size]? = some (.cells #[.int .i64 k, .string s, .int .i64 n, .slice A ps.length c, .slice A' fs.length c', .slice A'' vs.length c''] 26 (0, 0)) := by rw [hw1]; exact heap_alloc_new w _
 have HB1 := Lib.hid hb1
 have HS1 := Lib.hid hs1
 have HX0 := Lib.hid hx0
 have HW1 := Lib.hid hw1
 have HSP := Lib.hid hsp
 generalize cntT (.mk k s n ps fs vs) = q at KN KF HSP
 clear hr hN hFo hb1 hs1 hx0 hw1 hsp hft
 go_enter Tryz.func6, Tryz.ntmps6
 go_upto_region 1 with fail
 rw [← HW1.out]
 obtain ⟨x0, x1, x2, x3, x4, x5⟩ := cz6 HX0.out
 go_wp2_with fail
 refine (KN.out _ HB1.out).mono ?_
 rintro e w2 ⟨rfl, hg⟩
 have HB2 := Lib.hid (HB1.out.trans (hg.below.mono HB1.out.size))
 have h2 := box_up hg.below (by have := HS1.out; omega) HX0.out
 clear x0 x1 x2 x3 x4 x5 hg KN
 obtain ⟨x0, x1, x2, x3, x4, x5⟩ := cz6 h2
 clear h2
 by_cases hq : q ≤ 4096
 ·have t1 : decide ((capN q : Int) ≤ 4096) = true := decide_eq_true (by unfold capN; omega)
  have t2 : decide (capN q ≤ 4096) = true := decide_eq_true (by unfold capN; omega)
  have KF2 := Lib.hid (KF.out _ HB2.out (by omega))
  have HV : Hid (formedT (.mk k s n ps fs vs) = r) := Lib.hid (by rw [HSP.out, decide_eq_true hq]; rfl)
  clear hq KF
  go_wp2_with fail
  refine KF2.out.mono ?_
  rintro e w3 ⟨rfl, hb3⟩
  have HB3 := Lib.hid (HB2.out.trans (hb3.mono HB2.out.size))
  clear hb3 KF2
  go_wp2_with fail
  go_ret
  exact ⟨by rw [HV.out]; rfl, HB3.out⟩
 ·have t1 : decide ((capN q : Int) ≤ 4096) = false := decide_eq_false (by unfold capN; omega)
  have t2 : decide (capN q ≤ 4096) = false := decide_eq_false (by unfold capN; omega)
  have HV : Hid (formedT (.mk k s n ps fs vs) = false) := Lib.hid (by rw [HSP.out, decide_eq_false hq]; rfl)
  clear hq KF
  go_wp2_with fail
  go_ret
  exact ⟨by rw [HV.out]; rfl, HB2.out⟩
end Go.Proofs.YtllhfnpchplibaaGreatDoor
