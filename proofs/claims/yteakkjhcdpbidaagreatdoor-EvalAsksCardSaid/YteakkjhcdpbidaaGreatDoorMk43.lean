import Derived.Test.YteakkjhcdpbidaaGreatDoorMk41
namespace Go.Proofs.YteakkjhcdpbidaaGreatDoor
set_option maxRecDepth 100000
set_option maxHeartbeats 64000000
open Go.RowKit
theorem cnt_str (s : ByteArray) : cntT (strT s) = 1 := by
 unfold strT
 rw [cntT_mk]
 rfl
theorem cntL_strs : ∀ l : List ByteArray, cntL (l.map strT) = l.length
 | [] => rfl
 | a :: l => by rw [List.map_cons, cntL_cons, cnt_str, cntL_strs l, List.length_cons]; omega
theorem rkeys_14 {K : Nat → Prop} {w : World} (s : ByteArray) (n : Int) (ps : List Ty) (fs : FsT) (vs : VsT) {cs : List Value} (hr : RepT K w (.mk 14 s n ps fs vs) cs) (hlo : ∀ b, K b → b < w.heap.size) (hn : fs.length ≤ 1000000) :
  Calls Tryz.prog 19 #[.agg cs.toArray] w (FdT K w (unionT ((fs.map fun f => f.1).map strT))) := by
 refine one_res hr fun A c B d C e w1 g h hcs => ?_
 subst hcs
 obtain ⟨HX, HY, HB1, HS1, HG, HW1, HR⟩ := h
 have HLO := Hd hlo
 unfold FdT
 have hcn := cntL_strs (fs.map fun f => f.1)
 have hfo : ∀ x ∈ (fs.map fun f => f.1).map strT, formT x = true := fun x hx => by
  obtain ⟨y, -, rfl⟩ := List.mem_map.1 hx
  exact form_str y
 have hts : ∀ i (h : i < fs.length), ((fs.map fun f => f.1).map strT).take (i + 1) = ((fs.map fun f => f.1).map strT).take i ++ [strT fs[i].1] := fun i h => by
  rw [List.take_succ_eq_append_getElem (by simpa using h)]
  simp
 have htl : ((fs.map fun f => f.1).map strT).length = fs.length := by simp
 rw [List.length_map] at hcn
 generalize (fs.map fun f => f.1).map strT = ts at hcn hfo hts htl ⊢
 generalize hU : unionT ts = u8
 have HU := Hd hU
 have HTS : Hid (ts.length = fs.length ∧ cntL ts = fs.length ∧ fs.length ≤ 1000000 ∧ ∀ i (h : i < fs.length), ts.take (i + 1) = ts.take i ++ [strT fs[i].1]) := Hd ⟨htl, hcn, hn, hts⟩
 have HFO := Hd hfo
 obtain ⟨_, _, _, _, _, _, he, -, -, hF, -⟩ := HR.out.inv
 simp only [cells6T, List.cons.injEq, Value.slice.injEq] at he
 obtain ⟨-, -, -, -, ⟨rfl, -, rfl⟩, -⟩ := he
 have HF := Hd hF
 clear hr hlo hn hcn hfo hts htl hU hF
 go_enter Tryz.func19, Tryz.ntmps19
 go_upto_region 1 with fail
 rw [← HW1.out, ← HG.out]
 obtain ⟨x0, x1, x2, x3, x4, x5⟩ := HX.out _ (Below.refl _ _)
 go_wp2_with fail
 clear x0 x1 x2 x3 x4 x5
 go_loopw [3, 4] (fun ov v wr => ∃ i : Nat, i ≤ fs.length ∧ v = .int .i64 i ∧ OutT K w1 wr ov (ts.take i) ∧ Below w1.heap.size w1 wr) (fun _ v _ => fs.length - (intOf v).toNat)
 case atStart => exact ⟨0, by omega, rfl, ⟨⟨[], World.ownsRow_nil _ _ _ _, fun i h => absurd h (by simp)⟩⟩, Below.refl _ _⟩
 case round =>
  obtain ⟨i, hi, rfl, ho, hb⟩ := hrel
  have HO := Hd ho
  have HBR := Hd hb
  obtain ⟨vs0, hvs0, -⟩ := ho
  obtain ⟨A5, c5, rfl, -⟩ := sliceT hvs0
  clear hvs0
  obtain ⟨x0, x1, x2, x3, x4, x5⟩ := HX.out _ hb
  have hnn := HTS.out.2.2.1
  by_cases hin : i < fs.length
  ·have t1 : decide ((i : Int) < (fs.length : Int)) = true := by simp; omega
   have wr2 : wrap64 ((i : Int) + 1) = ((i + 1 : Nat) : Int) := wrap_one (by omega)
   have HM := Hd (measI hin)
   have HIn : Hid (i + 1 ≤ fs.length) := Hd hin
   obtain ⟨fb, fo, hA, -, hatf⟩ := HF.out.at (by omega)
   subst hA
   obtain ⟨hn0, -, hnz, -⟩ := hatf i hin
   have HTk : Hid (ts.take (i + 1) = ts.take i ++ [strT fs[i].1] ∧ (ts.take i).length + 1 ≤ 1099511627776) := Hd ⟨HTS.out.2.2.2 i hin, by have h1 := HTS.out.1; have h2 := HTS.out.2.2.1; rw [List.length_take]; omega⟩
   have z0 := cell_stays hb hn0
   generalize fs[i] = ff at HTk hnz z0
   obtain ⟨nm, fl, q⟩ := ff
   dsimp only at HTk hnz z0
   have HNZ := Hd hnz
   have i1 : (0 : Int) ≤ (i : Int) := by omega
   have i2 : (i : Int) < (fs.length : Int) := by omega
   obtain ⟨W2, hW2⟩ : ∃ x, x = wr.alloc (.cells #[.int .i64 10, .string nm, .int .i64 0, .slice none 0 0, .slice none 0 0, .slice none 0 0] 26) := ⟨_, rfl⟩
   have hbW2 : Below wr.heap.size wr W2 := by rw [hW2]; exact (Below.refl _ _).alloc (Nat.le_refl _) _
   have HOW : Hid (OutT K w1 W2 (.slice A5 (ts.take i).length c5) (ts.take i)) := Hd (HO.out.keep fun b hb => hbW2.block b (HO.out.block_lt hb))
   have HC : Hid (∀ j u, ([.int .i64 10, .string nm, .int .i64 0, .slice none 0 0, .slice none 0 0, .slice none 0 0] : List Value)[j]? = some u → W2.cell? ⟨wr.heap.size, j, none⟩ = some u) := Hd fun j u hj => by rw [hW2, Ch (heap_alloc_new wr _)]; simpa using hj
   have HBB := Hd (HBR.out.trans (hbW2.mono HBR.out.size))
   have HW2 := Hd hW2
   clear hi hb hn0 hatf hnz hW2 hbW2 hnn
   go_upto_region 7 with fail
   go_wp2_with (at_builtin; refine wpList_plain rfl fun Kx hK => ?_; rw [← HW2.out]; go_loud (refine wp_append_one (K := K) (w0 := w1) (gg := wr.heap.size) (t := strT nm) (ts := ts.take i) _ _ rfl (by rfl) (by rfl) HOW.out (rep_str K w1 nm HNZ.out) HC.out HBB.out HTk.out.2 ?_))
   intro v3 w4 ho3 hb3 _
   refine hK _ _ ?_
   clear hK Kx
   rw [← HTk.out.1] at ho3
   have HO3 := Hd (And.intro ho3 hb3)
   clear ho3 hb3 z0 x0 x1 x2 x3 x4 x5
   go_wp2_with fail
   refine ⟨⟨i + 1, HIn.out, by first | rfl | rw [wr2], HO3.out.1, HO3.out.2⟩, ?_⟩
   first | exact HM.out | (rw [wr2]; exact HM.out)
  ·have t1 : decide ((i : Int) < (fs.length : Int)) = false := by simp; omega
   have hil : ts.take i = ts := List.take_of_length_le (by have := HTS.out.1; omega)
   have ho := HO.out
   have hb' := hb
   rw [hil] at ho ⊢
   obtain ⟨Ar, cr, hv, hl⟩ := ho.list (fun b h => by have := HLO.out b h; have := HB1.out.size; omega) HBR.out (by have := HTS.out.1; omega)
   have hl2 := hl.both
   have KU := Hd (uniL_any hl2 (fun b h => h.2) HFO.out (by have := HTS.out.2.1; omega))
   unfold FdT at KU
   rw [HU.out] at KU
   injection hv with hv1 hv2 hv3
   subst hv1
   subst hv3
   clear ho hl hl2 hi hv2 hb hb' hil
   go_wp2_with fail
   refine KU.out.mono ?_
   rintro e w7 ⟨rs, rfl, hr7, hb7⟩
   have HZ7 := Hd (HBR.out.trans (hb7.mono HBR.out.size))
   have HB7 := Hd (HB1.out.trans (HZ7.out.mono HB1.out.size))
   clear hb7 KU x0 x1 x2 x3 x4 x5
   have rb := box_up HZ7.out (by have := HS1.out; omega) HY.out
   have hr8 : RepT (fun b => K b ∨ g < b) w7 u8 rs := hr7.weak fun b h => by
    have h1 := HS1.out
    have h3 := HBR.out.size
    rcases h with ⟨h | h, -⟩ | h
    ·exact .inl h
    ·exact .inr (by omega)
    ·exact .inr (by omega)
   obtain ⟨k8, s8, n8, ps8, fs8, vs8⟩ := u8
   obtain ⟨A8, c8, B8, d8, C8, e8, rfl, -⟩ := hr8.inv
   have HRR := Hd hr8
   simp only [cells6T] at HRR ⊢
   clear hr7 hr8
   obtain ⟨q0, q1, q2, q3, q4, q5, z0, z1, z2, z3, z4, z5⟩ := qz6 rb
   have RBX := Hd rb
   clear rb
   go_wp2_with fail
   obtain ⟨r0, r1, r2, r3, r4, r5⟩ := cz6 (six_set RBX.out (.int .i64 k8) (.string s8) (.int .i64 n8) (.slice A8 ps8.length c8) (.slice B8 fs8.length d8) (.slice C8 vs8.length e8))
   clear q0 q1 q2 q3 q4 q5 z0 z1 z2 z3 z4 z5 RBX
   refine bodyPost_ret (v := .agg #[.int .i64 k8, .string s8, .int .i64 n8, .slice A8 ps8.length c8, .slice B8 fs8.length d8, .slice C8 vs8.length e8]) (by simp [results, Tryz.results19, go_sem, r0, r1, r2, r3, r4, r5]) rfl ?_
   clear r0 r1 r2 r3 r4 r5
   exact ⟨[.int .i64 k8, .string s8, .int .i64 n8, .slice A8 ps8.length c8, .slice B8 fs8.length d8, .slice C8 vs8.length e8], rfl, ret_box HRR.out (fun b h => by have h1 := HLO.out b h; have h2 := HG.out; omega) (by have := HG.out; omega) _ _ _ _ _ _, set_six_below HB7.out (by have := HG.out; omega) _ _ _ _ _ _⟩
theorem rkeys_all {K : Nat → Prop} {w : World} (k : Int) (s : ByteArray) (n : Int) (ps : List Ty) (fs : FsT) (vs : VsT) {cs : List Value} (hr : RepT K w (.mk k s n ps fs vs) cs) (hlo : ∀ b, K b → b < w.heap.size) (h13 : k = 3 ∨ k = 1) :
  Calls Tryz.prog 19 #[.agg cs.toArray] w (FdT K w (tyK 8)) := by
 refine one_res hr fun A c B d C e w1 g h hcs => ?_
 subst hcs
 obtain ⟨HX, HY, HB1, HS1, HG, HW1, -⟩ := h
 have HLO := Hd hlo
 clear hr hlo
 unfold FdT
 rcases h13 with rfl | rfl
 ·go_enter Tryz.func19, Tryz.ntmps19
  go_upto_region 1 with fail
  rw [← HW1.out, ← HG.out]
  obtain ⟨x0, x1, x2, x3, x4, x5⟩ := HX.out _ (Below.refl _ _)
  go_wp2_with fail
  refine (of_r13 8 _).mono ?_
  rintro e w7 ⟨rfl, hb7⟩
  have HB7 := Hd (HB1.out.trans (hb7.mono HB1.out.size))
  have rb := box_up hb7 (by have := HS1.out; omega) HY.out
  have HRR : Hid (RepT (fun b => K b ∨ g < b) w7 (tyK 8) [.int .i64 8, .string ⟨#[]⟩, .int .i64 0, .slice none 0 0, .slice none 0 0, .slice none 0 0]) := Hd (rep_k _ _ 8)
  clear hb7 x0 x1 x2 x3 x4 x5
  obtain ⟨q0, q1, q2, q3, q4, q5, z0, z1, z2, z3, z4, z5⟩ := qz6 rb
  have RBX := Hd rb
  clear rb
  go_wp2_with fail
  obtain ⟨r0, r1, r2, r3, r4, r5⟩ := cz6 (six_set RBX.out (.int .i64 8) (.string ⟨#[]⟩) (.int .i64 0) (.slice none 0 0) (.slice none 0 0) (.slice none 0 0))
  clear q0 q1 q2 q3 q4 q5 z0 z1 z2 z3 z4 z5 RBX
  refine bodyPost_ret (v := .agg #[.int .i64 8, .string ⟨#[]⟩, .int .i64 0, .slice none 0 0, .slice none 0 0, .slice none 0 0]) (by simp [results, Tryz.results19, go_sem, r0, r1, r2, r3, r4, r5]) rfl ?_
  clear r0 r1 r2 r3 r4 r5
  exact ⟨[.int .i64 8, .string ⟨#[]⟩, .int .i64 0, .slice none 0 0, .slice none 0 0, .slice none 0 0], rfl, ret_box HRR.out (fun b h => by have h1 := HLO.out b h; have h2 := HG.out; omega) (by have := HG.out; omega) _ _ _ _ _ _, set_six_below HB7.out (by have := HG.out; omega) _ _ _ _ _ _⟩
 ·go_enter Tryz.func19, Tryz.ntmps19
  go_upto_region 1 with fail
  rw [← HW1.out, ← HG.out]
  obtain ⟨x0, x1, x2, x3, x4, x5⟩ := HX.out _ (Below.refl _ _)
  go_wp2_with fail
  refine (of_r13 8 _).mono ?_
  rintro e w7 ⟨rfl, hb7⟩
  have HB7 := Hd (HB1.out.trans (hb7.mono HB1.out.size))
  have rb := box_up hb7 (by have := HS1.out; omega) HY.out
  have HRR : Hid (RepT (fun b => K b ∨ g < b) w7 (tyK 8) [.int .i64 8, .string ⟨#[]⟩, .int .i64 0, .slice none 0 0, .slice none 0 0, .slice none 0 0]) := Hd (rep_k _ _ 8)
  clear hb7 x0 x1 x2 x3 x4 x5
  obtain ⟨q0, q1, q2, q3, q4, q5, z0, z1, z2, z3, z4, z5⟩ := qz6 rb
  have RBX := Hd rb
  clear rb
  go_wp2_with fail
  obtain ⟨r0, r1, r2, r3, r4, r5⟩ := cz6 (six_set RBX.out (.int .i64 8) (.string ⟨#[]⟩) (.int .i64 0) (.slice none 0 0) (.slice none 0 0) (.slice none 0 0))
  clear q0 q1 q2 q3 q4 q5 z0 z1 z2 z3 z4 z5 RBX
  refine bodyPost_ret (v := .agg #[.int .i64 8, .string ⟨#[]⟩, .int .i64 0, .slice none 0 0, .slice none 0 0, .slice none 0 0]) (by simp [results, Tryz.results19, go_sem, r0, r1, r2, r3, r4, r5]) rfl ?_
  clear r0 r1 r2 r3 r4 r5
  exact ⟨[.int .i64 8, .string ⟨#[]⟩, .int .i64 0, .slice none 0 0, .slice none 0 0, .slice none 0 0], rfl, ret_box HRR.out (fun b h => by have h1 := HLO.out b h; have h2 := HG.out; omega) (by have := HG.out; omega) _ _ _ _ _ _, set_six_below HB7.out (by have := HG.out; omega) _ _ _ _ _ _⟩
theorem rkeys_no {K : Nat → Prop} {w : World} (k : Int) (s : ByteArray) (n : Int) (ps : List Ty) (fs : FsT) (vs : VsT) {cs : List Value} (hr : RepT K w (.mk k s n ps fs vs) cs) (hlo : ∀ b, K b → b < w.heap.size) (h14 : k ≠ 14) (h3 : k ≠ 3) (h1 : k ≠ 1) (h15 : k ≠ 15) :
  Calls Tryz.prog 19 #[.agg cs.toArray] w (FdT K w (tyK 1)) := by
 refine one_res hr fun A c B d C e w1 g h hcs => ?_
 subst hcs
 obtain ⟨HX, HY, HB1, HS1, HG, HW1, -⟩ := h
 have HLO := Hd hlo
 clear hr hlo
 unfold FdT
 have f1 : (k == 14) = false := beq_eq_false_iff_ne.2 h14
 have f2 : (k == 3) = false := beq_eq_false_iff_ne.2 h3
 have f3 : (k == 1) = false := beq_eq_false_iff_ne.2 h1
 have f4 : (k == 15) = false := beq_eq_false_iff_ne.2 h15
 clear h14 h3 h1 h15
 go_enter Tryz.func19, Tryz.ntmps19
 go_upto_region 1 with fail
 rw [← HW1.out, ← HG.out]
 obtain ⟨x0, x1, x2, x3, x4, x5⟩ := HX.out _ (Below.refl _ _)
 go_wp2_with fail
 refine (of_r13 1 _).mono ?_
 rintro e w7 ⟨rfl, hb7⟩
 have HB7 := Hd (HB1.out.trans (hb7.mono HB1.out.size))
 have rb := box_up hb7 (by have := HS1.out; omega) HY.out
 have HRR : Hid (RepT (fun b => K b ∨ g < b) w7 (tyK 1) [.int .i64 1, .string ⟨#[]⟩, .int .i64 0, .slice none 0 0, .slice none 0 0, .slice none 0 0]) := Hd (rep_k _ _ 1)
 clear hb7 x0 x1 x2 x3 x4 x5
 obtain ⟨q0, q1, q2, q3, q4, q5, z0, z1, z2, z3, z4, z5⟩ := qz6 rb
 have RBX := Hd rb
 clear rb
 go_wp2_with fail
 obtain ⟨r0, r1, r2, r3, r4, r5⟩ := cz6 (six_set RBX.out (.int .i64 1) (.string ⟨#[]⟩) (.int .i64 0) (.slice none 0 0) (.slice none 0 0) (.slice none 0 0))
 clear q0 q1 q2 q3 q4 q5 z0 z1 z2 z3 z4 z5 RBX
 refine bodyPost_ret (v := .agg #[.int .i64 1, .string ⟨#[]⟩, .int .i64 0, .slice none 0 0, .slice none 0 0, .slice none 0 0]) (by simp [results, Tryz.results19, go_sem, r0, r1, r2, r3, r4, r5]) rfl ?_
 clear r0 r1 r2 r3 r4 r5
 exact ⟨[.int .i64 1, .string ⟨#[]⟩, .int .i64 0, .slice none 0 0, .slice none 0 0, .slice none 0 0], rfl, ret_box HRR.out (fun b h => by have h1 := HLO.out b h; have h2 := HG.out; omega) (by have := HG.out; omega) _ _ _ _ _ _, set_six_below HB7.out (by have := HG.out; omega) _ _ _ _ _ _⟩
end Go.Proofs.YteakkjhcdpbidaaGreatDoor
