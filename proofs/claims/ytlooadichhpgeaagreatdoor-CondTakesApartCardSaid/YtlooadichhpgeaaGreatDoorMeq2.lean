import Derived.Test.YtlooadichhpgeaaGreatDoorMe44
namespace Go.Proofs.YtlooadichhpgeaaGreatDoor
open Go.RowKit
set_option maxRecDepth 100000 in
set_option maxHeartbeats 16000000 in
theorem ins_obj {nm : ByteArray} {s : ByteArray} {n pf : Int} {ps : List Ty} {q : Ty} {vs : List (ByteArray × List Ty)} {s2 : ByteArray} {n2 : Int} {ps2 : List Ty} {fs2 : List (ByteArray × Int × Ty)} {vs2 : List (ByteArray × List Ty)} {gf : ByteArray × Int × Ty} (hinf : infT (.mk 14 s n ps [(nm, pf, q)] vs) = true) (hfind : (fs2.find? fun g => decide (g.1 = nm)) = some gf) (ih : HoldP q (heldT gf)) : InsP (.mk 14 s n ps [(nm, pf, q)] vs) (.mk 14 s2 n2 ps2 fs2 vs2) := by
 intro K K' w0 w m F G b o b' o' hT hP hKT hKP hG hB hfp hft hct hlen
 have hga : gathT (.mk 14 s n ps [(nm, pf, q)] vs) (.mk 14 s2 n2 ps2 fs2 vs2) = gathT q (heldT gf) := by
  rw [gathT_eq, if_neg (by rw [hinf]; decide), if_neg (by show ¬ ((14 : Int) = 22); decide), if_neg (by show ¬ ((14 : Int) = 15); decide), if_neg (by show ¬ (isComp 14 = false); decide), if_neg (by show ¬ ((14 : Int) = 15); decide), if_neg (by show ¬ ((14 : Int) = 11 ∧ (14 : Int) = 12); decide), if_neg (by show ¬ ((14 : Int) ≠ 14); decide), if_neg (by show ¬ ((14 : Int) = 11); decide), if_neg (by show ¬ ((14 : Int) = 12 ∨ ((14 : Int) = 17 ∧ _)); intro h; rcases h with h | ⟨h, _⟩ <;> exact absurd h (by decide)), if_neg (by show ¬ ((14 : Int) = 13 ∧ _); intro h; exact absurd h.1 (by decide)), if_pos (show (Ty.mk 14 s n ps [(nm, pf, q)] vs).k = 14 from rfl)]
  show ([(nm, pf, q)].map fun f => ((fs2.find? fun g => decide (g.1 = f.1)).map fun g => gathT f.2.2 (heldT g)).getD []).flatten = _
  simp [hfind]
 rw [hga] at hlen ⊢
 have hmem : gf ∈ fs2 := List.mem_of_find?_eq_some hfind
 have hgf := fieldsB_mem (form_fields hft rfl) hmem
 have hcg := cnt_fs (t := .mk 14 s2 n2 ps2 fs2 vs2) hmem
 have hch := cnt_held gf
 have hfh : formT (heldT gf) = true := form_held hgf.2.2.2
 have hfl2 : (flatU [tyK 4, gf.2.2]).length ≤ 1099511627776 := by have h1 := (flatU_cnt [tyK 4, gf.2.2]).1; rw [cntL_cons, cntL_cons, cntL_nil, cnt_kind] at h1; omega
 have hfq : formT q = true := form_fs hfp (nm, pf, q) (by simp [Ty.fs])
 have hcq := cnt_fs (t := .mk 14 s n ps [(nm, pf, q)] vs) (f := (nm, pf, q)) (by simp [Ty.fs])
 obtain ⟨A, c, B, d, C, e0, ⟨x0, x1, x2, x3, x4, x5⟩, -, hLp, hLf, hLv⟩ := hP.six
 obtain ⟨cs, hcs, hrt⟩ := hT
 obtain ⟨A2, c2, B2, d2, C2, e2, rfl, -⟩ := hrt.inv
 simp only [cells6T] at hcs hrt
 obtain ⟨fb, fo, hA, hKb, hatf⟩ := hLf.at (by simp)
 subst hA
 obtain ⟨hn0, -, -, hq⟩ := hatf 0 (by simp)
 simp only [Nat.zero_mul, Nat.add_zero, List.getElem_cons_zero] at hn0 hq
 simp only [List.length_cons, List.length_nil, Nat.zero_add] at x4
 have HSX : Hid (∀ wx, Below w.heap.size w wx → (wx.cell? ⟨b', o', none⟩ = some (.int .i64 14) ∧ wx.cell? ⟨b', o' + 4, none⟩ = some (.slice (some ⟨fb, fo, none⟩) 1 d) ∧ wx.cell? ⟨fb, fo, none⟩ = some (.string nm)) ∧ (wx.cell? ⟨b, o, none⟩ = some (.int .i64 14) ∧ wx.cell? ⟨b, o + 1, none⟩ = some (.string s2) ∧ wx.cell? ⟨b, o + 2, none⟩ = some (.int .i64 n2) ∧ wx.cell? ⟨b, o + 3, none⟩ = some (.slice A2 ps2.length c2) ∧ wx.cell? ⟨b, o + 4, none⟩ = some (.slice B2 fs2.length d2) ∧ wx.cell? ⟨b, o + 5, none⟩ = some (.slice C2 vs2.length e2))) := Lib.hid fun wx hx => ⟨⟨cell_stays hx x0, cell_stays hx x4, cell_stays hx hn0⟩, cell_stays hx (hcs 0 _ rfl), cell_stays hx (hcs 1 _ rfl), cell_stays hx (hcs 2 _ rfl), cell_stays hx (hcs 3 _ rfl), cell_stays hx (hcs 4 _ rfl), cell_stays hx (hcs 5 _ rfl)⟩
 have hnb' := (hKP b' (.inr rfl)).2
 have HP4 : Hid (∀ wx G', HoldMid w0 w m F G' wx → wx.cell? ⟨b', o' + 4, none⟩ = some (.slice (some ⟨fb, fo, none⟩) 1 d)) := Lib.hid fun wx G' hm => by
  obtain ⟨F', _, hb, _⟩ := hm
  exact but_cell hb hnb' x4
 have HRT := Lib.hid hrt
 have HKT : Hid (∀ x, K x → x < w.heap.size ∧ ¬ rowB m F x) := Lib.hid fun x hx => hKT x (.inl hx)
 have HGF := Lib.hid hgf
 have HFL2 := Lib.hid hfl2
 have HFD := Lib.hid hfind
 have HG := Lib.hid hG
 have KC : Hid (∀ w2 g, Below w.heap.size w w2 → w.heap.size ≤ g → g < w2.heap.size → AtT (fun x => ((x < w.heap.size ∧ ¬ rowB m F x) ∨ w.heap.size ≤ x) ∧ x < w2.heap.size) w2 (heldT gf) g 0 → Calls Tryz.prog 40 #[.map (some m), .pointer (some ⟨g, 0, none⟩), .pointer (some ⟨fb, fo + 2, none⟩)] w2 fun e w' => e = .returned (.tuple #[]) ∧ HoldMid w0 w m F (G ++ gathT q (heldT gf)) w') := Lib.hid fun w2 g hb hg hg2 hat2 => by
  have hnr : ∀ x, w.heap.size ≤ x → ¬ rowB m F x := fun x hx hr => by have := (hG.lt hr).2; omega
  refine (ih _ _ w0 w2 m F G g 0 fb (fo + 2) hat2 (hq.later hb) (fun x hx => ?_) (fun x hx => ?_) (hG.later hb) (Nat.le_trans hB hb.size) hfq hfh (by simp only at hcq; omega) hlen).mono ?_
  ·rcases hx with ⟨h1 | h1, h2⟩ | rfl
   ·exact ⟨h2, h1.2⟩
   ·exact ⟨h2, hnr x h1⟩
   ·exact ⟨hg2, hnr x hg⟩
  ·have h1 := hKP x (hx.elim .inl fun e => .inl (by rw [e]; exact hKb))
   exact ⟨Nat.lt_of_lt_of_le h1.1 hb.size, h1.2⟩
  ·rintro e w' ⟨rfl, hm⟩
   exact ⟨rfl, hm.comp (ButG.refl _ _) (fun _ h => .inl h) (ButG.of_below hb)⟩
 clear hP hKT hKP hB hfp hft hct hlen hga hmem hgf hcg hch hfh hfl2 hfq hcq hLp hLf hLv hcs hrt hKb hatf hn0 hq ih hnb' hinf x0 x1 x2 x3 x4 x5 hfind hG
 generalize gathT q (heldT gf) = gg at KC ⊢
 obtain ⟨nmg, fl, gt⟩ := gf
 have HD1 := Lib.hid (Below.refl w.heap.size w).drew
 go_enter Tryz.func57, Tryz.ntmps57
 obtain ⟨⟨z0, z4, zn⟩, v0, v1, v2, v3, v4, v5⟩ := HSX.out _ (Below.refl _ _)
 go_upto_region 3 with fail
 clear z0 z4 zn v0 v1 v2 v3 v4 v5
 refine wp_region_held_drew (S := (fun w' => (w'.cell? ⟨b', o', none⟩ = some (.int .i64 14) ∧ w'.cell? ⟨b', o' + 4, none⟩ = some (.slice (some ⟨fb, fo, none⟩) 1 d) ∧ w'.cell? ⟨fb, fo, none⟩ = some (.string nm)) ∧ (w'.cell? ⟨b, o, none⟩ = some (.int .i64 14) ∧ w'.cell? ⟨b, o + 1, none⟩ = some (.string s2) ∧ w'.cell? ⟨b, o + 2, none⟩ = some (.int .i64 n2) ∧ w'.cell? ⟨b, o + 3, none⟩ = some (.slice A2 ps2.length c2) ∧ w'.cell? ⟨b, o + 4, none⟩ = some (.slice B2 fs2.length d2) ∧ w'.cell? ⟨b, o + 5, none⟩ = some (.slice C2 vs2.length e2)))) (by kernel_rfl) (HSX.out _ HD1.out) (fun hHeld => ?_)
 refine Plan.start [0, 1, 2, 3, 4, 5, 6, 7, 8, 9] ?_
 iterate 10 ((refine Plan.take (v := ?_) (so rfl) (by kernel_rfl) (by kernel_rfl) (by kernel_rfl) (fun _ _ _ h => h) (Or.inl ⟨by rfl, ?_⟩) hHeld ?_; rotate_left; focus (intro w' hSw; (try dsimp only at hSw); go_simp; try with_reducible rfl)); try simp only [Act.put, List.setIfInBounds_toArray, List.set_cons_zero, List.set_cons_succ])
 refine Plan.done ?_
 refine wpAnyH_done (by kernel_rfl) ?_ _
 clear hHeld
 obtain ⟨⟨z0, z4, zn⟩, v0, v1, v2, v3, v4, v5⟩ := HSX.out _ HD1.out
 go_upto_region 8 with fail
 clear z0 z4 zn v0 v1 v2 v3 v4 v5
 refine wp_region_held_drew (S := (fun w' => (w'.cell? ⟨b', o', none⟩ = some (.int .i64 14) ∧ w'.cell? ⟨b', o' + 4, none⟩ = some (.slice (some ⟨fb, fo, none⟩) 1 d) ∧ w'.cell? ⟨fb, fo, none⟩ = some (.string nm)) ∧ (w'.cell? ⟨b, o, none⟩ = some (.int .i64 14) ∧ w'.cell? ⟨b, o + 1, none⟩ = some (.string s2) ∧ w'.cell? ⟨b, o + 2, none⟩ = some (.int .i64 n2) ∧ w'.cell? ⟨b, o + 3, none⟩ = some (.slice A2 ps2.length c2) ∧ w'.cell? ⟨b, o + 4, none⟩ = some (.slice B2 fs2.length d2) ∧ w'.cell? ⟨b, o + 5, none⟩ = some (.slice C2 vs2.length e2)))) (by kernel_rfl) (HSX.out _ HD1.out.drew) (fun hHeld => ?_)
 refine Plan.start [0, 1, 2, 3, 4, 5] ?_
 iterate 6 ((refine Plan.take (v := ?_) (so rfl) (by kernel_rfl) (by kernel_rfl) (by kernel_rfl) (fun _ _ _ h => h) (Or.inl ⟨by rfl, ?_⟩) hHeld ?_; rotate_left; focus (intro w' hSw; (try dsimp only at hSw); go_simp; try with_reducible rfl)); try simp only [Act.put, List.setIfInBounds_toArray, List.set_cons_zero, List.set_cons_succ])
 refine Plan.done ?_
 refine Plan.start [6, 7, 8, 9, 10, 11, 12, 13, 14] ?_
 iterate 9 (refine Plan.take (v := undef) (so rfl) (by kernel_rfl) (by kernel_rfl) (by kernel_rfl) (fun _ _ _ h => h) (Or.inr ⟨by rfl, rfl⟩) hHeld ?_; try simp only [Act.put, List.setIfInBounds_toArray, List.set_cons_zero, List.set_cons_succ])
 refine Plan.done ?_
 refine Plan.start [15, 16] ?_
 iterate 2 ((refine Plan.take (v := ?_) (so rfl) (by kernel_rfl) (by kernel_rfl) (by kernel_rfl) (fun _ _ _ h => h) (Or.inl ⟨by rfl, ?_⟩) hHeld ?_; rotate_left; focus (intro w' hSw; (try dsimp only at hSw); go_simp; try with_reducible rfl)); try simp only [Act.put, List.setIfInBounds_toArray, List.set_cons_zero, List.set_cons_succ])
 refine Plan.done ?_
 refine wpAnyH_done (by kernel_rfl) ?_ _
 clear hHeld
 obtain ⟨wS, hwS⟩ : ∃ x, x = w.drew.drew := ⟨_, rfl⟩
 have HBS : Hid (Below w.heap.size w wS) := Lib.hid (by rw [hwS]; exact (Below.refl _ _).drew.drew)
 rw [← hwS]
 clear hwS
 obtain ⟨⟨z0, z4, zn⟩, v0, v1, v2, v3, v4, v5⟩ := HSX.out _ HBS.out
 go_wp2_with fail
 clear z0 z4 zn v0 v1 v2 v3 v4 v5
 go_loopw [170] (fun v wr => (v = .int .i64 0 ∧ wr = wS) ∨ (v = .int .i64 1 ∧ HoldMid w0 w m F (G ++ gg) wr)) (fun v _ => 1 - (intOf v).toNat)
 case atStart => exact .inl ⟨rfl, rfl⟩
 case round =>
  rcases hrel with ⟨rfl, hwr⟩ | ⟨rfl, hm⟩
  ·subst hwr
   have HBr := Lib.hid HBS.out.drew
   go_upto_region 22 with fail
   refine wp_region_held_drew (S := (fun w' => (w'.cell? ⟨b', o', none⟩ = some (.int .i64 14) ∧ w'.cell? ⟨b', o' + 4, none⟩ = some (.slice (some ⟨fb, fo, none⟩) 1 d) ∧ w'.cell? ⟨fb, fo, none⟩ = some (.string nm)) ∧ (w'.cell? ⟨b, o, none⟩ = some (.int .i64 14) ∧ w'.cell? ⟨b, o + 1, none⟩ = some (.string s2) ∧ w'.cell? ⟨b, o + 2, none⟩ = some (.int .i64 n2) ∧ w'.cell? ⟨b, o + 3, none⟩ = some (.slice A2 ps2.length c2) ∧ w'.cell? ⟨b, o + 4, none⟩ = some (.slice B2 fs2.length d2) ∧ w'.cell? ⟨b, o + 5, none⟩ = some (.slice C2 vs2.length e2)))) (by kernel_rfl) (HSX.out _ HBr.out) (fun hHeld => ?_)
   refine Plan.start [0, 1, 2, 3, 4, 5, 6, 7, 8, 9, 10] ?_
   iterate 11 ((refine Plan.take (v := ?_) (so rfl) (by kernel_rfl) (by kernel_rfl) (by kernel_rfl) (fun _ _ _ h => h) (Or.inl ⟨by rfl, ?_⟩) hHeld ?_; rotate_left; focus (intro w' hSw; (try dsimp only at hSw); go_simp; try with_reducible rfl)); try simp only [Act.put, List.setIfInBounds_toArray, List.set_cons_zero, List.set_cons_succ])
   refine Plan.done ?_
   refine wpAnyH_ready (rs := [11, 15]) (by kernel_rfl) (by simp) ?_
   refine AllReadyH.cons (sd (some 185) rfl) (fun Kx hK => ?_) (AllReadyH.cons (sd (some 11) rfl) (fun Kx hK => ?_) AllReadyH.nil)
   ·go_simp
    refine (fieldof_any (HRT.out.later HBr.out) nm).mono ?_
    rintro e w3 h
    unfold FindPost at h
    rw [show (Ty.mk 14 s2 n2 ps2 fs2 vs2).fs = fs2 from rfl, HFD.out] at h
    obtain ⟨⟨ds, rfl, hrd⟩, hb⟩ := h
    obtain ⟨k7, s7, n7, ps7, fs7, vs7⟩ := gt
    obtain ⟨A7, c7, B7, d7, C7, e7, rfl, -⟩ := hrd.inv
    simp only [cells6T] at hrd ⊢
    have HB3 := Lib.hid (HBr.out.trans (hb.mono HBr.out.size))
    have HRD := Lib.hid (hrd.later hb)
    clear hrd hb
    go_wp2_with fail
    refine hK.out _ _ (HSX.out _ HB3.out) (fun hHeld => ?_)
    clear hK Kx
    try simp only [Act.put, List.setIfInBounds_toArray, List.set_cons_zero, List.set_cons_succ]
    refine Plan.start [12, 13, 14] ?_
    iterate 3 ((refine Plan.take (v := ?_) (so rfl) (by kernel_rfl) (by kernel_rfl) (by kernel_rfl) (fun _ _ _ h => h) (Or.inl ⟨by rfl, ?_⟩) hHeld ?_; rotate_left; focus (intro w' hSw; (try dsimp only at hSw); go_simp; try with_reducible rfl)); try simp only [Act.put, List.setIfInBounds_toArray, List.set_cons_zero, List.set_cons_succ])
    refine Plan.done ?_
    refine wpAnyH_ready (rs := [15]) (by kernel_rfl) (by simp) ?_
    refine AllReadyH.cons (sd (some 11) rfl) (fun Kx hK => ?_) AllReadyH.nil
    go_simp
    obtain ⟨hbk, hhbk⟩ : ∃ x, x = w3.heap.size := ⟨_, rfl⟩
    generalize hW : w3.alloc (.cells #[.string ⟨#[]⟩, .int .i64 0, .int .i64 0, .string ⟨#[]⟩, .int .i64 0, .slice none 0 0, .slice none 0 0, .slice none 0 0] 46) = w4
    have hb : Below w.heap.size w w4 := by rw [← hW]; exact (HB3.out.alloc HB3.out.size _)
    have rs : w4.heap[hbk]? = some (.cells #[.string ⟨#[]⟩, .int .i64 0, .int .i64 0, .string ⟨#[]⟩, .int .i64 0, .slice none 0 0, .slice none 0 0, .slice none 0 0] 46 (0, 0)) := by rw [← hW, hhbk]; exact heap_alloc_new w3 _
    have hge : w.heap.size ≤ hbk := by rw [hhbk]; exact HB3.out.size
    have HB4 := Lib.hid hb
    have HX4 := Lib.hid rs
    have HGE := Lib.hid hge
    rw [← hhbk]
    have HRD4 := Lib.hid (HRD.out.later (by rw [← hW]; exact (Below.refl _ _).alloc (Nat.le_refl _) _ : Below w3.heap.size w3 w4))
    clear hW hb rs hge hhbk
    refine hK.out _ _ (HSX.out _ HB4.out) (fun hHeld => ?_)
    clear hK Kx
    try simp only [Act.put, List.setIfInBounds_toArray, List.set_cons_zero, List.set_cons_succ]
    refine wpAnyH_ready (rs := [16]) (by kernel_rfl) (by simp) ?_
    refine AllReadyH.cons (sd none rfl) (fun Kx hK => ?_) AllReadyH.nil
    go_simp
    have qq0 := Lib.cell_of_heap HX4.out 0
    have zz0 := Lib.frozen_of_heap HX4.out 0
    have qq1 := Lib.cell_of_heap HX4.out 1
    have zz1 := Lib.frozen_of_heap HX4.out 1
    have qq2 := Lib.cell_of_heap HX4.out 2
    have zz2 := Lib.frozen_of_heap HX4.out 2
    have qq3 := Lib.cell_of_heap HX4.out 3
    have zz3 := Lib.frozen_of_heap HX4.out 3
    have qq4 := Lib.cell_of_heap HX4.out 4
    have zz4 := Lib.frozen_of_heap HX4.out 4
    have qq5 := Lib.cell_of_heap HX4.out 5
    have zz5 := Lib.frozen_of_heap HX4.out 5
    have qq6 := Lib.cell_of_heap HX4.out 6
    have zz6 := Lib.frozen_of_heap HX4.out 6
    have qq7 := Lib.cell_of_heap HX4.out 7
    have zz7 := Lib.frozen_of_heap HX4.out 7
    simp only [List.getElem?_toArray, List.getElem?_cons_zero, List.getElem?_cons_succ] at qq0 qq1 qq2 qq3 qq4 qq5 qq6 qq7
    go_simp
    clear qq0 zz0 qq1 zz1 qq2 zz2 qq3 zz3 qq4 zz4 qq5 zz5 qq6 zz6 qq7 zz7
    have hb := set_eight_below HB4.out HGE.out (.string nmg) (.int .i64 fl) (.int .i64 k7) (.string s7) (.int .i64 n7) (.slice A7 ps7.length c7) (.slice B7 fs7.length d7) (.slice C7 vs7.length e7)
    have rs := eight_set HX4.out (.string nmg) (.int .i64 fl) (.int .i64 k7) (.string s7) (.int .i64 n7) (.slice A7 ps7.length c7) (.slice B7 fs7.length d7) (.slice C7 vs7.length e7)
    have hr5 : RepT (fun x => (x < w.heap.size ∧ ¬ rowB m F x)) ((((((((w4.setCell ⟨hbk, 0, none⟩ (.string nmg)).setCell ⟨hbk, 1, none⟩ (.int .i64 fl)).setCell ⟨hbk, 2, none⟩ (.int .i64 k7)).setCell ⟨hbk, 3, none⟩ (.string s7)).setCell ⟨hbk, 4, none⟩ (.int .i64 n7)).setCell ⟨hbk, 5, none⟩ (.slice A7 ps7.length c7)).setCell ⟨hbk, 6, none⟩ (.slice B7 fs7.length d7)).setCell ⟨hbk, 7, none⟩ (.slice C7 vs7.length e7)) (.mk k7 s7 n7 ps7 fs7 vs7) [.int .i64 k7, .string s7, .int .i64 n7, .slice A7 ps7.length c7, .slice B7 fs7.length d7, .slice C7 vs7.length e7] := RepT.keep (fun x hx => HKT.out x hx) (fun x _ _ hx hc => (World.cell?_of_block (by rw [Below.heap_setCell, Below.heap_setCell, Below.heap_setCell, Below.heap_setCell, Below.heap_setCell, Below.heap_setCell, Below.heap_setCell, Below.heap_setCell]; all_goals (have h1 := (HKT.out x hx).1; have h2 := HGE.out; show x ≠ hbk; omega))).trans hc) _ _ HRD4.out
    generalize hW : (((((((w4.setCell ⟨hbk, 0, none⟩ (.string nmg)).setCell ⟨hbk, 1, none⟩ (.int .i64 fl)).setCell ⟨hbk, 2, none⟩ (.int .i64 k7)).setCell ⟨hbk, 3, none⟩ (.string s7)).setCell ⟨hbk, 4, none⟩ (.int .i64 n7)).setCell ⟨hbk, 5, none⟩ (.slice A7 ps7.length c7)).setCell ⟨hbk, 6, none⟩ (.slice B7 fs7.length d7)).setCell ⟨hbk, 7, none⟩ (.slice C7 vs7.length e7) = w5 at hb rs hr5
    have HB5 := Lib.hid hb
    have HX5 := Lib.hid rs
    have HR5 := Lib.hid hr5
    clear hW hb rs hr5
    refine hK.out _ _ (HSX.out _ HB5.out) (fun hHeld => ?_)
    clear hK Kx
    try simp only [Act.put, List.setIfInBounds_toArray, List.set_cons_zero, List.set_cons_succ]
    refine wpAnyH_take (i := 17) (v := ?_) (sd (some 12) rfl) (by kernel_rfl) (by kernel_rfl) (by kernel_rfl) (fun _ _ _ h => h) (Or.inl ⟨by rfl, ?_⟩) hHeld ?_
    rotate_left
    ·intro w' hSw
     (try dsimp only at hSw)
     go_simp
     try with_reducible rfl
    try simp only [Act.put, List.setIfInBounds_toArray, List.set_cons_zero, List.set_cons_succ]
    refine wpAnyH_done (by kernel_rfl) ?_ _
    clear hHeld
    obtain ⟨q0, q1, q2, q3, q4, q5, q6, q7⟩ : w5.cell? ⟨hbk, 0, none⟩ = some (.string nmg) ∧ w5.cell? ⟨hbk, 1, none⟩ = some (.int .i64 fl) ∧ w5.cell? ⟨hbk, 2, none⟩ = some (.int .i64 k7) ∧ w5.cell? ⟨hbk, 3, none⟩ = some (.string s7) ∧ w5.cell? ⟨hbk, 4, none⟩ = some (.int .i64 n7) ∧ w5.cell? ⟨hbk, 5, none⟩ = some (.slice A7 ps7.length c7) ∧ w5.cell? ⟨hbk, 6, none⟩ = some (.slice B7 fs7.length d7) ∧ w5.cell? ⟨hbk, 7, none⟩ = some (.slice C7 vs7.length e7) := ⟨Lib.cell_of_heap HX5.out 0, Lib.cell_of_heap HX5.out 1, Lib.cell_of_heap HX5.out 2, Lib.cell_of_heap HX5.out 3, Lib.cell_of_heap HX5.out 4, Lib.cell_of_heap HX5.out 5, Lib.cell_of_heap HX5.out 6, Lib.cell_of_heap HX5.out 7⟩
    have KH := Lib.hid (held_any union_p HR5.out (fun x hx => Nat.lt_of_lt_of_le hx.1 HB5.out.size) (by have h1 : (0:Int) ≤ fl := HGF.out.2.1; have h2 : fl ≤ 3 := HGF.out.2.2.1; omega) HFL2.out (nm := nmg) (fl := fl))
    go_upto_region 24 with fail
    (try clear hHeld)
    go_wp2_with fail
    clear q0 q1 q2 q3 q4 q5 q6 q7
    refine KH.out.mono ?_
    rintro e w6 ⟨rs, rfl, hr6, hb6⟩
    generalize heldT (nmg, fl, .mk k7 s7 n7 ps7 fs7 vs7) = ht at hr6 KC
    obtain ⟨k8, s8, n8, ps8, fs8, vs8⟩ := ht
    obtain ⟨A8, c8, B8, d8, C8, e8, rfl, -⟩ := hr6.inv
    simp only [cells6T] at hr6 ⊢
    have HB6 := Lib.hid (HB5.out.trans (hb6.mono HB5.out.size))
    have hr6b := hr6.both
    obtain ⟨w7, hw7⟩ : ∃ x, x = w6.alloc (.cells #[.int .i64 k8, .string s8, .int .i64 n8, .slice A8 ps8.length c8, .slice B8 fs8.length d8, .slice C8 vs8.length e8] 26) := ⟨_, rfl⟩
    have hb7 : Below w6.heap.size w6 w7 := by rw [hw7]; exact (Below.refl _ _).alloc (Nat.le_refl _) _
    have hg7 : w6.heap.size < w7.heap.size := by rw [hw7]; simp
    have hat7 : AtT (fun b => ((b < w.heap.size ∧ ¬ rowB m F b) ∨ w5.heap.size ≤ b) ∧ b < w6.heap.size) w7 (.mk k8 s8 n8 ps8 fs8 vs8) w6.heap.size 0 := by rw [hw7]; exact AtT.box 26 hr6b
    have HB7 := Lib.hid (HB6.out.trans (hb7.mono HB6.out.size))
    have HW7 := Lib.hid hw7
    have KK := Lib.hid (KC.out w7 w6.heap.size HB7.out HB6.out.size hg7 (hat7.keep (fun x hx => ⟨hx.1.elim .inl fun h => .inr (Nat.le_trans HB5.out.size h), Nat.lt_of_lt_of_le hx.2 hb7.size⟩) (fun _ _ _ _ h => h) (fun _ _ h => h)))
    clear hr6 hb6 hr6b hw7 hb7 hg7 hat7 KC KH
    go_upto_region 25 with fail
    rw [← HW7.out]
    clear HW7
    obtain ⟨⟨z0, z4, zn⟩, v0, v1, v2, v3, v4, v5⟩ := HSX.out _ HB7.out
    go_wp2_with fail
    clear z0 z4 zn v0 v1 v2 v3 v4 v5
    refine KK.out.mono ?_
    rintro e w9 ⟨rfl, hm⟩
    have HM := Lib.hid hm
    clear hm
    go_wp2_with fail
    refine ⟨.inr ⟨by first | rfl | simp, HM.out⟩, ?_⟩
    first | decide | simp [intOf]
   ·go_simp
    obtain ⟨hbk, hhbk⟩ : ∃ x, x = wr.heap.size := ⟨_, rfl⟩
    generalize hW : (wr.alloc (.cells #[.string ⟨#[]⟩, .int .i64 0, .int .i64 0, .string ⟨#[]⟩, .int .i64 0, .slice none 0 0, .slice none 0 0, .slice none 0 0] 46)).drew = w4
    have hb : Below w.heap.size w w4 := by rw [← hW]; exact ((HBS.out.alloc HBS.out.size _).drew)
    have rs : w4.heap[hbk]? = some (.cells #[.string ⟨#[]⟩, .int .i64 0, .int .i64 0, .string ⟨#[]⟩, .int .i64 0, .slice none 0 0, .slice none 0 0, .slice none 0 0] 46 (0, 0)) := by rw [← hW, hhbk]; exact heap_alloc_new wr _
    have hge : w.heap.size ≤ hbk := by rw [hhbk]; exact HBS.out.size
    have HB4 := Lib.hid hb
    have HX4 := Lib.hid rs
    have HGE := Lib.hid hge
    rw [← hhbk]
    clear hW hb rs hge hhbk
    refine hK.out _ _ (HSX.out _ HB4.out) (fun hHeld => ?_)
    clear hK Kx
    try simp only [Act.put, List.setIfInBounds_toArray, List.set_cons_zero, List.set_cons_succ]
    refine wpAnyH_ready (rs := [11]) (by kernel_rfl) (by simp) ?_
    refine AllReadyH.cons (sd (some 185) rfl) (fun Kx hK => ?_) AllReadyH.nil
    go_simp
    refine (fieldof_any (HRT.out.later HB4.out) nm).mono ?_
    rintro e w3 h
    unfold FindPost at h
    rw [show (Ty.mk 14 s2 n2 ps2 fs2 vs2).fs = fs2 from rfl, HFD.out] at h
    obtain ⟨⟨ds, rfl, hrd⟩, hb⟩ := h
    obtain ⟨k7, s7, n7, ps7, fs7, vs7⟩ := gt
    obtain ⟨A7, c7, B7, d7, C7, e7, rfl, -⟩ := hrd.inv
    simp only [cells6T] at hrd ⊢
    have HB3 := Lib.hid (HB4.out.trans (hb.mono HB4.out.size))
    have HRD := Lib.hid (hrd.later hb)
    have HX8 := Lib.hid (box_up hb (Array.getElem?_eq_some_iff.1 HX4.out).1 HX4.out)
    clear hrd hb
    go_wp2_with fail
    refine hK.out _ _ (HSX.out _ HB3.out) (fun hHeld => ?_)
    clear hK Kx
    try simp only [Act.put, List.setIfInBounds_toArray, List.set_cons_zero, List.set_cons_succ]
    refine Plan.start [12, 13, 14] ?_
    iterate 3 ((refine Plan.take (v := ?_) (so rfl) (by kernel_rfl) (by kernel_rfl) (by kernel_rfl) (fun _ _ _ h => h) (Or.inl ⟨by rfl, ?_⟩) hHeld ?_; rotate_left; focus (intro w' hSw; (try dsimp only at hSw); go_simp; try with_reducible rfl)); try simp only [Act.put, List.setIfInBounds_toArray, List.set_cons_zero, List.set_cons_succ])
    refine Plan.done ?_
    refine wpAnyH_ready (rs := [16]) (by kernel_rfl) (by simp) ?_
    refine AllReadyH.cons (sd none rfl) (fun Kx hK => ?_) AllReadyH.nil
    go_simp
    have qq0 := Lib.cell_of_heap HX8.out 0
    have zz0 := Lib.frozen_of_heap HX8.out 0
    have qq1 := Lib.cell_of_heap HX8.out 1
    have zz1 := Lib.frozen_of_heap HX8.out 1
    have qq2 := Lib.cell_of_heap HX8.out 2
    have zz2 := Lib.frozen_of_heap HX8.out 2
    have qq3 := Lib.cell_of_heap HX8.out 3
    have zz3 := Lib.frozen_of_heap HX8.out 3
    have qq4 := Lib.cell_of_heap HX8.out 4
    have zz4 := Lib.frozen_of_heap HX8.out 4
    have qq5 := Lib.cell_of_heap HX8.out 5
    have zz5 := Lib.frozen_of_heap HX8.out 5
    have qq6 := Lib.cell_of_heap HX8.out 6
    have zz6 := Lib.frozen_of_heap HX8.out 6
    have qq7 := Lib.cell_of_heap HX8.out 7
    have zz7 := Lib.frozen_of_heap HX8.out 7
    simp only [List.getElem?_toArray, List.getElem?_cons_zero, List.getElem?_cons_succ] at qq0 qq1 qq2 qq3 qq4 qq5 qq6 qq7
    go_simp
    clear qq0 zz0 qq1 zz1 qq2 zz2 qq3 zz3 qq4 zz4 qq5 zz5 qq6 zz6 qq7 zz7
    have hb := set_eight_below HB3.out HGE.out (.string nmg) (.int .i64 fl) (.int .i64 k7) (.string s7) (.int .i64 n7) (.slice A7 ps7.length c7) (.slice B7 fs7.length d7) (.slice C7 vs7.length e7)
    have rs := eight_set HX8.out (.string nmg) (.int .i64 fl) (.int .i64 k7) (.string s7) (.int .i64 n7) (.slice A7 ps7.length c7) (.slice B7 fs7.length d7) (.slice C7 vs7.length e7)
    have hr5 : RepT (fun x => (x < w.heap.size ∧ ¬ rowB m F x)) ((((((((w3.setCell ⟨hbk, 0, none⟩ (.string nmg)).setCell ⟨hbk, 1, none⟩ (.int .i64 fl)).setCell ⟨hbk, 2, none⟩ (.int .i64 k7)).setCell ⟨hbk, 3, none⟩ (.string s7)).setCell ⟨hbk, 4, none⟩ (.int .i64 n7)).setCell ⟨hbk, 5, none⟩ (.slice A7 ps7.length c7)).setCell ⟨hbk, 6, none⟩ (.slice B7 fs7.length d7)).setCell ⟨hbk, 7, none⟩ (.slice C7 vs7.length e7)) (.mk k7 s7 n7 ps7 fs7 vs7) [.int .i64 k7, .string s7, .int .i64 n7, .slice A7 ps7.length c7, .slice B7 fs7.length d7, .slice C7 vs7.length e7] := RepT.keep (fun x hx => HKT.out x hx) (fun x _ _ hx hc => (World.cell?_of_block (by rw [Below.heap_setCell, Below.heap_setCell, Below.heap_setCell, Below.heap_setCell, Below.heap_setCell, Below.heap_setCell, Below.heap_setCell, Below.heap_setCell]; all_goals (have h1 := (HKT.out x hx).1; have h2 := HGE.out; show x ≠ hbk; omega))).trans hc) _ _ HRD.out
    generalize hW : (((((((w3.setCell ⟨hbk, 0, none⟩ (.string nmg)).setCell ⟨hbk, 1, none⟩ (.int .i64 fl)).setCell ⟨hbk, 2, none⟩ (.int .i64 k7)).setCell ⟨hbk, 3, none⟩ (.string s7)).setCell ⟨hbk, 4, none⟩ (.int .i64 n7)).setCell ⟨hbk, 5, none⟩ (.slice A7 ps7.length c7)).setCell ⟨hbk, 6, none⟩ (.slice B7 fs7.length d7)).setCell ⟨hbk, 7, none⟩ (.slice C7 vs7.length e7) = w5 at hb rs hr5
    have HB5 := Lib.hid hb
    have HX5 := Lib.hid rs
    have HR5 := Lib.hid hr5
    clear hW hb rs hr5
    refine hK.out _ _ (HSX.out _ HB5.out) (fun hHeld => ?_)
    clear hK Kx
    try simp only [Act.put, List.setIfInBounds_toArray, List.set_cons_zero, List.set_cons_succ]
    refine wpAnyH_take (i := 17) (v := ?_) (sd (some 12) rfl) (by kernel_rfl) (by kernel_rfl) (by kernel_rfl) (fun _ _ _ h => h) (Or.inl ⟨by rfl, ?_⟩) hHeld ?_
    rotate_left
    ·intro w' hSw
     (try dsimp only at hSw)
     go_simp
     try with_reducible rfl
    try simp only [Act.put, List.setIfInBounds_toArray, List.set_cons_zero, List.set_cons_succ]
    refine wpAnyH_done (by kernel_rfl) ?_ _
    clear hHeld
    obtain ⟨q0, q1, q2, q3, q4, q5, q6, q7⟩ : w5.cell? ⟨hbk, 0, none⟩ = some (.string nmg) ∧ w5.cell? ⟨hbk, 1, none⟩ = some (.int .i64 fl) ∧ w5.cell? ⟨hbk, 2, none⟩ = some (.int .i64 k7) ∧ w5.cell? ⟨hbk, 3, none⟩ = some (.string s7) ∧ w5.cell? ⟨hbk, 4, none⟩ = some (.int .i64 n7) ∧ w5.cell? ⟨hbk, 5, none⟩ = some (.slice A7 ps7.length c7) ∧ w5.cell? ⟨hbk, 6, none⟩ = some (.slice B7 fs7.length d7) ∧ w5.cell? ⟨hbk, 7, none⟩ = some (.slice C7 vs7.length e7) := ⟨Lib.cell_of_heap HX5.out 0, Lib.cell_of_heap HX5.out 1, Lib.cell_of_heap HX5.out 2, Lib.cell_of_heap HX5.out 3, Lib.cell_of_heap HX5.out 4, Lib.cell_of_heap HX5.out 5, Lib.cell_of_heap HX5.out 6, Lib.cell_of_heap HX5.out 7⟩
    have KH := Lib.hid (held_any union_p HR5.out (fun x hx => Nat.lt_of_lt_of_le hx.1 HB5.out.size) (by have h1 : (0:Int) ≤ fl := HGF.out.2.1; have h2 : fl ≤ 3 := HGF.out.2.2.1; omega) HFL2.out (nm := nmg) (fl := fl))
    go_upto_region 24 with fail
    (try clear hHeld)
    go_wp2_with fail
    clear q0 q1 q2 q3 q4 q5 q6 q7
    refine KH.out.mono ?_
    rintro e w6 ⟨rs, rfl, hr6, hb6⟩
    generalize heldT (nmg, fl, .mk k7 s7 n7 ps7 fs7 vs7) = ht at hr6 KC
    obtain ⟨k8, s8, n8, ps8, fs8, vs8⟩ := ht
    obtain ⟨A8, c8, B8, d8, C8, e8, rfl, -⟩ := hr6.inv
    simp only [cells6T] at hr6 ⊢
    have HB6 := Lib.hid (HB5.out.trans (hb6.mono HB5.out.size))
    have hr6b := hr6.both
    obtain ⟨w7, hw7⟩ : ∃ x, x = w6.alloc (.cells #[.int .i64 k8, .string s8, .int .i64 n8, .slice A8 ps8.length c8, .slice B8 fs8.length d8, .slice C8 vs8.length e8] 26) := ⟨_, rfl⟩
    have hb7 : Below w6.heap.size w6 w7 := by rw [hw7]; exact (Below.refl _ _).alloc (Nat.le_refl _) _
    have hg7 : w6.heap.size < w7.heap.size := by rw [hw7]; simp
    have hat7 : AtT (fun b => ((b < w.heap.size ∧ ¬ rowB m F b) ∨ w5.heap.size ≤ b) ∧ b < w6.heap.size) w7 (.mk k8 s8 n8 ps8 fs8 vs8) w6.heap.size 0 := by rw [hw7]; exact AtT.box 26 hr6b
    have HB7 := Lib.hid (HB6.out.trans (hb7.mono HB6.out.size))
    have HW7 := Lib.hid hw7
    have KK := Lib.hid (KC.out w7 w6.heap.size HB7.out HB6.out.size hg7 (hat7.keep (fun x hx => ⟨hx.1.elim .inl fun h => .inr (Nat.le_trans HB5.out.size h), Nat.lt_of_lt_of_le hx.2 hb7.size⟩) (fun _ _ _ _ h => h) (fun _ _ h => h)))
    clear hr6 hb6 hr6b hw7 hb7 hg7 hat7 KC KH
    go_upto_region 25 with fail
    rw [← HW7.out]
    clear HW7
    obtain ⟨⟨z0, z4, zn⟩, v0, v1, v2, v3, v4, v5⟩ := HSX.out _ HB7.out
    go_wp2_with fail
    clear z0 z4 zn v0 v1 v2 v3 v4 v5
    refine KK.out.mono ?_
    rintro e w9 ⟨rfl, hm⟩
    have HM := Lib.hid hm
    clear hm
    go_wp2_with fail
    refine ⟨.inr ⟨by first | rfl | simp, HM.out⟩, ?_⟩
    first | decide | simp [intOf]
  ·have HMf := Lib.hid hm
   clear hm
   go_wp2_with fail
   exact bodyPost_end (v := .tuple #[]) (by simp [results, Tryz.results57, go_sem]) rfl ⟨rfl, HMf.out⟩
end Go.Proofs.YtlooadichhpgeaaGreatDoor
