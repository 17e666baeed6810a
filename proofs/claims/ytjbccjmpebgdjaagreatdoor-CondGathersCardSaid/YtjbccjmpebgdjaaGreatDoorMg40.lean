import Derived.Test.YtjbccjmpebgdjaaGreatDoorMg36
namespace Go.Proofs.YtjbccjmpebgdjaaGreatDoor
open Go.RowKit
set_option maxRecDepth 100000
set_option maxHeartbeats 64000000
theorem HoldMid.below {w0 w wr wx : World} {m : Nat} {F : ByteArray → Option Rw} {G : List (ByteArray × Ty)} (h : HoldMid w0 w m F G wr) (hb : Below wr.heap.size wr wx) : HoldMid w0 w m F G wx := by
 obtain ⟨F', hG, hbut, hf⟩ := h
 exact (HoldMid.start (hG.later hb)).comp hbut hf (ButG.of_below hb)
theorem map_part {α β : Type} (g : α → List β) {l : List α} {i : Nat} (h : i < l.length) : ((l.map g).take (i + 1)).flatten = ((l.map g).take i).flatten ++ g l[i] := by
 rw [← List.map_take, ← List.map_take]
 exact flat_part g h
theorem ins_objs {p t : Ty} (hk : p.k = 14) (hk2 : t.k = 14) (hinf : infT p = true) (h0 : 0 < p.fs.length) (ih : ∀ f g, f ∈ p.fs → g ∈ t.fs → HoldP f.2.2 (heldT g)) : InsP p t := by
 intro K K' w0 w m F G b o b' o' hT hP hKT hKP hG hB hfp hft hct hlen
 obtain ⟨k, s, n, ps, fs, vs⟩ := p
 obtain ⟨k2, s2, n2, ps2, fs2, vs2⟩ := t
 obtain rfl : k = 14 := hk
 obtain rfl : k2 = 14 := hk2
 simp only [Ty.fs] at h0 ih
 have hga : gathT (.mk 14 s n ps fs vs) (.mk 14 s2 n2 ps2 fs2 vs2) = (fs.map (fun f => ((fs2.find? fun g => decide (g.1 = f.1)).map fun g => gathT f.2.2 (heldT g)).getD [])).flatten := by
  rw [gathT_eq, if_neg (by rw [hinf]; decide), if_neg (by show ¬ ((14 : Int) = 22); decide), if_neg (by show ¬ ((14 : Int) = 15); decide), if_neg (by show ¬ (isComp 14 = false); decide), if_neg (by show ¬ ((14 : Int) = 15); decide), if_neg (by show ¬ ((14 : Int) = 11 ∧ (14 : Int) = 12); decide), if_neg (by show ¬ ((14 : Int) ≠ 14); decide), if_neg (by show ¬ ((14 : Int) = 11); decide), if_neg (by show ¬ ((14 : Int) = 12 ∨ ((14 : Int) = 17 ∧ _)); intro h; rcases h with h | ⟨h, _⟩ <;> exact absurd h (by decide)), if_neg (by show ¬ ((14 : Int) = 13 ∧ _); intro h; exact absurd h.1 (by decide)), if_pos (show (Ty.mk 14 s n ps fs vs).k = 14 from rfl)]
  rfl
 rw [hga] at hlen ⊢
 obtain ⟨A, c, B, d, C, e0, ⟨x0, x1, x2, x3, x4, x5⟩, -, hLp, hLf, hLv⟩ := hP.six
 obtain ⟨cs, hcs, hrt⟩ := hT
 obtain ⟨A2, c2, B2, d2, C2, e2, rfl, -⟩ := hrt.inv
 simp only [cells6T] at hcs hrt
 have hll : fs.length ≤ 1000000000000000 := by obtain ⟨_, _, h1, _⟩ := hLf; exact h1.big
 obtain ⟨fb, fo, hA, hKb, hatf⟩ := hLf.at h0
 subst hA
 have hfields := fun (f : ByteArray × Int × Ty) (hf : f ∈ fs2) => fieldsB_mem (form_fields (t := .mk 14 s2 n2 ps2 fs2 vs2) hft rfl) hf
 have hnb := (hKT b (.inr rfl)).2
 have hnb' := (hKP b' (.inr rfl)).2
 have hnf := (hKP fb (.inl hKb)).2
 have HSW : Hid (∀ wx G', HoldMid w0 w m F G' wx → (wx.cell? ⟨b', o', none⟩ = some (.int .i64 14) ∧ wx.cell? ⟨b', o' + 4, none⟩ = some (.slice (some ⟨fb, fo, none⟩) fs.length d)) ∧ (wx.cell? ⟨b, o, none⟩ = some (.int .i64 14) ∧ wx.cell? ⟨b, o + 1, none⟩ = some (.string s2) ∧ wx.cell? ⟨b, o + 2, none⟩ = some (.int .i64 n2) ∧ wx.cell? ⟨b, o + 3, none⟩ = some (.slice A2 ps2.length c2) ∧ wx.cell? ⟨b, o + 4, none⟩ = some (.slice B2 fs2.length d2) ∧ wx.cell? ⟨b, o + 5, none⟩ = some (.slice C2 vs2.length e2))) := Hd fun wx G' hm => by
  obtain ⟨F', _, hb, _⟩ := hm
  exact ⟨⟨but_cell hb hnb' x0, but_cell hb hnb' x4⟩, but_cell hb hnb (hcs 0 _ rfl), but_cell hb hnb (hcs 1 _ rfl), but_cell hb hnb (hcs 2 _ rfl), but_cell hb hnb (hcs 3 _ rfl), but_cell hb hnb (hcs 4 _ rfl), but_cell hb hnb (hcs 5 _ rfl)⟩
 have HNM : Hid (∀ i (hi : i < fs.length) wx G', HoldMid w0 w m F G' wx → wx.cell? ⟨fb, fo + i * 8, none⟩ = some (.string (fs[i]'hi).1)) := Hd fun i hi wx G' hm => by
  obtain ⟨F', _, hb, _⟩ := hm
  exact but_cell hb hnf (hatf i hi).1
 have HRT : Hid (∀ wx G', HoldMid w0 w m F G' wx → RepT K wx (.mk 14 s2 n2 ps2 fs2 vs2) [.int .i64 14, .string s2, .int .i64 n2, .slice A2 ps2.length c2, .slice B2 fs2.length d2, .slice C2 vs2.length e2]) := Hd fun wx G' hm => by
  obtain ⟨F', _, hb, _⟩ := hm
  exact RepT.keep (fun _ h => h) (fun x _ _ hx hc => but_cell hb (hKT x (.inl hx)).2 hc) _ _ hrt
 have HKT : Hid (∀ x, K x → x < w.heap.size ∧ ¬ rowB m F x) := Hd fun x hx => hKT x (.inl hx)
 have HGF : Hid (∀ g, g ∈ fs2 → (0 ≤ g.2.1 ∧ g.2.1 ≤ 3) ∧ (flatU [tyK 4, g.2.2]).length ≤ 1099511627776) := Hd fun g hg => by
  have hgf := hfields _ hg
  have hcg := cnt_fs (t := .mk 14 s2 n2 ps2 fs2 vs2) hg
  exact ⟨⟨hgf.2.1, hgf.2.2.1⟩, by have h1 := (flatU_cnt [tyK 4, g.2.2]).1; rw [cntL_cons, cntL_cons, cntL_nil, cnt_kind] at h1; omega⟩
 have KN : Hid (∀ i (hi : i < fs.length) wr, (fs2.find? fun g => decide (g.1 = (fs[i]'hi).1)) = none → HoldMid w0 w m F (G ++ ((fs.map (fun f => ((fs2.find? fun g => decide (g.1 = f.1)).map fun g => gathT f.2.2 (heldT g)).getD [])).take i).flatten) wr → HoldMid w0 w m F (G ++ ((fs.map (fun f => ((fs2.find? fun g => decide (g.1 = f.1)).map fun g => gathT f.2.2 (heldT g)).getD [])).take (i + 1)).flatten) wr) := Hd fun i hi wr hfd hm => by
  rw [map_part (fun f => ((fs2.find? fun g => decide (g.1 = f.1)).map fun g => gathT f.2.2 (heldT g)).getD []) hi]
  show HoldMid w0 w m F (G ++ (_ ++ ((fs2.find? fun g => decide (g.1 = (fs[i]'hi).1)).map fun g => gathT (fs[i]'hi).2.2 (heldT g)).getD [])) wr
  rw [hfd]
  simpa using hm
 have KC : Hid (∀ i (hi : i < fs.length) gf, (fs2.find? fun g => decide (g.1 = (fs[i]'hi).1)) = some gf → ∀ wr, HoldMid w0 w m F (G ++ ((fs.map (fun f => ((fs2.find? fun g => decide (g.1 = f.1)).map fun g => gathT f.2.2 (heldT g)).getD [])).take i).flatten) wr → ∀ w2 g, Below wr.heap.size wr w2 → wr.heap.size ≤ g → g < w2.heap.size → AtT (fun x => ((x < w.heap.size ∧ ¬ rowB m F x) ∨ wr.heap.size ≤ x) ∧ x < w2.heap.size) w2 (heldT gf) g 0 → Calls Tryz.prog 25 #[.map (some m), .pointer (some ⟨g, 0, none⟩), .pointer (some ⟨fb, fo + i * 8 + 2, none⟩)] w2 fun e w' => e = .returned (.tuple #[]) ∧ HoldMid w0 w m F (G ++ ((fs.map (fun f => ((fs2.find? fun g => decide (g.1 = f.1)).map fun g => gathT f.2.2 (heldT g)).getD [])).take (i + 1)).flatten) w') := Hd fun i hi gf hfd wr hm w2 g hb hg hg2 hat2 => by
  have hgm : gf ∈ fs2 := List.mem_of_find?_eq_some hfd
  have hgf := hfields _ hgm
  have hcg := cnt_fs (t := .mk 14 s2 n2 ps2 fs2 vs2) hgm
  have hch := cnt_held gf
  have hcq := cnt_fs (t := .mk 14 s n ps fs vs) (List.getElem_mem hi)
  have hfh : formT (heldT gf) = true := form_held hgf.2.2.2
  have hfq : formT (fs[i]'hi).2.2 = true := form_fs hfp _ (List.getElem_mem hi)
  have h3 := take_flat_le (fs.map (fun f => ((fs2.find? fun g => decide (g.1 = f.1)).map fun g => gathT f.2.2 (heldT g)).getD [])) (i + 1)
  have he : ((fs.map (fun f => ((fs2.find? fun g => decide (g.1 = f.1)).map fun g => gathT f.2.2 (heldT g)).getD [])).take (i + 1)).flatten = ((fs.map (fun f => ((fs2.find? fun g => decide (g.1 = f.1)).map fun g => gathT f.2.2 (heldT g)).getD [])).take i).flatten ++ gathT (fs[i]'hi).2.2 (heldT gf) := by
   rw [map_part (fun f => ((fs2.find? fun g => decide (g.1 = f.1)).map fun g => gathT f.2.2 (heldT g)).getD []) hi]
   show _ ++ ((fs2.find? fun g => decide (g.1 = (fs[i]'hi).1)).map fun g => gathT (fs[i]'hi).2.2 (heldT g)).getD [] = _
   rw [hfd]
   rfl
  rw [he] at h3 ⊢
  rw [List.length_append] at h3
  rw [← List.append_assoc]
  have hP2 := hm.at (hatf i hi).2.2.2 (fun x hx => hKP x (hx.elim .inl fun e => .inl (by rw [e]; exact hKb)))
  obtain ⟨F', hG', hbut, hf⟩ := hm
  have out : ∀ x, x < w.heap.size ∧ ¬ rowB m F x → x < wr.heap.size ∧ ¬ rowB m F' x := fun x hx => ⟨Nat.lt_of_lt_of_le hx.1 hbut.size, fun e => (hf x e).elim hx.2 (by omega)⟩
  have hnr : ∀ x, wr.heap.size ≤ x → ¬ rowB m F' x := fun x hx hr => by have := (hG'.lt hr).2; omega
  refine (ih _ _ (List.getElem_mem hi) hgm _ _ w0 w2 m F' _ g 0 fb (fo + i * 8 + 2) hat2 (hP2.later hb) (fun x hx => ?_) (fun x hx => ?_) (hG'.later hb) (Nat.le_trans hB (Nat.le_trans hbut.size hb.size)) hfq hfh (by omega) (by rw [List.length_append]; omega)).mono ?_
  ·rcases hx with ⟨h1 | h1, h2⟩ | rfl
   ·exact ⟨h2, (out x h1).2⟩
   ·exact ⟨h2, hnr x h1⟩
   ·exact ⟨hg2, hnr x hg⟩
  ·have h1 := out x (hKP x (hx.elim .inl fun e => .inl (by rw [e]; exact hKb)))
   exact ⟨Nat.lt_of_lt_of_le h1.1 hb.size, h1.2⟩
  ·rintro e w' ⟨rfl, hm2⟩
   exact ⟨rfl, hm2.comp hbut hf (ButG.of_below hb)⟩
 have HST := Hd (HoldMid.start hG)
 have HST2 : Hid (HoldMid w0 w m F (G ++ ((fs.map (fun f => ((fs2.find? fun g => decide (g.1 = f.1)).map fun g => gathT f.2.2 (heldT g)).getD [])).take 0).flatten) w.drew.drew) := Hd (by rw [List.take_zero, List.flatten_nil, List.append_nil]; exact (HoldMid.start hG).drew.drew)
 have HGZ : Hid ((fs.map (fun f => ((fs2.find? fun g => decide (g.1 = f.1)).map fun g => gathT f.2.2 (heldT g)).getD [])).length = fs.length) := Hd (by rw [List.length_map])
 have HLL := Hd hll
 clear hP hKT hKP hG hB hfp hft hct hlen hga hLp hLf hLv hcs hrt hKb hatf ih hnb hnb' hnf hinf x0 x1 x2 x3 x4 x5 hfields hll h0
 generalize fs.map (fun f => ((fs2.find? fun g => decide (g.1 = f.1)).map fun g => gathT f.2.2 (heldT g)).getD []) = gz at KC KN HST2 HGZ ⊢
 go_enter Tryz.func43, Tryz.ntmps43
 obtain ⟨⟨z0, z4⟩, v0, v1, v2, v3, v4, v5⟩ := HSW.out _ _ HST.out
 go_upto_region 3 with fail
 clear z0 z4 v0 v1 v2 v3 v4 v5
 refine wp_region_held_drew (S := (fun w' => (w'.cell? ⟨b', o', none⟩ = some (.int .i64 14) ∧ w'.cell? ⟨b', o' + 4, none⟩ = some (.slice (some ⟨fb, fo, none⟩) fs.length d)) ∧ (w'.cell? ⟨b, o, none⟩ = some (.int .i64 14) ∧ w'.cell? ⟨b, o + 1, none⟩ = some (.string s2) ∧ w'.cell? ⟨b, o + 2, none⟩ = some (.int .i64 n2) ∧ w'.cell? ⟨b, o + 3, none⟩ = some (.slice A2 ps2.length c2) ∧ w'.cell? ⟨b, o + 4, none⟩ = some (.slice B2 fs2.length d2) ∧ w'.cell? ⟨b, o + 5, none⟩ = some (.slice C2 vs2.length e2)))) (by kernel_rfl) (HSW.out _ _ HST.out.drew) (fun hHeld => ?_)
 refine Plan.start [0, 1, 2, 3, 4, 5, 6, 7, 8, 9] ?_
 iterate 10 (refine Plan.tk (so rfl) hHeld ?_; try simp only [Act.put, pz1, pz2, pz3])
 refine Plan.done ?_
 refine wpAnyH_done (by kernel_rfl) ?_ _
 clear hHeld
 obtain ⟨⟨z0, z4⟩, v0, v1, v2, v3, v4, v5⟩ := HSW.out _ _ HST.out.drew
 go_upto_region 8 with fail
 clear z0 z4 v0 v1 v2 v3 v4 v5
 refine wp_region_held_drew (S := (fun w' => (w'.cell? ⟨b', o', none⟩ = some (.int .i64 14) ∧ w'.cell? ⟨b', o' + 4, none⟩ = some (.slice (some ⟨fb, fo, none⟩) fs.length d)) ∧ (w'.cell? ⟨b, o, none⟩ = some (.int .i64 14) ∧ w'.cell? ⟨b, o + 1, none⟩ = some (.string s2) ∧ w'.cell? ⟨b, o + 2, none⟩ = some (.int .i64 n2) ∧ w'.cell? ⟨b, o + 3, none⟩ = some (.slice A2 ps2.length c2) ∧ w'.cell? ⟨b, o + 4, none⟩ = some (.slice B2 fs2.length d2) ∧ w'.cell? ⟨b, o + 5, none⟩ = some (.slice C2 vs2.length e2)))) (by kernel_rfl) (HSW.out _ _ HST.out.drew.drew) (fun hHeld => ?_)
 refine Plan.start [0, 1, 2, 3, 4, 5] ?_
 iterate 6 (refine Plan.tk (so rfl) hHeld ?_; try simp only [Act.put, pz1, pz2, pz3])
 refine Plan.done ?_
 refine Plan.start [6, 7, 8, 9, 10, 11, 12, 13, 14] ?_
 iterate 9 (refine Plan.take (v := undef) (so rfl) (by kernel_rfl) (by kernel_rfl) (by kernel_rfl) (fun _ _ _ h => h) (Or.inr ⟨by rfl, rfl⟩) hHeld ?_; try simp only [Act.put, pz1, pz2, pz3])
 refine Plan.done ?_
 refine Plan.start [15, 16] ?_
 iterate 2 (refine Plan.tk (so rfl) hHeld ?_; try simp only [Act.put, pz1, pz2, pz3])
 refine Plan.done ?_
 refine wpAnyH_done (by kernel_rfl) ?_ _
 clear hHeld
 obtain ⟨⟨z0, z4⟩, v0, v1, v2, v3, v4, v5⟩ := HSW.out _ _ HST.out.drew.drew
 go_wp2_with fail
 clear z0 z4 v0 v1 v2 v3 v4 v5
 go_loopw [170] (fun v wr => ∃ (i : Nat), i ≤ fs.length ∧ v = .int .i64 i ∧ HoldMid w0 w m F (G ++ (gz.take i).flatten) wr) (fun v _ => fs.length - (intOf v).toNat)
 case atStart => exact ⟨0, by omega, rfl, HST2.out⟩
 case round =>
  obtain ⟨i, hi, rfl, hm⟩ := hrel
  by_cases hin : i < fs.length
  ·have t1 : decide ((i : Int) < (fs.length : Int)) = true := by simp; omega
   have wr2 : wrap64 ((i : Int) + 1) = ((i + 1 : Nat) : Int) := wrap_one (by have := HLL.out; omega)
   have HMS := Hd (measI hin)
   have HIn : Hid (i + 1 ≤ fs.length) := Hd hin
   have i1 : (0 : Int) ≤ (i : Int) := by omega
   have i2 : (i : Int) < (fs.length : Int) := by omega
   have hs0 := HSW.out _ _ hm
   have hn0 := HNM.out i hin _ _ hm
   have hrti := HRT.out _ _ hm
   have kni := fun hfd => KN.out i hin _ hfd hm
   have kci := fun gf hfd => KC.out i hin gf hfd _ hm
   have hwr : w.heap.size ≤ wr.heap.size := by obtain ⟨F', _, hb, _⟩ := hm; exact hb.size
   generalize (fs[i]'hin).1 = nm at hn0 kni kci
   have HSX : Hid (∀ wx, Below wr.heap.size wr wx → (wx.cell? ⟨b', o', none⟩ = some (.int .i64 14) ∧ wx.cell? ⟨b', o' + 4, none⟩ = some (.slice (some ⟨fb, fo, none⟩) fs.length d) ∧ wx.cell? ⟨fb, fo + i * 8, none⟩ = some (.string nm)) ∧ (wx.cell? ⟨b, o, none⟩ = some (.int .i64 14) ∧ wx.cell? ⟨b, o + 1, none⟩ = some (.string s2) ∧ wx.cell? ⟨b, o + 2, none⟩ = some (.int .i64 n2) ∧ wx.cell? ⟨b, o + 3, none⟩ = some (.slice A2 ps2.length c2) ∧ wx.cell? ⟨b, o + 4, none⟩ = some (.slice B2 fs2.length d2) ∧ wx.cell? ⟨b, o + 5, none⟩ = some (.slice C2 vs2.length e2))) := Hd fun wx hx => by
    obtain ⟨⟨z0, z4⟩, v0, v1, v2, v3, v4, v5⟩ := hs0
    exact ⟨⟨cell_stays hx z0, cell_stays hx z4, cell_stays hx hn0⟩, cell_stays hx v0, cell_stays hx v1, cell_stays hx v2, cell_stays hx v3, cell_stays hx v4, cell_stays hx v5⟩
   have HRTi := Hd hrti
   have HWR := Hd hwr
   have HBr := Hd (Below.refl wr.heap.size wr).drew
   clear hs0 hn0 hrti hwr hm KN KC HSW HNM HRT HST HST2 HGZ
   cases hfd : fs2.find? fun g => decide (g.1 = nm) with
   | none =>
    have HFD := Hd hfd
    have KNi := Hd (kni hfd)
    clear kni kci hfd HGF
    go_upto_region 22 with fail
    refine wp_region_held_drew (S := (fun w' => (w'.cell? ⟨b', o', none⟩ = some (.int .i64 14) ∧ w'.cell? ⟨b', o' + 4, none⟩ = some (.slice (some ⟨fb, fo, none⟩) fs.length d) ∧ w'.cell? ⟨fb, fo + i * 8, none⟩ = some (.string nm)) ∧ (w'.cell? ⟨b, o, none⟩ = some (.int .i64 14) ∧ w'.cell? ⟨b, o + 1, none⟩ = some (.string s2) ∧ w'.cell? ⟨b, o + 2, none⟩ = some (.int .i64 n2) ∧ w'.cell? ⟨b, o + 3, none⟩ = some (.slice A2 ps2.length c2) ∧ w'.cell? ⟨b, o + 4, none⟩ = some (.slice B2 fs2.length d2) ∧ w'.cell? ⟨b, o + 5, none⟩ = some (.slice C2 vs2.length e2)))) (by kernel_rfl) (HSX.out _ HBr.out) (fun hHeld => ?_)
    refine Plan.start [0, 1, 2, 3, 4, 5, 6, 7, 8, 9, 10] ?_
    iterate 11 (refine Plan.tk (so rfl) hHeld ?_; try simp only [Act.put, pz1, pz2, pz3])
    refine Plan.done ?_
    refine wpAnyH_ready (rs := [11, 15]) (by kernel_rfl) (by simp) ?_
    refine AllReadyH.cons (sd (some 185) rfl) (fun Kx hK => ?_) (AllReadyH.cons (sd (some 11) rfl) (fun Kx hK => ?_) AllReadyH.nil)
    ·go_simp
     refine (fieldof_any (HRTi.out.later HBr.out) nm).mono ?_
     rintro e w3 h
     unfold FindPost at h
     rw [show (Ty.mk 14 s2 n2 ps2 fs2 vs2).fs = fs2 from rfl, HFD.out] at h
     obtain ⟨rfl, hb⟩ := h
     have HB3 := Hd (HBr.out.trans (hb.mono HBr.out.size))
     clear hb
     go_wp2_with fail
     refine hK.out _ _ (HSX.out _ HB3.out) (fun hHeld => ?_)
     clear hK Kx
     try simp only [Act.put, pz1, pz2, pz3]
     refine Plan.start [12, 13, 14] ?_
     iterate 3 (refine Plan.tk (so rfl) hHeld ?_; try simp only [Act.put, pz1, pz2, pz3])
     refine Plan.done ?_
     refine wpAnyH_ready (rs := [15]) (by kernel_rfl) (by simp) ?_
     refine AllReadyH.cons (sd (some 11) rfl) (fun Kx hK => ?_) AllReadyH.nil
     go_simp
     obtain ⟨hbk, hhbk⟩ : ∃ x, x = w3.heap.size := ⟨_, rfl⟩
     generalize hW : w3.alloc (.cells #[.string ⟨#[]⟩, .int .i64 0, .int .i64 0, .string ⟨#[]⟩, .int .i64 0, .slice none 0 0, .slice none 0 0, .slice none 0 0] 55) = w4
     have hb : Below wr.heap.size wr w4 := by rw [← hW]; exact (HB3.out.alloc HB3.out.size _)
     have rs : w4.heap[hbk]? = some (.cells #[.string ⟨#[]⟩, .int .i64 0, .int .i64 0, .string ⟨#[]⟩, .int .i64 0, .slice none 0 0, .slice none 0 0, .slice none 0 0] 55 (0, 0)) := by rw [← hW, hhbk]; exact heap_alloc_new w3 _
     have hge : wr.heap.size ≤ hbk := by rw [hhbk]; exact HB3.out.size
     have HB4 := Hd hb
     have HX4 := Hd rs
     have HGE := Hd hge
     rw [← hhbk]
     clear hW hb rs hge hhbk
     refine hK.out _ _ (HSX.out _ HB4.out) (fun hHeld => ?_)
     clear hK Kx
     try simp only [Act.put, pz1, pz2, pz3]
     refine wpAnyH_ready (rs := [16]) (by kernel_rfl) (by simp) ?_
     refine AllReadyH.cons (sd none rfl) (fun Kx hK => ?_) AllReadyH.nil
     go_simp
     have qq0 := Ch HX4.out 0
     have zz0 := Lib.frozen_of_heap HX4.out 0
     have qq1 := Ch HX4.out 1
     have zz1 := Lib.frozen_of_heap HX4.out 1
     have qq2 := Ch HX4.out 2
     have zz2 := Lib.frozen_of_heap HX4.out 2
     have qq3 := Ch HX4.out 3
     have zz3 := Lib.frozen_of_heap HX4.out 3
     have qq4 := Ch HX4.out 4
     have zz4 := Lib.frozen_of_heap HX4.out 4
     have qq5 := Ch HX4.out 5
     have zz5 := Lib.frozen_of_heap HX4.out 5
     have qq6 := Ch HX4.out 6
     have zz6 := Lib.frozen_of_heap HX4.out 6
     have qq7 := Ch HX4.out 7
     have zz7 := Lib.frozen_of_heap HX4.out 7
     simp only [List.getElem?_toArray, List.getElem?_cons_zero, List.getElem?_cons_succ] at qq0 qq1 qq2 qq3 qq4 qq5 qq6 qq7
     go_simp
     clear qq0 zz0 qq1 zz1 qq2 zz2 qq3 zz3 qq4 zz4 qq5 zz5 qq6 zz6 qq7 zz7
     have hb := set_eight_below HB4.out HGE.out (.string ⟨#[]⟩) (.int .i64 0) (.int .i64 0) (.string ⟨#[]⟩) (.int .i64 0) (.slice none 0 0) (.slice none 0 0) (.slice none 0 0)
     generalize hW : (((((((w4.setCell ⟨hbk, 0, none⟩ (.string ⟨#[]⟩)).setCell ⟨hbk, 1, none⟩ (.int .i64 0)).setCell ⟨hbk, 2, none⟩ (.int .i64 0)).setCell ⟨hbk, 3, none⟩ (.string ⟨#[]⟩)).setCell ⟨hbk, 4, none⟩ (.int .i64 0)).setCell ⟨hbk, 5, none⟩ (.slice none 0 0)).setCell ⟨hbk, 6, none⟩ (.slice none 0 0)).setCell ⟨hbk, 7, none⟩ (.slice none 0 0) = w5 at hb
     have HB5 := Hd hb
     clear hW hb
     refine hK.out _ _ (HSX.out _ HB5.out) (fun hHeld => ?_)
     clear hK Kx
     try simp only [Act.put, pz1, pz2, pz3]
     refine Plan.start [17] ?_
     refine Plan.tk (so rfl) hHeld ?_
     try simp only [Act.put, pz1, pz2, pz3]
     refine Plan.done ?_
     refine wpAnyH_done (by kernel_rfl) ?_ _
     clear hHeld
     go_wp2_with fail
     refine ⟨⟨i + 1, HIn.out, by first | rfl | rw [wr2], KNi.out.below HB5.out⟩, ?_⟩
     first | exact HMS.out | (rw [wr2]; exact HMS.out)
    ·go_simp
     obtain ⟨hbk, hhbk⟩ : ∃ x, x = wr.heap.size := ⟨_, rfl⟩
     generalize hW : (wr.alloc (.cells #[.string ⟨#[]⟩, .int .i64 0, .int .i64 0, .string ⟨#[]⟩, .int .i64 0, .slice none 0 0, .slice none 0 0, .slice none 0 0] 55)).drew = w4
     have hb : Below wr.heap.size wr w4 := by rw [← hW]; exact (((Below.refl wr.heap.size wr).alloc (Nat.le_refl _) _).drew)
     have rs : w4.heap[hbk]? = some (.cells #[.string ⟨#[]⟩, .int .i64 0, .int .i64 0, .string ⟨#[]⟩, .int .i64 0, .slice none 0 0, .slice none 0 0, .slice none 0 0] 55 (0, 0)) := by rw [← hW, hhbk]; exact heap_alloc_new wr _
     have hge : wr.heap.size ≤ hbk := by rw [hhbk]; exact Nat.le_refl _
     have HB4 := Hd hb
     have HX4 := Hd rs
     have HGE := Hd hge
     rw [← hhbk]
     clear hW hb rs hge hhbk
     refine hK.out _ _ (HSX.out _ HB4.out) (fun hHeld => ?_)
     clear hK Kx
     try simp only [Act.put, pz1, pz2, pz3]
     refine wpAnyH_ready (rs := [11]) (by kernel_rfl) (by simp) ?_
     refine AllReadyH.cons (sd (some 185) rfl) (fun Kx hK => ?_) AllReadyH.nil
     go_simp
     refine (fieldof_any (HRTi.out.later HB4.out) nm).mono ?_
     rintro e w3 h
     unfold FindPost at h
     rw [show (Ty.mk 14 s2 n2 ps2 fs2 vs2).fs = fs2 from rfl, HFD.out] at h
     obtain ⟨rfl, hb⟩ := h
     have HB3 := Hd (HB4.out.trans (hb.mono HB4.out.size))
     have HX8 := Hd (box_up hb (Array.getElem?_eq_some_iff.1 HX4.out).1 HX4.out)
     clear hb
     go_wp2_with fail
     refine hK.out _ _ (HSX.out _ HB3.out) (fun hHeld => ?_)
     clear hK Kx
     try simp only [Act.put, pz1, pz2, pz3]
     refine Plan.start [12, 13, 14] ?_
     iterate 3 (refine Plan.tk (so rfl) hHeld ?_; try simp only [Act.put, pz1, pz2, pz3])
     refine Plan.done ?_
     refine wpAnyH_ready (rs := [16]) (by kernel_rfl) (by simp) ?_
     refine AllReadyH.cons (sd none rfl) (fun Kx hK => ?_) AllReadyH.nil
     go_simp
     have qq0 := Ch HX8.out 0
     have zz0 := Lib.frozen_of_heap HX8.out 0
     have qq1 := Ch HX8.out 1
     have zz1 := Lib.frozen_of_heap HX8.out 1
     have qq2 := Ch HX8.out 2
     have zz2 := Lib.frozen_of_heap HX8.out 2
     have qq3 := Ch HX8.out 3
     have zz3 := Lib.frozen_of_heap HX8.out 3
     have qq4 := Ch HX8.out 4
     have zz4 := Lib.frozen_of_heap HX8.out 4
     have qq5 := Ch HX8.out 5
     have zz5 := Lib.frozen_of_heap HX8.out 5
     have qq6 := Ch HX8.out 6
     have zz6 := Lib.frozen_of_heap HX8.out 6
     have qq7 := Ch HX8.out 7
     have zz7 := Lib.frozen_of_heap HX8.out 7
     simp only [List.getElem?_toArray, List.getElem?_cons_zero, List.getElem?_cons_succ] at qq0 qq1 qq2 qq3 qq4 qq5 qq6 qq7
     go_simp
     clear qq0 zz0 qq1 zz1 qq2 zz2 qq3 zz3 qq4 zz4 qq5 zz5 qq6 zz6 qq7 zz7
     have hb := set_eight_below HB3.out HGE.out (.string ⟨#[]⟩) (.int .i64 0) (.int .i64 0) (.string ⟨#[]⟩) (.int .i64 0) (.slice none 0 0) (.slice none 0 0) (.slice none 0 0)
     generalize hW : (((((((w3.setCell ⟨hbk, 0, none⟩ (.string ⟨#[]⟩)).setCell ⟨hbk, 1, none⟩ (.int .i64 0)).setCell ⟨hbk, 2, none⟩ (.int .i64 0)).setCell ⟨hbk, 3, none⟩ (.string ⟨#[]⟩)).setCell ⟨hbk, 4, none⟩ (.int .i64 0)).setCell ⟨hbk, 5, none⟩ (.slice none 0 0)).setCell ⟨hbk, 6, none⟩ (.slice none 0 0)).setCell ⟨hbk, 7, none⟩ (.slice none 0 0) = w5 at hb
     have HB5 := Hd hb
     clear hW hb
     refine hK.out _ _ (HSX.out _ HB5.out) (fun hHeld => ?_)
     clear hK Kx
     try simp only [Act.put, pz1, pz2, pz3]
     refine Plan.start [17] ?_
     refine Plan.tk (so rfl) hHeld ?_
     try simp only [Act.put, pz1, pz2, pz3]
     refine Plan.done ?_
     refine wpAnyH_done (by kernel_rfl) ?_ _
     clear hHeld
     go_wp2_with fail
     refine ⟨⟨i + 1, HIn.out, by first | rfl | rw [wr2], KNi.out.below HB5.out⟩, ?_⟩
     first | exact HMS.out | (rw [wr2]; exact HMS.out)
   | some gf =>
    obtain ⟨nmg, fl, k7, s7, n7, ps7, fs7, vs7⟩ := gf
    have HFD := Hd hfd
    have KCi := Hd (kci _ hfd)
    have HGF1 := Hd (HGF.out _ (List.mem_of_find?_eq_some hfd)).1
    have HGF2 := Hd (HGF.out _ (List.mem_of_find?_eq_some hfd)).2
    clear kni kci hfd HGF
    go_upto_region 22 with fail
    refine wp_region_held_drew (S := (fun w' => (w'.cell? ⟨b', o', none⟩ = some (.int .i64 14) ∧ w'.cell? ⟨b', o' + 4, none⟩ = some (.slice (some ⟨fb, fo, none⟩) fs.length d) ∧ w'.cell? ⟨fb, fo + i * 8, none⟩ = some (.string nm)) ∧ (w'.cell? ⟨b, o, none⟩ = some (.int .i64 14) ∧ w'.cell? ⟨b, o + 1, none⟩ = some (.string s2) ∧ w'.cell? ⟨b, o + 2, none⟩ = some (.int .i64 n2) ∧ w'.cell? ⟨b, o + 3, none⟩ = some (.slice A2 ps2.length c2) ∧ w'.cell? ⟨b, o + 4, none⟩ = some (.slice B2 fs2.length d2) ∧ w'.cell? ⟨b, o + 5, none⟩ = some (.slice C2 vs2.length e2)))) (by kernel_rfl) (HSX.out _ HBr.out) (fun hHeld => ?_)
    refine Plan.start [0, 1, 2, 3, 4, 5, 6, 7, 8, 9, 10] ?_
    iterate 11 (refine Plan.tk (so rfl) hHeld ?_; try simp only [Act.put, pz1, pz2, pz3])
    refine Plan.done ?_
    refine wpAnyH_ready (rs := [11, 15]) (by kernel_rfl) (by simp) ?_
    refine AllReadyH.cons (sd (some 185) rfl) (fun Kx hK => ?_) (AllReadyH.cons (sd (some 11) rfl) (fun Kx hK => ?_) AllReadyH.nil)
    ·go_simp
     refine (fieldof_any (HRTi.out.later HBr.out) nm).mono ?_
     rintro e w3 h
     unfold FindPost at h
     rw [show (Ty.mk 14 s2 n2 ps2 fs2 vs2).fs = fs2 from rfl, HFD.out] at h
     obtain ⟨⟨ds, rfl, hrd⟩, hb⟩ := h
     obtain ⟨A7, c7, B7, d7, C7, e7, rfl, -⟩ := hrd.inv
     simp only [cells6T] at hrd ⊢
     have HB3 := Hd (HBr.out.trans (hb.mono HBr.out.size))
     have HRD := Hd (hrd.later hb)
     clear hrd hb
     go_wp2_with fail
     refine hK.out _ _ (HSX.out _ HB3.out) (fun hHeld => ?_)
     clear hK Kx
     try simp only [Act.put, pz1, pz2, pz3]
     refine Plan.start [12, 13, 14] ?_
     iterate 3 (refine Plan.tk (so rfl) hHeld ?_; try simp only [Act.put, pz1, pz2, pz3])
     refine Plan.done ?_
     refine wpAnyH_ready (rs := [15]) (by kernel_rfl) (by simp) ?_
     refine AllReadyH.cons (sd (some 11) rfl) (fun Kx hK => ?_) AllReadyH.nil
     go_simp
     obtain ⟨hbk, hhbk⟩ : ∃ x, x = w3.heap.size := ⟨_, rfl⟩
     generalize hW : w3.alloc (.cells #[.string ⟨#[]⟩, .int .i64 0, .int .i64 0, .string ⟨#[]⟩, .int .i64 0, .slice none 0 0, .slice none 0 0, .slice none 0 0] 55) = w4
     have hb : Below wr.heap.size wr w4 := by rw [← hW]; exact (HB3.out.alloc HB3.out.size _)
     have rs : w4.heap[hbk]? = some (.cells #[.string ⟨#[]⟩, .int .i64 0, .int .i64 0, .string ⟨#[]⟩, .int .i64 0, .slice none 0 0, .slice none 0 0, .slice none 0 0] 55 (0, 0)) := by rw [← hW, hhbk]; exact heap_alloc_new w3 _
     have hge : wr.heap.size ≤ hbk := by rw [hhbk]; exact HB3.out.size
     have HB4 := Hd hb
     have HX4 := Hd rs
     have HGE := Hd hge
     rw [← hhbk]
     have HRD4 := Hd (HRD.out.later (by rw [← hW]; exact (Below.refl _ _).alloc (Nat.le_refl _) _ : Below w3.heap.size w3 w4))
     clear hW hb rs hge hhbk
     refine hK.out _ _ (HSX.out _ HB4.out) (fun hHeld => ?_)
     clear hK Kx
     try simp only [Act.put, pz1, pz2, pz3]
     refine wpAnyH_ready (rs := [16]) (by kernel_rfl) (by simp) ?_
     refine AllReadyH.cons (sd none rfl) (fun Kx hK => ?_) AllReadyH.nil
     go_simp
     have qq0 := Ch HX4.out 0
     have zz0 := Lib.frozen_of_heap HX4.out 0
     have qq1 := Ch HX4.out 1
     have zz1 := Lib.frozen_of_heap HX4.out 1
     have qq2 := Ch HX4.out 2
     have zz2 := Lib.frozen_of_heap HX4.out 2
     have qq3 := Ch HX4.out 3
     have zz3 := Lib.frozen_of_heap HX4.out 3
     have qq4 := Ch HX4.out 4
     have zz4 := Lib.frozen_of_heap HX4.out 4
     have qq5 := Ch HX4.out 5
     have zz5 := Lib.frozen_of_heap HX4.out 5
     have qq6 := Ch HX4.out 6
     have zz6 := Lib.frozen_of_heap HX4.out 6
     have qq7 := Ch HX4.out 7
     have zz7 := Lib.frozen_of_heap HX4.out 7
     simp only [List.getElem?_toArray, List.getElem?_cons_zero, List.getElem?_cons_succ] at qq0 qq1 qq2 qq3 qq4 qq5 qq6 qq7
     go_simp
     clear qq0 zz0 qq1 zz1 qq2 zz2 qq3 zz3 qq4 zz4 qq5 zz5 qq6 zz6 qq7 zz7
     have hb := set_eight_below HB4.out HGE.out (.string nmg) (.int .i64 fl) (.int .i64 k7) (.string s7) (.int .i64 n7) (.slice A7 ps7.length c7) (.slice B7 fs7.length d7) (.slice C7 vs7.length e7)
     have rs := eight_set HX4.out (.string nmg) (.int .i64 fl) (.int .i64 k7) (.string s7) (.int .i64 n7) (.slice A7 ps7.length c7) (.slice B7 fs7.length d7) (.slice C7 vs7.length e7)
     have hr5 : RepT (fun x => (x < w.heap.size ∧ ¬ rowB m F x)) ((((((((w4.setCell ⟨hbk, 0, none⟩ (.string nmg)).setCell ⟨hbk, 1, none⟩ (.int .i64 fl)).setCell ⟨hbk, 2, none⟩ (.int .i64 k7)).setCell ⟨hbk, 3, none⟩ (.string s7)).setCell ⟨hbk, 4, none⟩ (.int .i64 n7)).setCell ⟨hbk, 5, none⟩ (.slice A7 ps7.length c7)).setCell ⟨hbk, 6, none⟩ (.slice B7 fs7.length d7)).setCell ⟨hbk, 7, none⟩ (.slice C7 vs7.length e7)) (.mk k7 s7 n7 ps7 fs7 vs7) [.int .i64 k7, .string s7, .int .i64 n7, .slice A7 ps7.length c7, .slice B7 fs7.length d7, .slice C7 vs7.length e7] := RepT.keep (fun x hx => HKT.out x hx) (fun x _ _ hx hc => (World.cell?_of_block (by rw [Below.heap_setCell, Below.heap_setCell, Below.heap_setCell, Below.heap_setCell, Below.heap_setCell, Below.heap_setCell, Below.heap_setCell, Below.heap_setCell]; all_goals (have h1 := (HKT.out x hx).1; have h2 := HGE.out; have h3 := HWR.out; show x ≠ hbk; omega))).trans hc) _ _ HRD4.out
     generalize hW : (((((((w4.setCell ⟨hbk, 0, none⟩ (.string nmg)).setCell ⟨hbk, 1, none⟩ (.int .i64 fl)).setCell ⟨hbk, 2, none⟩ (.int .i64 k7)).setCell ⟨hbk, 3, none⟩ (.string s7)).setCell ⟨hbk, 4, none⟩ (.int .i64 n7)).setCell ⟨hbk, 5, none⟩ (.slice A7 ps7.length c7)).setCell ⟨hbk, 6, none⟩ (.slice B7 fs7.length d7)).setCell ⟨hbk, 7, none⟩ (.slice C7 vs7.length e7) = w5 at hb rs hr5
     have HB5 := Hd hb
     have HX5 := Hd rs
     have HR5 := Hd hr5
     clear hW hb rs hr5
     refine hK.out _ _ (HSX.out _ HB5.out) (fun hHeld => ?_)
     clear hK Kx
     try simp only [Act.put, pz1, pz2, pz3]
     refine Plan.start [17] ?_
     refine Plan.tk (so rfl) hHeld ?_
     try simp only [Act.put, pz1, pz2, pz3]
     refine Plan.done ?_
     refine wpAnyH_done (by kernel_rfl) ?_ _
     clear hHeld
     obtain ⟨q0, q1, q2, q3, q4, q5, q6, q7⟩ : w5.cell? ⟨hbk, 0, none⟩ = some (.string nmg) ∧ w5.cell? ⟨hbk, 1, none⟩ = some (.int .i64 fl) ∧ w5.cell? ⟨hbk, 2, none⟩ = some (.int .i64 k7) ∧ w5.cell? ⟨hbk, 3, none⟩ = some (.string s7) ∧ w5.cell? ⟨hbk, 4, none⟩ = some (.int .i64 n7) ∧ w5.cell? ⟨hbk, 5, none⟩ = some (.slice A7 ps7.length c7) ∧ w5.cell? ⟨hbk, 6, none⟩ = some (.slice B7 fs7.length d7) ∧ w5.cell? ⟨hbk, 7, none⟩ = some (.slice C7 vs7.length e7) := ⟨Ch HX5.out 0, Ch HX5.out 1, Ch HX5.out 2, Ch HX5.out 3, Ch HX5.out 4, Ch HX5.out 5, Ch HX5.out 6, Ch HX5.out 7⟩
     have KH := Hd (held_any union_p HR5.out (fun x hx => Nat.lt_of_lt_of_le hx.1 (Nat.le_trans HWR.out HB5.out.size)) (by have h1 : (0:Int) ≤ fl := HGF1.out.1; have h2 : fl ≤ 3 := HGF1.out.2; omega) HGF2.out (nm := nmg) (fl := fl))
     go_upto_region 24 with fail
     (try clear hHeld)
     go_wp2_with fail
     clear q0 q1 q2 q3 q4 q5 q6 q7
     refine KH.out.mono ?_
     rintro e w6 ⟨rs, rfl, hr6, hb6⟩
     generalize heldT (nmg, fl, .mk k7 s7 n7 ps7 fs7 vs7) = ht at hr6 KCi
     obtain ⟨k8, s8, n8, ps8, fs8, vs8⟩ := ht
     obtain ⟨A8, c8, B8, d8, C8, e8, rfl, -⟩ := hr6.inv
     simp only [cells6T] at hr6 ⊢
     have HB6 := Hd (HB5.out.trans (hb6.mono HB5.out.size))
     have hr6b := hr6.both
     obtain ⟨w7, hw7⟩ : ∃ x, x = w6.alloc (.cells #[.int .i64 k8, .string s8, .int .i64 n8, .slice A8 ps8.length c8, .slice B8 fs8.length d8, .slice C8 vs8.length e8] 26) := ⟨_, rfl⟩
     have hb7 : Below w6.heap.size w6 w7 := by rw [hw7]; exact (Below.refl _ _).alloc (Nat.le_refl _) _
     have hg7 : w6.heap.size < w7.heap.size := by rw [hw7]; simp
     have hat7 : AtT (fun b => ((b < w.heap.size ∧ ¬ rowB m F b) ∨ w5.heap.size ≤ b) ∧ b < w6.heap.size) w7 (.mk k8 s8 n8 ps8 fs8 vs8) w6.heap.size 0 := by rw [hw7]; exact AtT.box 26 hr6b
     have HB7 := Hd (HB6.out.trans (hb7.mono HB6.out.size))
     have HW7 := Hd hw7
     have KK := Hd (KCi.out w7 w6.heap.size HB7.out HB6.out.size hg7 (hat7.keep (fun x hx => ⟨hx.1.elim .inl fun h => .inr (Nat.le_trans HB5.out.size h), Nat.lt_of_lt_of_le hx.2 hb7.size⟩) (fun _ _ _ _ h => h) (fun _ _ h => h)))
     clear hr6 hb6 hr6b hw7 hb7 hg7 hat7 KCi KH
     go_upto_region 25 with fail
     rw [← HW7.out]
     clear HW7
     obtain ⟨⟨z0, z4, zn⟩, v0, v1, v2, v3, v4, v5⟩ := HSX.out _ HB7.out
     go_wp2_with fail
     clear z0 z4 zn v0 v1 v2 v3 v4 v5
     refine KK.out.mono ?_
     rintro e w9 ⟨rfl, hm⟩
     have HM := Hd hm
     clear hm
     go_wp2_with fail
     refine ⟨⟨i + 1, HIn.out, by first | rfl | rw [wr2], HM.out⟩, ?_⟩
     first | exact HMS.out | (rw [wr2]; exact HMS.out)
    ·go_simp
     obtain ⟨hbk, hhbk⟩ : ∃ x, x = wr.heap.size := ⟨_, rfl⟩
     generalize hW : (wr.alloc (.cells #[.string ⟨#[]⟩, .int .i64 0, .int .i64 0, .string ⟨#[]⟩, .int .i64 0, .slice none 0 0, .slice none 0 0, .slice none 0 0] 55)).drew = w4
     have hb : Below wr.heap.size wr w4 := by rw [← hW]; exact (((Below.refl wr.heap.size wr).alloc (Nat.le_refl _) _).drew)
     have rs : w4.heap[hbk]? = some (.cells #[.string ⟨#[]⟩, .int .i64 0, .int .i64 0, .string ⟨#[]⟩, .int .i64 0, .slice none 0 0, .slice none 0 0, .slice none 0 0] 55 (0, 0)) := by rw [← hW, hhbk]; exact heap_alloc_new wr _
     have hge : wr.heap.size ≤ hbk := by rw [hhbk]; exact Nat.le_refl _
     have HB4 := Hd hb
     have HX4 := Hd rs
     have HGE := Hd hge
     rw [← hhbk]
     clear hW hb rs hge hhbk
     refine hK.out _ _ (HSX.out _ HB4.out) (fun hHeld => ?_)
     clear hK Kx
     try simp only [Act.put, pz1, pz2, pz3]
     refine wpAnyH_ready (rs := [11]) (by kernel_rfl) (by simp) ?_
     refine AllReadyH.cons (sd (some 185) rfl) (fun Kx hK => ?_) AllReadyH.nil
     go_simp
     refine (fieldof_any (HRTi.out.later HB4.out) nm).mono ?_
     rintro e w3 h
     unfold FindPost at h
     rw [show (Ty.mk 14 s2 n2 ps2 fs2 vs2).fs = fs2 from rfl, HFD.out] at h
     obtain ⟨⟨ds, rfl, hrd⟩, hb⟩ := h
     obtain ⟨A7, c7, B7, d7, C7, e7, rfl, -⟩ := hrd.inv
     simp only [cells6T] at hrd ⊢
     have HB3 := Hd (HB4.out.trans (hb.mono HB4.out.size))
     have HRD := Hd (hrd.later hb)
     have HX8 := Hd (box_up hb (Array.getElem?_eq_some_iff.1 HX4.out).1 HX4.out)
     clear hrd hb
     go_wp2_with fail
     refine hK.out _ _ (HSX.out _ HB3.out) (fun hHeld => ?_)
     clear hK Kx
     try simp only [Act.put, pz1, pz2, pz3]
     refine Plan.start [12, 13, 14] ?_
     iterate 3 (refine Plan.tk (so rfl) hHeld ?_; try simp only [Act.put, pz1, pz2, pz3])
     refine Plan.done ?_
     refine wpAnyH_ready (rs := [16]) (by kernel_rfl) (by simp) ?_
     refine AllReadyH.cons (sd none rfl) (fun Kx hK => ?_) AllReadyH.nil
     go_simp
     have qq0 := Ch HX8.out 0
     have zz0 := Lib.frozen_of_heap HX8.out 0
     have qq1 := Ch HX8.out 1
     have zz1 := Lib.frozen_of_heap HX8.out 1
     have qq2 := Ch HX8.out 2
     have zz2 := Lib.frozen_of_heap HX8.out 2
     have qq3 := Ch HX8.out 3
     have zz3 := Lib.frozen_of_heap HX8.out 3
     have qq4 := Ch HX8.out 4
     have zz4 := Lib.frozen_of_heap HX8.out 4
     have qq5 := Ch HX8.out 5
     have zz5 := Lib.frozen_of_heap HX8.out 5
     have qq6 := Ch HX8.out 6
     have zz6 := Lib.frozen_of_heap HX8.out 6
     have qq7 := Ch HX8.out 7
     have zz7 := Lib.frozen_of_heap HX8.out 7
     simp only [List.getElem?_toArray, List.getElem?_cons_zero, List.getElem?_cons_succ] at qq0 qq1 qq2 qq3 qq4 qq5 qq6 qq7
     go_simp
     clear qq0 zz0 qq1 zz1 qq2 zz2 qq3 zz3 qq4 zz4 qq5 zz5 qq6 zz6 qq7 zz7
     have hb := set_eight_below HB3.out HGE.out (.string nmg) (.int .i64 fl) (.int .i64 k7) (.string s7) (.int .i64 n7) (.slice A7 ps7.length c7) (.slice B7 fs7.length d7) (.slice C7 vs7.length e7)
     have rs := eight_set HX8.out (.string nmg) (.int .i64 fl) (.int .i64 k7) (.string s7) (.int .i64 n7) (.slice A7 ps7.length c7) (.slice B7 fs7.length d7) (.slice C7 vs7.length e7)
     have hr5 : RepT (fun x => (x < w.heap.size ∧ ¬ rowB m F x)) ((((((((w3.setCell ⟨hbk, 0, none⟩ (.string nmg)).setCell ⟨hbk, 1, none⟩ (.int .i64 fl)).setCell ⟨hbk, 2, none⟩ (.int .i64 k7)).setCell ⟨hbk, 3, none⟩ (.string s7)).setCell ⟨hbk, 4, none⟩ (.int .i64 n7)).setCell ⟨hbk, 5, none⟩ (.slice A7 ps7.length c7)).setCell ⟨hbk, 6, none⟩ (.slice B7 fs7.length d7)).setCell ⟨hbk, 7, none⟩ (.slice C7 vs7.length e7)) (.mk k7 s7 n7 ps7 fs7 vs7) [.int .i64 k7, .string s7, .int .i64 n7, .slice A7 ps7.length c7, .slice B7 fs7.length d7, .slice C7 vs7.length e7] := RepT.keep (fun x hx => HKT.out x hx) (fun x _ _ hx hc => (World.cell?_of_block (by rw [Below.heap_setCell, Below.heap_setCell, Below.heap_setCell, Below.heap_setCell, Below.heap_setCell, Below.heap_setCell, Below.heap_setCell, Below.heap_setCell]; all_goals (have h1 := (HKT.out x hx).1; have h2 := HGE.out; have h3 := HWR.out; show x ≠ hbk; omega))).trans hc) _ _ HRD.out
     generalize hW : (((((((w3.setCell ⟨hbk, 0, none⟩ (.string nmg)).setCell ⟨hbk, 1, none⟩ (.int .i64 fl)).setCell ⟨hbk, 2, none⟩ (.int .i64 k7)).setCell ⟨hbk, 3, none⟩ (.string s7)).setCell ⟨hbk, 4, none⟩ (.int .i64 n7)).setCell ⟨hbk, 5, none⟩ (.slice A7 ps7.length c7)).setCell ⟨hbk, 6, none⟩ (.slice B7 fs7.length d7)).setCell ⟨hbk, 7, none⟩ (.slice C7 vs7.length e7) = w5 at hb rs hr5
     have HB5 := Hd hb
     have HX5 := Hd rs
     have HR5 := Hd hr5
     clear hW hb rs hr5
     refine hK.out _ _ (HSX.out _ HB5.out) (fun hHeld => ?_)
     clear hK Kx
     try simp only [Act.put, pz1, pz2, pz3]
     refine Plan.start [17] ?_
     refine Plan.tk (so rfl) hHeld ?_
     try simp only [Act.put, pz1, pz2, pz3]
     refine Plan.done ?_
     refine wpAnyH_done (by kernel_rfl) ?_ _
     clear hHeld
     obtain ⟨q0, q1, q2, q3, q4, q5, q6, q7⟩ : w5.cell? ⟨hbk, 0, none⟩ = some (.string nmg) ∧ w5.cell? ⟨hbk, 1, none⟩ = some (.int .i64 fl) ∧ w5.cell? ⟨hbk, 2, none⟩ = some (.int .i64 k7) ∧ w5.cell? ⟨hbk, 3, none⟩ = some (.string s7) ∧ w5.cell? ⟨hbk, 4, none⟩ = some (.int .i64 n7) ∧ w5.cell? ⟨hbk, 5, none⟩ = some (.slice A7 ps7.length c7) ∧ w5.cell? ⟨hbk, 6, none⟩ = some (.slice B7 fs7.length d7) ∧ w5.cell? ⟨hbk, 7, none⟩ = some (.slice C7 vs7.length e7) := ⟨Ch HX5.out 0, Ch HX5.out 1, Ch HX5.out 2, Ch HX5.out 3, Ch HX5.out 4, Ch HX5.out 5, Ch HX5.out 6, Ch HX5.out 7⟩
     have KH := Hd (held_any union_p HR5.out (fun x hx => Nat.lt_of_lt_of_le hx.1 (Nat.le_trans HWR.out HB5.out.size)) (by have h1 : (0:Int) ≤ fl := HGF1.out.1; have h2 : fl ≤ 3 := HGF1.out.2; omega) HGF2.out (nm := nmg) (fl := fl))
     go_upto_region 24 with fail
     (try clear hHeld)
     go_wp2_with fail
     clear q0 q1 q2 q3 q4 q5 q6 q7
     refine KH.out.mono ?_
     rintro e w6 ⟨rs, rfl, hr6, hb6⟩
     generalize heldT (nmg, fl, .mk k7 s7 n7 ps7 fs7 vs7) = ht at hr6 KCi
     obtain ⟨k8, s8, n8, ps8, fs8, vs8⟩ := ht
     obtain ⟨A8, c8, B8, d8, C8, e8, rfl, -⟩ := hr6.inv
     simp only [cells6T] at hr6 ⊢
     have HB6 := Hd (HB5.out.trans (hb6.mono HB5.out.size))
     have hr6b := hr6.both
     obtain ⟨w7, hw7⟩ : ∃ x, x = w6.alloc (.cells #[.int .i64 k8, .string s8, .int .i64 n8, .slice A8 ps8.length c8, .slice B8 fs8.length d8, .slice C8 vs8.length e8] 26) := ⟨_, rfl⟩
     have hb7 : Below w6.heap.size w6 w7 := by rw [hw7]; exact (Below.refl _ _).alloc (Nat.le_refl _) _
     have hg7 : w6.heap.size < w7.heap.size := by rw [hw7]; simp
     have hat7 : AtT (fun b => ((b < w.heap.size ∧ ¬ rowB m F b) ∨ w5.heap.size ≤ b) ∧ b < w6.heap.size) w7 (.mk k8 s8 n8 ps8 fs8 vs8) w6.heap.size 0 := by rw [hw7]; exact AtT.box 26 hr6b
     have HB7 := Hd (HB6.out.trans (hb7.mono HB6.out.size))
     have HW7 := Hd hw7
     have KK := Hd (KCi.out w7 w6.heap.size HB7.out HB6.out.size hg7 (hat7.keep (fun x hx => ⟨hx.1.elim .inl fun h => .inr (Nat.le_trans HB5.out.size h), Nat.lt_of_lt_of_le hx.2 hb7.size⟩) (fun _ _ _ _ h => h) (fun _ _ h => h)))
     clear hr6 hb6 hr6b hw7 hb7 hg7 hat7 KCi KH
     go_upto_region 25 with fail
     rw [← HW7.out]
     clear HW7
     obtain ⟨⟨z0, z4, zn⟩, v0, v1, v2, v3, v4, v5⟩ := HSX.out _ HB7.out
     go_wp2_with fail
     clear z0 z4 zn v0 v1 v2 v3 v4 v5
     refine KK.out.mono ?_
     rintro e w9 ⟨rfl, hm⟩
     have HM := Hd hm
     clear hm
     go_wp2_with fail
     refine ⟨⟨i + 1, HIn.out, by first | rfl | rw [wr2], HM.out⟩, ?_⟩
     first | exact HMS.out | (rw [wr2]; exact HMS.out)
  ·have t1 : decide ((i : Int) < (fs.length : Int)) = false := by simp; omega
   have HMf : Hid (HoldMid w0 w m F (G ++ gz.flatten) wr) := Hd (by rw [List.take_of_length_le (by have := HGZ.out; omega)] at hm; exact hm)
   clear hm hi
   go_wp2_with fail
   exact bodyPost_end (v := .tuple #[]) (by simp [results, Tryz.results43, go_sem]) rfl ⟨rfl, HMf.out⟩
end Go.Proofs.YtjbccjmpebgdjaaGreatDoor
