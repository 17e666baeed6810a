import Derived.Test.YtjbccjmpebgdjaaGreatDoorMg38
namespace Go.Proofs.YtjbccjmpebgdjaaGreatDoor
open Go.RowKit
set_option maxRecDepth 100000
set_option maxHeartbeats 64000000
theorem uniL_ref {K : Nat → Prop} {w : World} {l : List Ty} {A : Option Addr} {c : Nat} (hL : ListT K w l A c) (hlo : ∀ b, K b → b < w.heap.size) (hall : l.all formT = true) (hc : cntL l ≤ 2000000) :
  Calls Tryz.prog 31 #[.slice A l.length c] w (FdT K w (unionT l)) := by
 have hfl := flatU_cnt l
 refine (union_ref hL hlo (fun x hx => by have h1 := names_cnt x; have h2 := hfl.2 x hx; omega) (by have := hfl.1; omega)).mono ?_
 rintro e w' ⟨rs, rfl, hr, hb⟩
 rw [unionR (plain_form hall)] at hr
 exact ⟨rs, rfl, hr, hb⟩
theorem all_form {t : Ty} (h : formT t = true) : t.ps.all formT = true := by
 rw [List.all_eq_true]
 exact form_ps h
theorem Off.more {v : Value} {w w1 w2 : World} {K : Nat → Prop} (h : Off v w K) (hs : w.heap.size ≤ w1.heap.size) (hs2 : w1.heap.size ≤ w2.heap.size) (hv : ∀ b, v.ownBlock = some b → b < w.heap.size) : Off v w2 (fun b => (K b ∨ w1.heap.size ≤ b) ∧ b < w2.heap.size) := fun b hb => by
 refine ⟨hb.2, ?_⟩
 rcases hb.1 with h1 | h1
 ·exact (h b h1).2
 ·intro e; have := hv b e; omega
theorem ag_infer (s2 : ByteArray) (n2 : Int) (ps2 : List Ty) (fs2 : FsT) (vs2 : VsT) (t : Ty) : AgP (.mk 22 s2 n2 ps2 fs2 vs2) t := by
 obtain ⟨k, s, n, ps, fs, vs⟩ := t
 refine ag_pre k s n ps fs vs 22 s2 n2 ps2 fs2 vs2 fun K K' B0 w v G A c B d C e A2 c2 B2 d2 C2 e2 w1 h => ?_
 obtain ⟨hr, hp, hkT, hkP, hB, hO, hfp, hft, hct, hlen, hLt, hLg, hLp, hLf, hown, hb1, HBX, HO1, HG1, HW1⟩ := h
 have hga : gathT (.mk 22 s2 n2 ps2 fs2 vs2) (.mk k s n ps fs vs) = [(s2, (.mk k s n ps fs vs))] := by rw [gathM, if_pos rfl]
 rw [hga] at hlen ⊢
 have KM := Hd (met_ref s2 hr hkT hB hO (by simpa using hlen))
 clear hga
 clear hr hp hkT hkP hB hO hfp hft hct hlen hLt hLg hLp hLf hb1 hown
 go_enter Tryz.func30, Tryz.ntmps30
 go_upto_region 1 with fail
 rw [← HW1.out]
 obtain ⟨⟨x0, x1, x2, x3, x4, x5⟩, ⟨y0, y1, y2, y3, y4, y5⟩⟩ := HBX.out _ _ (Gro.refl _ _)
 go_wp2_with fail
 refine (KM.out).mono ?_
 rintro e w5 ⟨v5, rfl, hO5, hg5⟩
 have HO5 := Hd hO5
 have HG5 := Hd hg5
 clear hO5 hg5 x0 x1 x2 x3 x4 x5 y0 y1 y2 y3 y4 y5
 go_wp2_with fail
 go_ret
 exact AgPost.from HG1.out ⟨v5, rfl, HO5.out, HG5.out⟩
theorem ag_array (s : ByteArray) (n : Int) (u : Ty) (fs : FsT) (vs : VsT) (s2 : ByteArray) (n2 : Int) (q : Ty) (fs2 : FsT) (vs2 : VsT) (ih : AgP q u) : AgP (.mk 11 s2 n2 [q] fs2 vs2) (.mk 11 s n [u] fs vs) := by
 refine ag_pre 11 s n [u] fs vs 11 s2 n2 [q] fs2 vs2 fun K K' B0 w v G A c B d C e A2 c2 B2 d2 C2 e2 w1 h => ?_
 obtain ⟨hr, hp, hkT, hkP, hB, hO, hfp, hft, hct, hlen, hLt, hLg, hLp, hLf, hown, hb1, HBX, HO1, HG1, HW1⟩ := h
 simp only [List.length_cons, List.length_nil, Nat.zero_add] at hr hp HBX HW1 ⊢
 have hga : gathT (.mk 11 s2 n2 [q] fs2 vs2) (.mk 11 s n [u] fs vs) = gathT q u := by
  rw [gathM, if_neg (by show ¬ ((11 : Int) = 22); decide), if_neg (by show ¬ ((11 : Int) = 15); decide), if_neg (by show ¬ (isComp 11 = false); decide), if_neg (by show ¬ ((11 : Int) = 15); decide), if_neg (by show ¬ ((11 : Int) = 11 ∧ (11 : Int) = 12); decide), if_neg (by show ¬ ((11 : Int) ≠ 11); decide), if_pos (show (11 : Int) = 11 from rfl)]
  rfl
 rw [hga] at hlen ⊢
 have hc1 := cntT_mk 11 s n [u] fs vs
 have hc2 := cntT_mk 11 s2 n2 [q] fs2 vs2
 rw [cntL_cons, cntL_nil] at hc1 hc2
 obtain ⟨tb, tq, hA, hKb, hat⟩ := hLt.at (by simp)
 obtain ⟨pb, po, hA2, hKb2, hat2⟩ := hLp.at (by simp)
 subst hA hA2
 obtain ⟨cs3, hcs3, hr3⟩ := hat 0 (by simp)
 obtain ⟨cs4, hcs4, hr4⟩ := hat2 0 (by simp)
 simp only [Nat.zero_mul, Nat.add_zero, List.getElem_cons_zero] at hcs3 hcs4 hr3 hr4
 have KQ := Hd fun wr v' (hg : Gro v w1 v' wr) (ho : FdR B0 wr v' G) => AgP.go ih hr3 hr4 hkT hkP hB hg ho (form_ps hfp q (by simp [Ty.ps])) (form_ps hft u (by simp [Ty.ps])) (by omega) hlen
 have hkb := (hkT _ hKb).2
 have hkb2 := (hkP _ hKb2).2
 obtain ⟨k3, s3, n3, ps3, fs3, vs3⟩ := u
 obtain ⟨k4, s4, n4, ps4, fs4, vs4⟩ := q
 obtain ⟨A3, c3, B3, d3, C3, e3, rfl, -⟩ := hr3.inv
 obtain ⟨A4, c4, B4, d4, C4, e4, rfl, -⟩ := hr4.inv
 simp only [cells6T] at hcs3 hcs4 KQ
 have HSW : Hid (∀ v' wx, Gro v w1 v' wx → (wx.cell? ⟨w.heap.size, 3, none⟩ = some (.slice (some ⟨tb, tq, none⟩) 1 c) ∧ wx.cell? ⟨w.heap.size + 1, 3, none⟩ = some (.slice (some ⟨pb, po, none⟩) 1 c2)) ∧ (wx.cell? ⟨tb, tq, none⟩ = some (.int .i64 k3) ∧ wx.cell? ⟨tb, tq + 1, none⟩ = some (.string s3) ∧ wx.cell? ⟨tb, tq + 2, none⟩ = some (.int .i64 n3) ∧ wx.cell? ⟨tb, tq + 3, none⟩ = some (.slice A3 ps3.length c3) ∧ wx.cell? ⟨tb, tq + 4, none⟩ = some (.slice B3 fs3.length d3) ∧ wx.cell? ⟨tb, tq + 5, none⟩ = some (.slice C3 vs3.length e3)) ∧ (wx.cell? ⟨pb, po, none⟩ = some (.int .i64 k4) ∧ wx.cell? ⟨pb, po + 1, none⟩ = some (.string s4) ∧ wx.cell? ⟨pb, po + 2, none⟩ = some (.int .i64 n4) ∧ wx.cell? ⟨pb, po + 3, none⟩ = some (.slice A4 ps4.length c4) ∧ wx.cell? ⟨pb, po + 4, none⟩ = some (.slice B4 fs4.length d4) ∧ wx.cell? ⟨pb, po + 5, none⟩ = some (.slice C4 vs4.length e4))) := Hd fun v' wx hg => ⟨⟨(HBX.out _ _ hg).1.2.2.2.1, (HBX.out _ _ hg).2.2.2.2.1⟩, ⟨hg.cell hkb (hcs3 0 _ rfl), hg.cell hkb (hcs3 1 _ rfl), hg.cell hkb (hcs3 2 _ rfl), hg.cell hkb (hcs3 3 _ rfl), hg.cell hkb (hcs3 4 _ rfl), hg.cell hkb (hcs3 5 _ rfl)⟩, hg.cell hkb2 (hcs4 0 _ rfl), hg.cell hkb2 (hcs4 1 _ rfl), hg.cell hkb2 (hcs4 2 _ rfl), hg.cell hkb2 (hcs4 3 _ rfl), hg.cell hkb2 (hcs4 4 _ rfl), hg.cell hkb2 (hcs4 5 _ rfl)⟩
 clear hcs3 hcs4 hr3 hr4 hkb hkb2 hKb hKb2 hat hat2 hc1 hc2 hga ih
 clear hr hp hkT hkP hB hO hfp hft hct hlen hLt hLg hLp hLf hb1 hown
 go_enter Tryz.func30, Tryz.ntmps30
 go_upto_region 1 with fail
 rw [← HW1.out]
 obtain ⟨⟨x0, x1, x2, x3, x4, x5⟩, ⟨y0, y1, y2, y3, y4, y5⟩⟩ := HBX.out _ _ (Gro.refl _ _)
 go_upto_region 4 with fail
 clear x0 x1 x2 x3 x4 x5 y0 y1 y2 y3 y4 y5
 refine wp_region_held_drew (S := (fun w' => (w'.cell? ⟨w.heap.size, 3, none⟩ = some (.slice (some ⟨tb, tq, none⟩) 1 c) ∧ w'.cell? ⟨w.heap.size + 1, 3, none⟩ = some (.slice (some ⟨pb, po, none⟩) 1 c2)) ∧ (w'.cell? ⟨tb, tq, none⟩ = some (.int .i64 k3) ∧ w'.cell? ⟨tb, tq + 1, none⟩ = some (.string s3) ∧ w'.cell? ⟨tb, tq + 2, none⟩ = some (.int .i64 n3) ∧ w'.cell? ⟨tb, tq + 3, none⟩ = some (.slice A3 ps3.length c3) ∧ w'.cell? ⟨tb, tq + 4, none⟩ = some (.slice B3 fs3.length d3) ∧ w'.cell? ⟨tb, tq + 5, none⟩ = some (.slice C3 vs3.length e3)) ∧ (w'.cell? ⟨pb, po, none⟩ = some (.int .i64 k4) ∧ w'.cell? ⟨pb, po + 1, none⟩ = some (.string s4) ∧ w'.cell? ⟨pb, po + 2, none⟩ = some (.int .i64 n4) ∧ w'.cell? ⟨pb, po + 3, none⟩ = some (.slice A4 ps4.length c4) ∧ w'.cell? ⟨pb, po + 4, none⟩ = some (.slice B4 fs4.length d4) ∧ w'.cell? ⟨pb, po + 5, none⟩ = some (.slice C4 vs4.length e4)))) (by kernel_rfl) (HSW.out _ _ (Gro.refl _ _).drew) (fun hHeld => ?_)
 refine Plan.start [0, 1, 2, 3, 4, 5, 6, 7, 8] ?_
 iterate 9 (refine Plan.tk (so rfl) hHeld ?_; try simp only [Act.put, pz1, pz2, pz3])
 refine Plan.done ?_
 refine wpAnyH_ready (rs := [9]) (by kernel_rfl) (by simp) ?_
 refine AllReadyH.cons (sd (some 37) rfl) (fun Kx hK => ?_) AllReadyH.nil
 go_simp
 refine (KQ.out _ _ (Gro.refl _ _).drew HO1.out.drew).mono ?_
 rintro e w5 ⟨v5, rfl, hO5, hg5⟩
 have HO5 := Hd hO5
 have HG5 := Hd hg5
 clear hO5 hg5
 go_wp2_with fail
 refine hK.out _ _ (HSW.out _ _ HG5.out) (fun hHeld => ?_)
 clear hK Kx
 try simp only [Act.put, pz1, pz2, pz3]
 refine Plan.start [10] ?_
 refine Plan.tk (so rfl) hHeld ?_
 try simp only [Act.put, pz1, pz2, pz3]
 refine Plan.done ?_
 refine wpAnyH_done (by kernel_rfl) ?_ _
 clear hHeld
 go_wp2_with fail
 go_ret
 exact AgPost.from HG1.out ⟨v5, rfl, HO5.out, HG5.out⟩
theorem ag_arrtup (s : ByteArray) (n : Int) (ps : List Ty) (fs : FsT) (vs : VsT) (s2 : ByteArray) (n2 : Int) (q : Ty) (fs2 : FsT) (vs2 : VsT) (ih : AgP q (unionT ps)) : AgP (.mk 11 s2 n2 [q] fs2 vs2) (.mk 12 s n ps fs vs) := by
 refine ag_pre 12 s n ps fs vs 11 s2 n2 [q] fs2 vs2 fun K K' B0 w v G A c B d C e A2 c2 B2 d2 C2 e2 w1 h => ?_
 obtain ⟨hr, hp, hkT, hkP, hB, hO, hfp, hft, hct, hlen, hLt, hLg, hLp, hLf, hown, hb1, HBX, HO1, HG1, HW1⟩ := h
 simp only [List.length_cons, List.length_nil, Nat.zero_add] at hr hp HBX HW1 ⊢
 have hga : gathT (.mk 11 s2 n2 [q] fs2 vs2) (.mk 12 s n ps fs vs) = gathT q (unionT ps) := by
  rw [gathM, if_neg (by show ¬ ((11 : Int) = 22); decide), if_neg (by show ¬ ((11 : Int) = 15); decide), if_neg (by show ¬ (isComp 11 = false); decide), if_neg (by show ¬ ((12 : Int) = 15); decide), if_pos (show (11 : Int) = 11 ∧ (12 : Int) = 12 from ⟨rfl, rfl⟩)]
  rfl
 rw [hga] at hlen ⊢
 have hc1 := cntT_mk 12 s n ps fs vs
 have hc2 := cntT_mk 11 s2 n2 [q] fs2 vs2
 rw [cntL_cons, cntL_nil] at hc2
 have hcu := cnt_union ps
 obtain ⟨pb, po, hA2, hKb2, hat2⟩ := hLp.at (by simp)
 subst hA2
 obtain ⟨cs4, hcs4, hr4⟩ := hat2 0 (by simp)
 simp only [Nat.zero_mul, Nat.add_zero, List.getElem_cons_zero] at hcs4 hr4
 have hown1 : ∀ b, v.ownBlock = some b → b < w1.heap.size := fun b e => Nat.lt_of_lt_of_le (hown b e) hb1.size
 have KU := Hd (uniL_ref (hLt.later (Below.refl _ _).drew) (fun b h => (hkT b h).1) (all_form hft) (show cntL ps ≤ _ by omega))
 have KQ0 := Hd fun w4 rs (h4 : RepT (fun b => (K b ∨ w1.heap.size ≤ b) ∧ b < w4.heap.size) w4 (unionT ps) rs) (hb4 : Below w1.heap.size w1 w4) => have hg : Gro v w1 v w4 := Gro.below hb4; (ih _ K' B0 w4 rs cs4 v G h4 (hg.rep hkP hr4) (hkT.more (Nat.le_refl _) hb4.size hown1) (hg.off hkP) (Nat.le_trans hB hb4.size) (hO.later keepFd hb4) (form_ps hfp q (by simp [Ty.ps])) (form_union (form_ps hft)) (by omega) hlen).mono fun _ _ h => AgPost.from hg h
 have hkb2 := (hkP _ hKb2).2
 obtain ⟨k4, s4, n4, ps4, fs4, vs4⟩ := q
 obtain ⟨A4, c4, B4, d4, C4, e4, rfl, -⟩ := hr4.inv
 simp only [cells6T] at hcs4 KQ0
 have HSW : Hid (∀ v' wx, Gro v w1 v' wx → (wx.cell? ⟨w.heap.size, 3, none⟩ = some (.slice A ps.length c) ∧ wx.cell? ⟨w.heap.size + 1, 3, none⟩ = some (.slice (some ⟨pb, po, none⟩) 1 c2)) ∧ (wx.cell? ⟨pb, po, none⟩ = some (.int .i64 k4) ∧ wx.cell? ⟨pb, po + 1, none⟩ = some (.string s4) ∧ wx.cell? ⟨pb, po + 2, none⟩ = some (.int .i64 n4) ∧ wx.cell? ⟨pb, po + 3, none⟩ = some (.slice A4 ps4.length c4) ∧ wx.cell? ⟨pb, po + 4, none⟩ = some (.slice B4 fs4.length d4) ∧ wx.cell? ⟨pb, po + 5, none⟩ = some (.slice C4 vs4.length e4))) := Hd fun v' wx hg => ⟨⟨(HBX.out _ _ hg).1.2.2.2.1, (HBX.out _ _ hg).2.2.2.2.1⟩, hg.cell hkb2 (hcs4 0 _ rfl), hg.cell hkb2 (hcs4 1 _ rfl), hg.cell hkb2 (hcs4 2 _ rfl), hg.cell hkb2 (hcs4 3 _ rfl), hg.cell hkb2 (hcs4 4 _ rfl), hg.cell hkb2 (hcs4 5 _ rfl)⟩
 clear hcs4 hr4 hkb2 hKb2 hat2 hc1 hc2 hcu hga ih hown1
 clear hr hp hkT hkP hB hO hfp hft hct hlen hLt hLg hLp hLf hb1 hown
 go_enter Tryz.func30, Tryz.ntmps30
 go_upto_region 1 with fail
 rw [← HW1.out]
 obtain ⟨⟨x0, x1, x2, x3, x4, x5⟩, ⟨y0, y1, y2, y3, y4, y5⟩⟩ := HBX.out _ _ (Gro.refl _ _)
 go_upto_region 6 with fail
 clear x0 x1 x2 x3 x4 x5 y0 y1 y2 y3 y4 y5
 refine wp_region_held_drew (S := (fun w' => (w'.cell? ⟨w.heap.size, 3, none⟩ = some (.slice A ps.length c) ∧ w'.cell? ⟨w.heap.size + 1, 3, none⟩ = some (.slice (some ⟨pb, po, none⟩) 1 c2)) ∧ (w'.cell? ⟨pb, po, none⟩ = some (.int .i64 k4) ∧ w'.cell? ⟨pb, po + 1, none⟩ = some (.string s4) ∧ w'.cell? ⟨pb, po + 2, none⟩ = some (.int .i64 n4) ∧ w'.cell? ⟨pb, po + 3, none⟩ = some (.slice A4 ps4.length c4) ∧ w'.cell? ⟨pb, po + 4, none⟩ = some (.slice B4 fs4.length d4) ∧ w'.cell? ⟨pb, po + 5, none⟩ = some (.slice C4 vs4.length e4)))) (by kernel_rfl) (HSW.out _ _ (Gro.refl _ _).drew) (fun hHeld => ?_)
 refine Plan.start [0, 1, 3, 4, 5, 6, 7] ?_
 iterate 7 (refine Plan.tk (so rfl) hHeld ?_; try simp only [Act.put, pz1, pz2, pz3])
 refine Plan.done ?_
 refine wpAnyH_ready (rs := [2]) (by kernel_rfl) (by simp) ?_
 refine AllReadyH.cons (sd (some 49) rfl) (fun Kx hK => ?_) AllReadyH.nil
 go_simp
 refine KU.out.mono ?_
 rintro e w4 ⟨rs, rfl, hr4, hb⟩
 have HB4 : Hid (Below w1.heap.size w1 w4) := Hd ((Below.refl _ _).drew.trans hb)
 have HG4 : Hid (Gro v w1 v w4) := Hd (Gro.below HB4.out)
 have KQ := Hd (KQ0.out w4 rs (hr4.both) HB4.out)
 generalize hu : unionT ps = u at hr4 KQ
 have HUE := Hd hu
 obtain ⟨k3, s3, n3, ps3, fs3, vs3⟩ := u
 obtain ⟨A3, c3, B3, d3, C3, e3, rfl, -⟩ := hr4.inv
 simp only [cells6T] at KQ ⊢
 clear KU hr4 hb hu
 go_wp2_with fail
 refine hK.out _ _ (HSW.out _ _ HG4.out) (fun hHeld => ?_)
 clear hK Kx
 try simp only [Act.put, pz1, pz2, pz3]
 refine wpAnyH_ready (rs := [8]) (by kernel_rfl) (by simp) ?_
 refine AllReadyH.cons (sd (some 55) rfl) (fun Kx hK => ?_) AllReadyH.nil
 go_simp
 refine (KQ.out).mono ?_
 rintro e w5 ⟨v5, rfl, hO5, hg5⟩
 have HO5 := Hd hO5
 have HG5 := Hd hg5
 clear hO5 hg5
 go_wp2_with fail
 refine hK.out _ _ (HSW.out _ _ HG5.out) (fun hHeld => ?_)
 clear hK Kx
 try simp only [Act.put, pz1, pz2, pz3]
 refine Plan.start [9] ?_
 refine Plan.tk (so rfl) hHeld ?_
 try simp only [Act.put, pz1, pz2, pz3]
 refine Plan.done ?_
 refine wpAnyH_done (by kernel_rfl) ?_ _
 clear hHeld
 go_wp2_with fail
 go_ret
 exact AgPost.from HG1.out ⟨v5, rfl, by rw [HUE.out]; exact HO5.out, HG5.out⟩
theorem ag_tuple (s : ByteArray) (n : Int) (ps : List Ty) (fs : FsT) (vs : VsT) (s2 : ByteArray) (n2 : Int) (ps2 : List Ty) (fs2 : FsT) (vs2 : VsT) (hln : ps.length = ps2.length) (ih : ∀ q ∈ ps2, ∀ u ∈ ps, AgP q u) : AgP (.mk 12 s2 n2 ps2 fs2 vs2) (.mk 12 s n ps fs vs) := by
 refine ag_pre 12 s n ps fs vs 12 s2 n2 ps2 fs2 vs2 fun K K' B0 w v G A c B d C e A2 c2 B2 d2 C2 e2 w1 h => ?_
 obtain ⟨hr, hp, hkT, hkP, hB, hO, hfp, hft, hct, hlen, hLt, hLg, hLp, hLf, hown, hb1, HBX, HO1, HG1, HW1⟩ := h
 have hga : gathT (.mk 12 s2 n2 ps2 fs2 vs2) (.mk 12 s n ps fs vs) = (List.zipWith gathT ps2 ps).flatten := by
  rw [gathM, if_neg (by show ¬ ((12 : Int) = 22); decide), if_neg (by show ¬ ((12 : Int) = 15); decide), if_neg (by show ¬ (isComp 12 = false); decide), if_neg (by show ¬ ((12 : Int) = 15); decide), if_neg (by show ¬ ((12 : Int) = 11 ∧ (12 : Int) = 12); decide), if_neg (by show ¬ ((12 : Int) ≠ 12); decide), if_neg (by show ¬ ((12 : Int) = 11); decide), if_pos (show (12 : Int) = 12 ∨ ((12 : Int) = 17 ∧ s2 = s) from .inl rfl), if_pos hln]
 rw [hga] at hlen ⊢
 have hc1 := cntT_mk 12 s n ps fs vs
 have hc2 := cntT_mk 12 s2 n2 ps2 fs2 vs2
 have KQ := Hd (rparts hLt hLp hkT hkP hB hO ih (form_ps hfp) (form_ps hft) (by omega) hlen)
 have e1 : (((ps.length : Nat) : Int) == ((ps2.length : Nat) : Int)) = true := by rw [hln]; exact beq_self_eq_true _
 have e2 : decide (((ps.length : Nat) : Int) = ((ps2.length : Nat) : Int)) = true := decide_eq_true (by rw [hln])
 have e3 : decide (ps.length = ps2.length) = true := by simpa using hln
 have e4 : (ps.length == ps2.length) = true := by simpa using hln
 clear hc1 hc2 hga ih hln
 clear hr hp hkT hkP hB hO hfp hft hct hlen hLt hLg hLp hLf hb1 hown
 go_enter Tryz.func30, Tryz.ntmps30
 go_upto_region 1 with fail
 rw [← HW1.out]
 obtain ⟨⟨x0, x1, x2, x3, x4, x5⟩, ⟨y0, y1, y2, y3, y4, y5⟩⟩ := HBX.out _ _ (Gro.refl _ _)
 go_wp2_with fail
 refine (KQ.out).mono ?_
 rintro e w5 ⟨v5, rfl, hO5, hg5⟩
 have HO5 := Hd hO5
 have HG5 := Hd hg5
 clear hO5 hg5 x0 x1 x2 x3 x4 x5 y0 y1 y2 y3 y4 y5
 go_wp2_with fail
 go_ret
 exact AgPost.from HG1.out ⟨v5, rfl, HO5.out, HG5.out⟩
theorem ag_ref (s : ByteArray) (n : Int) (ps : List Ty) (fs : FsT) (vs : VsT) (s2 : ByteArray) (n2 : Int) (ps2 : List Ty) (fs2 : FsT) (vs2 : VsT) (hs : s2 = s) (hln : ps.length = ps2.length) (ih : ∀ q ∈ ps2, ∀ u ∈ ps, AgP q u) : AgP (.mk 17 s2 n2 ps2 fs2 vs2) (.mk 17 s n ps fs vs) := by
 refine ag_pre 17 s n ps fs vs 17 s2 n2 ps2 fs2 vs2 fun K K' B0 w v G A c B d C e A2 c2 B2 d2 C2 e2 w1 h => ?_
 obtain ⟨hr, hp, hkT, hkP, hB, hO, hfp, hft, hct, hlen, hLt, hLg, hLp, hLf, hown, hb1, HBX, HO1, HG1, HW1⟩ := h
 have hga : gathT (.mk 17 s2 n2 ps2 fs2 vs2) (.mk 17 s n ps fs vs) = (List.zipWith gathT ps2 ps).flatten := by
  rw [gathM, if_neg (by show ¬ ((17 : Int) = 22); decide), if_neg (by show ¬ ((17 : Int) = 15); decide), if_neg (by show ¬ (isComp 17 = false); decide), if_neg (by show ¬ ((17 : Int) = 15); decide), if_neg (by show ¬ ((17 : Int) = 11 ∧ (17 : Int) = 12); decide), if_neg (by show ¬ ((17 : Int) ≠ 17); decide), if_neg (by show ¬ ((17 : Int) = 11); decide), if_pos (show (17 : Int) = 12 ∨ ((17 : Int) = 17 ∧ s2 = s) from .inr ⟨rfl, hs⟩), if_pos hln]
 rw [hga] at hlen ⊢
 have hc1 := cntT_mk 17 s n ps fs vs
 have hc2 := cntT_mk 17 s2 n2 ps2 fs2 vs2
 have KQ := Hd (rparts hLt hLp hkT hkP hB hO ih (form_ps hfp) (form_ps hft) (by omega) hlen)
 have e1 : (((ps.length : Nat) : Int) == ((ps2.length : Nat) : Int)) = true := by rw [hln]; exact beq_self_eq_true _
 have e2 : decide (((ps.length : Nat) : Int) = ((ps2.length : Nat) : Int)) = true := decide_eq_true (by rw [hln])
 have e3 : decide (ps.length = ps2.length) = true := by simpa using hln
 have e4 : (ps.length == ps2.length) = true := by simpa using hln
 have e5 : (s.toList == s2.toList) = true := by rw [hs]; simp
 clear hs
 clear hc1 hc2 hga ih hln
 clear hr hp hkT hkP hB hO hfp hft hct hlen hLt hLg hLp hLf hb1 hown
 go_enter Tryz.func30, Tryz.ntmps30
 go_upto_region 1 with fail
 rw [← HW1.out]
 obtain ⟨⟨x0, x1, x2, x3, x4, x5⟩, ⟨y0, y1, y2, y3, y4, y5⟩⟩ := HBX.out _ _ (Gro.refl _ _)
 go_wp2_with fail
 refine (KQ.out).mono ?_
 rintro e w5 ⟨v5, rfl, hO5, hg5⟩
 have HO5 := Hd hO5
 have HG5 := Hd hg5
 clear hO5 hg5 x0 x1 x2 x3 x4 x5 y0 y1 y2 y3 y4 y5
 go_wp2_with fail
 go_ret
 exact AgPost.from HG1.out ⟨v5, rfl, HO5.out, HG5.out⟩
theorem ag_func (s : ByteArray) (n : Int) (ps : List Ty) (fs : FsT) (vs : VsT) (s2 : ByteArray) (n2 : Int) (ps2 : List Ty) (fs2 : FsT) (vs2 : VsT) (hv : vs = []) (ih : FnP 64 (.mk 13 s2 n2 ps2 fs2 vs2) (.mk 13 s n ps fs vs)) : AgP (.mk 13 s2 n2 ps2 fs2 vs2) (.mk 13 s n ps fs vs) := by
 refine ag_pre 13 s n ps fs vs 13 s2 n2 ps2 fs2 vs2 fun K K' B0 w v G A c B d C e A2 c2 B2 d2 C2 e2 w1 h => ?_
 obtain ⟨hr, hp, hkT, hkP, hB, hO, hfp, hft, hct, hlen, hLt, hLg, hLp, hLf, hown, hb1, HBX, HO1, HG1, HW1⟩ := h
 have KQ := Hd (ih K K' B0 w1 _ _ v G hr hp hkT hkP hB hO hfp hft hct hlen)
 have v1 : (((vs.length : Nat) : Int) == 0) = true := by rw [hv]; rfl
 have v2 : decide (((vs.length : Nat) : Int) = 0) = true := by rw [hv]; rfl
 have v3 : decide (vs.length = 0) = true := by rw [hv]; rfl
 clear hv
 clear ih
 clear hr hp hkT hkP hB hO hfp hft hct hlen hLt hLg hLp hLf hb1 hown
 go_enter Tryz.func30, Tryz.ntmps30
 go_upto_region 1 with fail
 rw [← HW1.out]
 obtain ⟨⟨x0, x1, x2, x3, x4, x5⟩, ⟨y0, y1, y2, y3, y4, y5⟩⟩ := HBX.out _ _ (Gro.refl _ _)
 go_wp2_with fail
 refine (KQ.out).mono ?_
 rintro e w5 ⟨v5, rfl, hO5, hg5⟩
 have HO5 := Hd hO5
 have HG5 := Hd hg5
 clear hO5 hg5 x0 x1 x2 x3 x4 x5 y0 y1 y2 y3 y4 y5
 go_wp2_with fail
 go_ret
 exact AgPost.from HG1.out ⟨v5, rfl, HO5.out, HG5.out⟩
theorem ag_obj (s : ByteArray) (n : Int) (ps : List Ty) (fs : FsT) (vs : VsT) (s2 : ByteArray) (n2 : Int) (ps2 : List Ty) (fs2 : FsT) (vs2 : VsT) (ih : FnP 65 (.mk 14 s2 n2 ps2 fs2 vs2) (.mk 14 s n ps fs vs)) : AgP (.mk 14 s2 n2 ps2 fs2 vs2) (.mk 14 s n ps fs vs) := by
 refine ag_pre 14 s n ps fs vs 14 s2 n2 ps2 fs2 vs2 fun K K' B0 w v G A c B d C e A2 c2 B2 d2 C2 e2 w1 h => ?_
 obtain ⟨hr, hp, hkT, hkP, hB, hO, hfp, hft, hct, hlen, hLt, hLg, hLp, hLf, hown, hb1, HBX, HO1, HG1, HW1⟩ := h
 have KQ := Hd (ih K K' B0 w1 _ _ v G hr hp hkT hkP hB hO hfp hft hct hlen)
 clear ih
 clear hr hp hkT hkP hB hO hfp hft hct hlen hLt hLg hLp hLf hb1 hown
 go_enter Tryz.func30, Tryz.ntmps30
 go_upto_region 1 with fail
 rw [← HW1.out]
 obtain ⟨⟨x0, x1, x2, x3, x4, x5⟩, ⟨y0, y1, y2, y3, y4, y5⟩⟩ := HBX.out _ _ (Gro.refl _ _)
 go_wp2_with fail
 refine (KQ.out).mono ?_
 rintro e w5 ⟨v5, rfl, hO5, hg5⟩
 have HO5 := Hd hO5
 have HG5 := Hd hg5
 clear hO5 hg5 x0 x1 x2 x3 x4 x5 y0 y1 y2 y3 y4 y5
 go_wp2_with fail
 go_ret
 exact AgPost.from HG1.out ⟨v5, rfl, HO5.out, HG5.out⟩
theorem ag_union (k : Int) (s : ByteArray) (n : Int) (ps : List Ty) (fs : FsT) (vs : VsT) (s2 : ByteArray) (n2 : Int) (ps2 : List Ty) (fs2 : FsT) (vs2 : VsT) (ih : ∀ q ∈ ps2, AgP q (.mk k s n ps fs vs)) : AgP (.mk 15 s2 n2 ps2 fs2 vs2) (.mk k s n ps fs vs) := by
 refine ag_pre k s n ps fs vs 15 s2 n2 ps2 fs2 vs2 fun K K' B0 w v G A c B d C e A2 c2 B2 d2 C2 e2 w1 h => ?_
 obtain ⟨hr, hp, hkT, hkP, hB, hO, hfp, hft, hct, hlen, hLt, hLg, hLp, hLf, hown, hb1, HBX, HO1, HG1, HW1⟩ := h
 have hga : gathT (.mk 15 s2 n2 ps2 fs2 vs2) (.mk k s n ps fs vs) = (ps2.map (fun q => gathT q (.mk k s n ps fs vs))).flatten := by
  rw [gathM, if_neg (by show ¬ ((15 : Int) = 22); decide), if_pos (show (15 : Int) = 15 from rfl)]
 rw [hga] at hlen ⊢
 have hc1 := cntT_mk k s n ps fs vs
 have hc2 := cntT_mk 15 s2 n2 ps2 fs2 vs2
 have hll := hLp.short
 have h2 : 2 ≤ ps2.length := (form_15 hfp).1
 obtain ⟨qb, qo, hA, hKb, hat⟩ := hLp.at (by omega)
 subst hA
 have hkb := (hkP _ hKb).2
 have KQ0 : Hid (∀ i (hi : i < ps2.length) cs, RepT _ w1 (ps2[i]'hi) cs → ∀ wr v', Gro v w1 v' wr → FdR B0 wr v' (G ++ ((ps2.take i).map (fun q => gathT q (.mk k s n ps fs vs))).flatten) → Calls Tryz.prog 30 #[.agg #[.int .i64 k, .string s, .int .i64 n, .slice A ps.length c, .slice B fs.length d, .slice C vs.length e], .agg cs.toArray, v'] wr (AgPost B0 w1 v (G ++ ((ps2.take (i + 1)).map (fun q => gathT q (.mk k s n ps fs vs))).flatten))) := Hd fun i hi cs hx wr v' hg ho => by
  have h3 := flat_len_le (fun q => gathT q (.mk k s n ps fs vs)) ps2 (i + 1)
  have h4 := cntL_mem (List.getElem_mem hi)
  rw [flat_part (fun q => gathT q (.mk k s n ps fs vs)) hi] at h3 ⊢
  rw [← List.append_assoc]
  rw [List.length_append] at h3
  exact AgP.go (ih _ (List.getElem_mem hi)) hr hx hkT hkP hB hg ho (form_ps hfp _ (List.getElem_mem hi)) hft (by omega) (by rw [List.length_append]; omega)
 have HAT := Hd hat
 have HKB := Hd hkb
 have HRO0 : Hid (FdR B0 w1 v (G ++ ((ps2.take 0).map (fun q => gathT q (.mk k s n ps fs vs))).flatten)) := Hd (by rw [List.take_zero, List.map_nil, List.flatten_nil, List.append_nil]; exact hO)
 clear hga hc1 hc2 h2 hat hkb hKb ih
 clear hr hp hkT hkP hB hO hfp hft hct hlen hLt hLg hLp hLf hb1 hown
 generalize (fun q => gathT q (.mk k s n ps fs vs)) = gg at KQ0 HRO0 ⊢
 go_enter Tryz.func30, Tryz.ntmps30
 go_upto_region 1 with fail
 rw [← HW1.out]
 obtain ⟨⟨x0, x1, x2, x3, x4, x5⟩, ⟨y0, y1, y2, y3, y4, y5⟩⟩ := HBX.out _ _ (Gro.refl _ _)
 go_wp2_with fail
 clear x0 x1 x2 x3 x4 x5 y0 y1 y2 y3 y4 y5
 go_loopw [2, 7] (fun lv iv wr => ∃ (i : Nat), i ≤ ps2.length ∧ iv = .int .i64 i ∧ FdR B0 wr lv (G ++ ((ps2.take i).map gg).flatten) ∧ Gro v w1 lv wr) (fun _ iv _ => ps2.length - (intOf iv).toNat)
 case atStart => exact ⟨0, by omega, rfl, HRO0.out, Gro.refl _ _⟩
 case round =>
  obtain ⟨i, hi, rfl, hro, hgr⟩ := hrel
  have HRO := Hd hro
  have HGR := Hd hgr
  obtain ⟨⟨x0, x1, x2, x3, x4, x5⟩, ⟨y0, y1, y2, y3, y4, y5⟩⟩ := HBX.out _ _ hgr
  clear hro hgr
  by_cases hin : i < ps2.length
  ·have t1 : decide ((i : Int) < (ps2.length : Int)) = true := by simp; omega
   have wr2 : wrap64 ((i : Int) + 1) = ((i + 1 : Nat) : Int) := wrap_one (by omega)
   have HM := Hd (measI hin)
   have HIn : Hid (i + 1 ≤ ps2.length) := Hd hin
   obtain ⟨cs4, hcs4, hr4⟩ := HAT.out i hin
   have KQ := Hd (KQ0.out i hin _ hr4)
   generalize ps2[i] = u at hr4
   obtain ⟨k4, s4, n4, ps4, fs4, vs4⟩ := u
   obtain ⟨A4, c4, B4, d4, C4, e4, rfl, -⟩ := hr4.inv
   simp only [cells6T] at hcs4 KQ
   have HSW : Hid (∀ v' wx, Gro v w1 v' wx → ((wx.cell? ⟨w.heap.size, 0, none⟩ = some (.int .i64 k) ∧ wx.cell? ⟨w.heap.size, 1, none⟩ = some (.string s) ∧ wx.cell? ⟨w.heap.size, 2, none⟩ = some (.int .i64 n) ∧ wx.cell? ⟨w.heap.size, 3, none⟩ = some (.slice A ps.length c) ∧ wx.cell? ⟨w.heap.size, 4, none⟩ = some (.slice B fs.length d) ∧ wx.cell? ⟨w.heap.size, 5, none⟩ = some (.slice C vs.length e)) ∧ (wx.cell? ⟨w.heap.size + 1, 0, none⟩ = some (.int .i64 15) ∧ wx.cell? ⟨w.heap.size + 1, 1, none⟩ = some (.string s2) ∧ wx.cell? ⟨w.heap.size + 1, 2, none⟩ = some (.int .i64 n2) ∧ wx.cell? ⟨w.heap.size + 1, 3, none⟩ = some (.slice (some ⟨qb, qo, none⟩) ps2.length c2) ∧ wx.cell? ⟨w.heap.size + 1, 4, none⟩ = some (.slice B2 fs2.length d2) ∧ wx.cell? ⟨w.heap.size + 1, 5, none⟩ = some (.slice C2 vs2.length e2))) ∧ (wx.cell? ⟨qb, qo + i * 6, none⟩ = some (.int .i64 k4) ∧ wx.cell? ⟨qb, qo + i * 6 + 1, none⟩ = some (.string s4) ∧ wx.cell? ⟨qb, qo + i * 6 + 2, none⟩ = some (.int .i64 n4) ∧ wx.cell? ⟨qb, qo + i * 6 + 3, none⟩ = some (.slice A4 ps4.length c4) ∧ wx.cell? ⟨qb, qo + i * 6 + 4, none⟩ = some (.slice B4 fs4.length d4) ∧ wx.cell? ⟨qb, qo + i * 6 + 5, none⟩ = some (.slice C4 vs4.length e4))) := Hd fun v' wx hg => ⟨HBX.out _ _ hg, hg.cell HKB.out (hcs4 0 _ rfl), hg.cell HKB.out (hcs4 1 _ rfl), hg.cell HKB.out (hcs4 2 _ rfl), hg.cell HKB.out (hcs4 3 _ rfl), hg.cell HKB.out (hcs4 4 _ rfl), hg.cell HKB.out (hcs4 5 _ rfl)⟩
   have i1 : (0 : Int) ≤ (i : Int) := by omega
   have i2 : (i : Int) < (ps2.length : Int) := by omega
   clear hi hcs4 hr4
   go_upto_region 19 with fail
   clear x0 x1 x2 x3 x4 x5 y0 y1 y2 y3 y4 y5
   refine wp_region_held_drew (S := (fun w' => ((w'.cell? ⟨w.heap.size, 0, none⟩ = some (.int .i64 k) ∧ w'.cell? ⟨w.heap.size, 1, none⟩ = some (.string s) ∧ w'.cell? ⟨w.heap.size, 2, none⟩ = some (.int .i64 n) ∧ w'.cell? ⟨w.heap.size, 3, none⟩ = some (.slice A ps.length c) ∧ w'.cell? ⟨w.heap.size, 4, none⟩ = some (.slice B fs.length d) ∧ w'.cell? ⟨w.heap.size, 5, none⟩ = some (.slice C vs.length e)) ∧ (w'.cell? ⟨w.heap.size + 1, 0, none⟩ = some (.int .i64 15) ∧ w'.cell? ⟨w.heap.size + 1, 1, none⟩ = some (.string s2) ∧ w'.cell? ⟨w.heap.size + 1, 2, none⟩ = some (.int .i64 n2) ∧ w'.cell? ⟨w.heap.size + 1, 3, none⟩ = some (.slice (some ⟨qb, qo, none⟩) ps2.length c2) ∧ w'.cell? ⟨w.heap.size + 1, 4, none⟩ = some (.slice B2 fs2.length d2) ∧ w'.cell? ⟨w.heap.size + 1, 5, none⟩ = some (.slice C2 vs2.length e2))) ∧ (w'.cell? ⟨qb, qo + i * 6, none⟩ = some (.int .i64 k4) ∧ w'.cell? ⟨qb, qo + i * 6 + 1, none⟩ = some (.string s4) ∧ w'.cell? ⟨qb, qo + i * 6 + 2, none⟩ = some (.int .i64 n4) ∧ w'.cell? ⟨qb, qo + i * 6 + 3, none⟩ = some (.slice A4 ps4.length c4) ∧ w'.cell? ⟨qb, qo + i * 6 + 4, none⟩ = some (.slice B4 fs4.length d4) ∧ w'.cell? ⟨qb, qo + i * 6 + 5, none⟩ = some (.slice C4 vs4.length e4)))) (by kernel_rfl) (HSW.out _ _ HGR.out.drew) (fun hHeld => ?_)
   refine Plan.start [0, 1, 2, 3, 4, 5, 6] ?_
   iterate 7 (refine Plan.tk (so rfl) hHeld ?_; try simp only [Act.put, pz1, pz2, pz3])
   refine Plan.done ?_
   refine wpAnyH_ready (rs := [7]) (by kernel_rfl) (by simp) ?_
   refine AllReadyH.cons (sd (some 161) rfl) (fun Kx hK => ?_) AllReadyH.nil
   go_simp
   refine (KQ.out _ _ HGR.out.drew HRO.out.drew).mono ?_
   rintro e w5 ⟨v5, rfl, hO5, hg5⟩
   have HO5 := Hd hO5
   have HG5 := Hd hg5
   clear hO5 hg5
   go_wp2_with fail
   refine hK.out _ _ (HSW.out _ _ HG5.out) (fun hHeld => ?_)
   clear hK Kx
   try simp only [Act.put, pz1, pz2, pz3]
   refine Plan.start [8] ?_
   refine Plan.tk (so rfl) hHeld ?_
   try simp only [Act.put, pz1, pz2, pz3]
   refine Plan.done ?_
   refine wpAnyH_done (by kernel_rfl) ?_ _
   clear hHeld
   go_wp2_with fail
   refine ⟨⟨i + 1, HIn.out, by first | rfl | rw [wr2], HO5.out, HG5.out⟩, ?_⟩
   first | exact HM.out | (rw [wr2]; exact HM.out)
  ·have t1 : decide ((i : Int) < (ps2.length : Int)) = false := by simp; omega
   have HE : Hid (FdR B0 _ _ (G ++ (ps2.map gg).flatten)) := Hd (by have h := HRO.out; rw [List.take_of_length_le (by omega)] at h; exact h)
   clear hi
   go_wp2_with fail
   go_ret
   exact AgPost.from HG1.out ⟨_, rfl, HE.out, HGR.out⟩
theorem ag_comp (k2 : Int) (s : ByteArray) (n : Int) (ps : List Ty) (fs : FsT) (vs : VsT) (s2 : ByteArray) (n2 : Int) (ps2 : List Ty) (fs2 : FsT) (vs2 : VsT) (hcc : k2 = 11 ∨ k2 = 12 ∨ k2 = 13 ∨ k2 = 14 ∨ k2 = 17) (ih : ∀ u ∈ ps, AgP (.mk k2 s2 n2 ps2 fs2 vs2) u) : AgP (.mk k2 s2 n2 ps2 fs2 vs2) (.mk 15 s n ps fs vs) := by
 refine ag_pre 15 s n ps fs vs k2 s2 n2 ps2 fs2 vs2 fun K K' B0 w v G A c B d C e A2 c2 B2 d2 C2 e2 w1 h => ?_
 obtain ⟨hr, hp, hkT, hkP, hB, hO, hfp, hft, hct, hlen, hLt, hLg, hLp, hLf, hown, hb1, HBX, HO1, HG1, HW1⟩ := h
 have hga : gathT (.mk k2 s2 n2 ps2 fs2 vs2) (.mk 15 s n ps fs vs) = (ps.map (fun u => gathT (.mk k2 s2 n2 ps2 fs2 vs2) u)).flatten := by
  rw [gathM, if_neg (by show ¬ (k2 = 22); omega), if_neg (by show ¬ (k2 = 15); omega), if_neg (by show ¬ (isComp k2 = false); rcases hcc with h | h | h | h | h <;> rw [h] <;> decide), if_pos (show (15 : Int) = 15 from rfl)]
 rw [hga] at hlen ⊢
 have hc1 := cntT_mk 15 s n ps fs vs
 have hc2 := cntT_mk k2 s2 n2 ps2 fs2 vs2
 have hll := hLt.short
 have h2 : 2 ≤ ps.length := (form_15 hft).1
 obtain ⟨qb, qo, hA, hKb, hat⟩ := hLt.at (by omega)
 subst hA
 have hkb := (hkT _ hKb).2
 have KQ0 : Hid (∀ i (hi : i < ps.length) cs, RepT _ w1 (ps[i]'hi) cs → ∀ wr v', Gro v w1 v' wr → FdR B0 wr v' (G ++ ((ps.take i).map (fun u => gathT (.mk k2 s2 n2 ps2 fs2 vs2) u)).flatten) → Calls Tryz.prog 30 #[.agg cs.toArray, .agg #[.int .i64 k2, .string s2, .int .i64 n2, .slice A2 ps2.length c2, .slice B2 fs2.length d2, .slice C2 vs2.length e2], v'] wr (AgPost B0 w1 v (G ++ ((ps.take (i + 1)).map (fun u => gathT (.mk k2 s2 n2 ps2 fs2 vs2) u)).flatten))) := Hd fun i hi cs hx wr v' hg ho => by
  have h3 := flat_len_le (fun u => gathT (.mk k2 s2 n2 ps2 fs2 vs2) u) ps (i + 1)
  have h4 := cntL_mem (List.getElem_mem hi)
  rw [flat_part (fun u => gathT (.mk k2 s2 n2 ps2 fs2 vs2) u) hi] at h3 ⊢
  rw [← List.append_assoc]
  rw [List.length_append] at h3
  exact AgP.go (ih _ (List.getElem_mem hi)) hx hp hkT hkP hB hg ho hfp (form_ps hft _ (List.getElem_mem hi)) (by omega) (by rw [List.length_append]; omega)
 have HAT := Hd hat
 have HKB := Hd hkb
 have HRO0 : Hid (FdR B0 w1 v (G ++ ((ps.take 0).map (fun u => gathT (.mk k2 s2 n2 ps2 fs2 vs2) u)).flatten)) := Hd (by rw [List.take_zero, List.map_nil, List.flatten_nil, List.append_nil]; exact hO)
 clear hga hc1 hc2 h2 hat hkb hKb ih
 clear hr hp hkT hkP hB hO hfp hft hct hlen hLt hLg hLp hLf hb1 hown
 generalize (fun u => gathT (.mk k2 s2 n2 ps2 fs2 vs2) u) = gg at KQ0 HRO0 ⊢
 rcases hcc with h | h | h | h | h
 all_goals (
  (first | have f22 : (k2 == 22) = true := by rw [h]; rfl | have f22 : (k2 == 22) = false := by rw [h]; rfl)
  (first | have g22 : decide (k2 = 22) = true := by rw [h]; rfl | have g22 : decide (k2 = 22) = false := by rw [h]; rfl)
  (first | have f15 : (k2 == 15) = true := by rw [h]; rfl | have f15 : (k2 == 15) = false := by rw [h]; rfl)
  (first | have g15 : decide (k2 = 15) = true := by rw [h]; rfl | have g15 : decide (k2 = 15) = false := by rw [h]; rfl)
  (first | have f11 : (k2 == 11) = true := by rw [h]; rfl | have f11 : (k2 == 11) = false := by rw [h]; rfl)
  (first | have g11 : decide (k2 = 11) = true := by rw [h]; rfl | have g11 : decide (k2 = 11) = false := by rw [h]; rfl)
  (first | have f12 : (k2 == 12) = true := by rw [h]; rfl | have f12 : (k2 == 12) = false := by rw [h]; rfl)
  (first | have g12 : decide (k2 = 12) = true := by rw [h]; rfl | have g12 : decide (k2 = 12) = false := by rw [h]; rfl)
  (first | have f13 : (k2 == 13) = true := by rw [h]; rfl | have f13 : (k2 == 13) = false := by rw [h]; rfl)
  (first | have g13 : decide (k2 = 13) = true := by rw [h]; rfl | have g13 : decide (k2 = 13) = false := by rw [h]; rfl)
  (first | have f14 : (k2 == 14) = true := by rw [h]; rfl | have f14 : (k2 == 14) = false := by rw [h]; rfl)
  (first | have g14 : decide (k2 = 14) = true := by rw [h]; rfl | have g14 : decide (k2 = 14) = false := by rw [h]; rfl)
  (first | have f17 : (k2 == 17) = true := by rw [h]; rfl | have f17 : (k2 == 17) = false := by rw [h]; rfl)
  (first | have g17 : decide (k2 = 17) = true := by rw [h]; rfl | have g17 : decide (k2 = 17) = false := by rw [h]; rfl)
  clear h
  go_enter Tryz.func30, Tryz.ntmps30
  go_upto_region 1 with fail
  rw [← HW1.out]
  obtain ⟨⟨x0, x1, x2, x3, x4, x5⟩, ⟨y0, y1, y2, y3, y4, y5⟩⟩ := HBX.out _ _ (Gro.refl _ _)
  go_wp2_with fail
  clear x0 x1 x2 x3 x4 x5 y0 y1 y2 y3 y4 y5
  go_loopw [2, 9] (fun lv iv wr => ∃ (i : Nat), i ≤ ps.length ∧ iv = .int .i64 i ∧ FdR B0 wr lv (G ++ ((ps.take i).map gg).flatten) ∧ Gro v w1 lv wr) (fun _ iv _ => ps.length - (intOf iv).toNat)
  case atStart => exact ⟨0, by omega, rfl, HRO0.out, Gro.refl _ _⟩
  case round =>
   obtain ⟨i, hi, rfl, hro, hgr⟩ := hrel
   have HRO := Hd hro
   have HGR := Hd hgr
   obtain ⟨⟨x0, x1, x2, x3, x4, x5⟩, ⟨y0, y1, y2, y3, y4, y5⟩⟩ := HBX.out _ _ hgr
   clear hro hgr
   by_cases hin : i < ps.length
   ·have t1 : decide ((i : Int) < (ps.length : Int)) = true := by simp; omega
    have wr2 : wrap64 ((i : Int) + 1) = ((i + 1 : Nat) : Int) := wrap_one (by omega)
    have HM := Hd (measI hin)
    have HIn : Hid (i + 1 ≤ ps.length) := Hd hin
    obtain ⟨cs3, hcs3, hr3⟩ := HAT.out i hin
    have KQ := Hd (KQ0.out i hin _ hr3)
    generalize ps[i] = u at hr3
    obtain ⟨k3, s3, n3, ps3, fs3, vs3⟩ := u
    obtain ⟨A3, c3, B3, d3, C3, e3, rfl, -⟩ := hr3.inv
    simp only [cells6T] at hcs3 KQ
    have HSW : Hid (∀ v' wx, Gro v w1 v' wx → ((wx.cell? ⟨w.heap.size, 0, none⟩ = some (.int .i64 15) ∧ wx.cell? ⟨w.heap.size, 1, none⟩ = some (.string s) ∧ wx.cell? ⟨w.heap.size, 2, none⟩ = some (.int .i64 n) ∧ wx.cell? ⟨w.heap.size, 3, none⟩ = some (.slice (some ⟨qb, qo, none⟩) ps.length c) ∧ wx.cell? ⟨w.heap.size, 4, none⟩ = some (.slice B fs.length d) ∧ wx.cell? ⟨w.heap.size, 5, none⟩ = some (.slice C vs.length e)) ∧ (wx.cell? ⟨w.heap.size + 1, 0, none⟩ = some (.int .i64 k2) ∧ wx.cell? ⟨w.heap.size + 1, 1, none⟩ = some (.string s2) ∧ wx.cell? ⟨w.heap.size + 1, 2, none⟩ = some (.int .i64 n2) ∧ wx.cell? ⟨w.heap.size + 1, 3, none⟩ = some (.slice A2 ps2.length c2) ∧ wx.cell? ⟨w.heap.size + 1, 4, none⟩ = some (.slice B2 fs2.length d2) ∧ wx.cell? ⟨w.heap.size + 1, 5, none⟩ = some (.slice C2 vs2.length e2))) ∧ (wx.cell? ⟨qb, qo + i * 6, none⟩ = some (.int .i64 k3) ∧ wx.cell? ⟨qb, qo + i * 6 + 1, none⟩ = some (.string s3) ∧ wx.cell? ⟨qb, qo + i * 6 + 2, none⟩ = some (.int .i64 n3) ∧ wx.cell? ⟨qb, qo + i * 6 + 3, none⟩ = some (.slice A3 ps3.length c3) ∧ wx.cell? ⟨qb, qo + i * 6 + 4, none⟩ = some (.slice B3 fs3.length d3) ∧ wx.cell? ⟨qb, qo + i * 6 + 5, none⟩ = some (.slice C3 vs3.length e3))) := Hd fun v' wx hg => ⟨HBX.out _ _ hg, hg.cell HKB.out (hcs3 0 _ rfl), hg.cell HKB.out (hcs3 1 _ rfl), hg.cell HKB.out (hcs3 2 _ rfl), hg.cell HKB.out (hcs3 3 _ rfl), hg.cell HKB.out (hcs3 4 _ rfl), hg.cell HKB.out (hcs3 5 _ rfl)⟩
    have i1 : (0 : Int) ≤ (i : Int) := by omega
    have i2 : (i : Int) < (ps.length : Int) := by omega
    clear hi hcs3 hr3
    go_upto_region 26 with fail
    clear x0 x1 x2 x3 x4 x5 y0 y1 y2 y3 y4 y5
    refine wp_region_held_drew (S := (fun w' => ((w'.cell? ⟨w.heap.size, 0, none⟩ = some (.int .i64 15) ∧ w'.cell? ⟨w.heap.size, 1, none⟩ = some (.string s) ∧ w'.cell? ⟨w.heap.size, 2, none⟩ = some (.int .i64 n) ∧ w'.cell? ⟨w.heap.size, 3, none⟩ = some (.slice (some ⟨qb, qo, none⟩) ps.length c) ∧ w'.cell? ⟨w.heap.size, 4, none⟩ = some (.slice B fs.length d) ∧ w'.cell? ⟨w.heap.size, 5, none⟩ = some (.slice C vs.length e)) ∧ (w'.cell? ⟨w.heap.size + 1, 0, none⟩ = some (.int .i64 k2) ∧ w'.cell? ⟨w.heap.size + 1, 1, none⟩ = some (.string s2) ∧ w'.cell? ⟨w.heap.size + 1, 2, none⟩ = some (.int .i64 n2) ∧ w'.cell? ⟨w.heap.size + 1, 3, none⟩ = some (.slice A2 ps2.length c2) ∧ w'.cell? ⟨w.heap.size + 1, 4, none⟩ = some (.slice B2 fs2.length d2) ∧ w'.cell? ⟨w.heap.size + 1, 5, none⟩ = some (.slice C2 vs2.length e2))) ∧ (w'.cell? ⟨qb, qo + i * 6, none⟩ = some (.int .i64 k3) ∧ w'.cell? ⟨qb, qo + i * 6 + 1, none⟩ = some (.string s3) ∧ w'.cell? ⟨qb, qo + i * 6 + 2, none⟩ = some (.int .i64 n3) ∧ w'.cell? ⟨qb, qo + i * 6 + 3, none⟩ = some (.slice A3 ps3.length c3) ∧ w'.cell? ⟨qb, qo + i * 6 + 4, none⟩ = some (.slice B3 fs3.length d3) ∧ w'.cell? ⟨qb, qo + i * 6 + 5, none⟩ = some (.slice C3 vs3.length e3)))) (by kernel_rfl) (HSW.out _ _ HGR.out.drew) (fun hHeld => ?_)
    refine Plan.start [0, 1, 2, 3, 4, 5, 6] ?_
    iterate 7 (refine Plan.tk (so rfl) hHeld ?_; try simp only [Act.put, pz1, pz2, pz3])
    refine Plan.done ?_
    refine wpAnyH_ready (rs := [7]) (by kernel_rfl) (by simp) ?_
    refine AllReadyH.cons (sd (some 206) rfl) (fun Kx hK => ?_) AllReadyH.nil
    go_simp
    refine (KQ.out _ _ HGR.out.drew HRO.out.drew).mono ?_
    rintro e w5 ⟨v5, rfl, hO5, hg5⟩
    have HO5 := Hd hO5
    have HG5 := Hd hg5
    clear hO5 hg5
    go_wp2_with fail
    refine hK.out _ _ (HSW.out _ _ HG5.out) (fun hHeld => ?_)
    clear hK Kx
    try simp only [Act.put, pz1, pz2, pz3]
    refine Plan.start [8] ?_
    refine Plan.tk (so rfl) hHeld ?_
    try simp only [Act.put, pz1, pz2, pz3]
    refine Plan.done ?_
    refine wpAnyH_done (by kernel_rfl) ?_ _
    clear hHeld
    go_wp2_with fail
    refine ⟨⟨i + 1, HIn.out, by first | rfl | rw [wr2], HO5.out, HG5.out⟩, ?_⟩
    first | exact HM.out | (rw [wr2]; exact HM.out)
   ·have t1 : decide ((i : Int) < (ps.length : Int)) = false := by simp; omega
    have HE : Hid (FdR B0 _ _ (G ++ (ps.map gg).flatten)) := Hd (by have h := HRO.out; rw [List.take_of_length_le (by omega)] at h; exact h)
    clear hi
    go_wp2_with fail
    go_ret
    exact AgPost.from HG1.out ⟨_, rfl, HE.out, HGR.out⟩)
end Go.Proofs.YtjbccjmpebgdjaaGreatDoor
