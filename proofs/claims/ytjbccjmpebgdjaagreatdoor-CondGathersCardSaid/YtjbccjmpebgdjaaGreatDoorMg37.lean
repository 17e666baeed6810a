import Derived.Test.YtjbccjmpebgdjaaGreatDoorMg31
namespace Go.Proofs.YtjbccjmpebgdjaaGreatDoor
open Go.RowKit
set_option maxRecDepth 100000
set_option maxHeartbeats 64000000
theorem ins_none_a {p t : Ty} (hinf : infT p = true) (hne : (p.k == t.k) = false) (hk : (p.k == 11) = false) (hga : gathT p t = []) : InsP p t := by
 intro K K' w0 w m F G b o b' o' hT hP hKT hKP hG hB hfp hft hct hlen
 obtain ⟨k, s, n, ps, fs, vs⟩ := p
 obtain ⟨k2, s2, n2, ps2, fs2, vs2⟩ := t
 rw [hga, List.append_nil]
 simp only [Ty.k] at hne hk
 have hk2 : decide (k = 11) = false := by simpa using hk
 have hne2 : decide (k = k2) = false := by simpa using hne
 obtain ⟨A, c, A', c', A'', c'', ⟨x0, x1, x2, x3, x4, x5⟩, -, hLp, hLf, hLv⟩ := hP.six
 obtain ⟨A2, c2, B2, d2, C2, e2, ⟨y0, y1, y2, y3, y4, y5⟩, -, hLt, hLg, hLu⟩ := hT.six
 have hnb := (hKT b (.inr rfl)).2
 have hnb' := (hKP b' (.inr rfl)).2
 have HSW : Hid (∀ wx G', HoldMid w0 w m F G' wx → wx.cell? ⟨b', o', none⟩ = some (.int .i64 k) ∧ wx.cell? ⟨b, o, none⟩ = some (.int .i64 k2)) := Hd fun wx G' hm => by
  obtain ⟨F', _, hb, _⟩ := hm
  exact ⟨but_cell hb hnb' x0, but_cell hb hnb y0⟩
 have HST1 := Hd (HoldMid.start hG).drew
 clear hT hP hKT hKP hG hB hfp hft hct hlen hga hLp hLf hLv hLt hLg hLu hnb hnb' hinf x1 x2 x3 x4 x5 y1 y2 y3 y4 y5
 go_enter Tryz.func43, Tryz.ntmps43
 go_upto_region 3 with fail
 clear x0 y0
 refine wp_region_held_drew (S := (fun w' => w'.cell? ⟨b', o', none⟩ = some (.int .i64 k) ∧ w'.cell? ⟨b, o, none⟩ = some (.int .i64 k2))) (by kernel_rfl) (HSW.out _ _ HST1.out) (fun hHeld => ?_)
 refine Plan.start [0, 1, 2, 3, 4, 5, 6, 7, 8, 9] ?_
 iterate 10 (refine Plan.tk (so rfl) hHeld ?_; try simp only [Act.put, pz1, pz2, pz3])
 refine Plan.done ?_
 refine wpAnyH_done (by kernel_rfl) ?_ _
 clear hHeld
 obtain ⟨z0, z1⟩ := HSW.out _ _ HST1.out
 go_wp2_with fail
 exact bodyPost_end (v := .tuple #[]) (by simp [results, Tryz.results43, go_sem]) rfl ⟨rfl, HST1.out⟩
theorem ins_none_b {p t : Ty} (hinf : infT p = true) (hne : (p.k == t.k) = false) (hk : p.k = 11) (hk2 : (t.k == 12) = false) (hga : gathT p t = []) : InsP p t := by
 intro K K' w0 w m F G b o b' o' hT hP hKT hKP hG hB hfp hft hct hlen
 obtain ⟨k, s, n, ps, fs, vs⟩ := p
 obtain ⟨k2, s2, n2, ps2, fs2, vs2⟩ := t
 rw [hga, List.append_nil]
 obtain rfl : k = 11 := hk
 simp only [Ty.k] at hne hk2
 have hk3 : decide (k2 = 12) = false := by simpa using hk2
 have hne2 : decide ((11 : Int) = k2) = false := by simpa using hne
 obtain ⟨A, c, A', c', A'', c'', ⟨x0, x1, x2, x3, x4, x5⟩, -, hLp, hLf, hLv⟩ := hP.six
 obtain ⟨A2, c2, B2, d2, C2, e2, ⟨y0, y1, y2, y3, y4, y5⟩, -, hLt, hLg, hLu⟩ := hT.six
 have hnb := (hKT b (.inr rfl)).2
 have hnb' := (hKP b' (.inr rfl)).2
 have HSW : Hid (∀ wx G', HoldMid w0 w m F G' wx → wx.cell? ⟨b', o', none⟩ = some (.int .i64 11) ∧ wx.cell? ⟨b, o, none⟩ = some (.int .i64 k2)) := Hd fun wx G' hm => by
  obtain ⟨F', _, hb, _⟩ := hm
  exact ⟨but_cell hb hnb' x0, but_cell hb hnb y0⟩
 have HST1 := Hd (HoldMid.start hG).drew
 clear hT hP hKT hKP hG hB hfp hft hct hlen hga hLp hLf hLv hLt hLg hLu hnb hnb' hinf x1 x2 x3 x4 x5 y1 y2 y3 y4 y5
 go_enter Tryz.func43, Tryz.ntmps43
 go_upto_region 3 with fail
 clear x0 y0
 refine wp_region_held_drew (S := (fun w' => w'.cell? ⟨b', o', none⟩ = some (.int .i64 11) ∧ w'.cell? ⟨b, o, none⟩ = some (.int .i64 k2))) (by kernel_rfl) (HSW.out _ _ HST1.out) (fun hHeld => ?_)
 refine Plan.start [0, 1, 2, 3, 4, 5, 6, 7, 8, 9] ?_
 iterate 10 (refine Plan.tk (so rfl) hHeld ?_; try simp only [Act.put, pz1, pz2, pz3])
 refine Plan.done ?_
 refine wpAnyH_done (by kernel_rfl) ?_ _
 clear hHeld
 obtain ⟨z0, z1⟩ := HSW.out _ _ HST1.out
 go_wp2_with fail
 exact bodyPost_end (v := .tuple #[]) (by simp [results, Tryz.results43, go_sem]) rfl ⟨rfl, HST1.out⟩
theorem comp_ks {k : Int} (h : isComp k = true) : k = 11 ∨ k = 12 ∨ k = 17 ∨ k = 13 ∨ k = 14 := by
 unfold isComp at h
 simp only [Bool.or_eq_true, beq_iff_eq] at h
 omega
theorem ins_none {p t : Ty} (hinf : infT p = true) (hcomp : isComp p.k = true) (ht : ¬ t.k = 15) (hne : ¬ p.k = t.k) (h12 : ¬ (p.k = 11 ∧ t.k = 12)) : InsP p t := by
 have hks := comp_ks hcomp
 have hga : gathT p t = [] := by
  rw [gathT_eq, if_neg (by rw [hinf]; decide), if_neg (by omega), if_neg (by omega), if_neg (by rw [hcomp]; decide), if_neg ht, if_neg h12, if_pos hne]
 by_cases hk : p.k = 11
 ·exact ins_none_b hinf (by simpa using hne) hk (by simpa using fun h => h12 ⟨hk, h⟩) hga
 ·exact ins_none_a hinf (by simpa using hne) (by simpa using hk) hga
theorem parts_diff {p t : Ty} (hl : ¬ t.ps.length = p.ps.length) : GatP 75 [] p t := by
 intro K K' w0 w m F G b o b' o' hT hP hKT hKP hG hB hfp hft hct hlen
 obtain ⟨k, s, n, ps, fs, vs⟩ := p
 obtain ⟨k2, s2, n2, ps2, fs2, vs2⟩ := t
 obtain ⟨A, c, A', c', A'', c'', ⟨x0, x1, x2, x3, x4, x5⟩, -, hLp, hLf, hLv⟩ := hP.six
 obtain ⟨A2, c2, B2, d2, C2, e2, ⟨y0, y1, y2, y3, y4, y5⟩, -, hLt, hLg, hLu⟩ := hT.six
 simp only [Ty.ps] at hl
 have hne : decide ((ps2.length : Int) = (ps.length : Int)) = false := by simp; omega
 have hne2 : ((ps2.length : Int) == (ps.length : Int)) = false := by simp; omega
 rw [List.append_nil]
 have hnb := (hKT b (.inr rfl)).2
 have hnb' := (hKP b' (.inr rfl)).2
 have HSW : Hid (∀ wx G', HoldMid w0 w m F G' wx → wx.cell? ⟨b', o' + 3, none⟩ = some (.slice A ps.length c) ∧ wx.cell? ⟨b, o + 3, none⟩ = some (.slice A2 ps2.length c2)) := Hd fun wx G' hm => by
  obtain ⟨F', _, hb, _⟩ := hm
  exact ⟨but_cell hb hnb' x3, but_cell hb hnb y3⟩
 have HST := Hd (HoldMid.start hG).drew
 clear hT hP hKT hKP hG hB hfp hft hct hlen hLp hLf hLv hLt hLg hLu hnb hnb' x0 x1 x2 x3 x4 x5 y0 y1 y2 y3 y4 y5 hl
 go_enter Tryz.func75, Tryz.ntmps75
 go_upto_region 0 with fail
 refine wp_region_held_drew (S := (fun w' => w'.cell? ⟨b', o' + 3, none⟩ = some (.slice A ps.length c) ∧ w'.cell? ⟨b, o + 3, none⟩ = some (.slice A2 ps2.length c2))) (by kernel_rfl) (HSW.out _ _ HST.out) (fun hHeld => ?_)
 refine Plan.start [0, 1, 2, 3, 4, 5, 6, 7, 8, 9, 10] ?_
 iterate 11 (refine Plan.tk (so rfl) hHeld ?_; try simp only [Act.put, pz1, pz2, pz3])
 refine Plan.done ?_
 refine wpAnyH_done (by kernel_rfl) ?_ _
 clear hHeld
 go_wp2_with fail
 exact bodyPost_end (v := .tuple #[]) (by simp [results, Tryz.results75, go_sem]) rfl ⟨rfl, HST.out⟩
theorem ins_rows {p t : Ty} {L : List (ByteArray × Ty)} (hk : p.k = 12) (hk2 : t.k = 12) (hinf : infT p = true) (hga : gathT p t = L) (hpar : GatP 75 L p t) : InsP p t := by
 intro K K' w0 w m F G b o b' o' hT hP hKT hKP hG hB hfp hft hct hlen
 obtain ⟨k, s, n, ps, fs, vs⟩ := p
 obtain ⟨k2, s2, n2, ps2, fs2, vs2⟩ := t
 obtain rfl : k = 12 := hk
 obtain rfl : k2 = 12 := hk2
 rw [hga] at hlen ⊢
 have KC : Hid (∀ wr, HoldMid w0 w m F G wr → Calls Tryz.prog 75 #[.map (some m), .pointer (some ⟨b, o, none⟩), .pointer (some ⟨b', o', none⟩)] wr fun e w' => e = .returned (.tuple #[]) ∧ HoldMid w0 w m F (G ++ L) w') := Hd fun wr hm => GatP.go hpar hm hT hP hKT hKP hB hfp hft hct hlen
 obtain ⟨A, c, A', c', A'', c'', ⟨x0, x1, x2, x3, x4, x5⟩, -, hLp, hLf, hLv⟩ := hP.six
 obtain ⟨A2, c2, B2, d2, C2, e2, ⟨y0, y1, y2, y3, y4, y5⟩, -, hLt, hLg, hLu⟩ := hT.six
 have hnb := (hKT b (.inr rfl)).2
 have hnb' := (hKP b' (.inr rfl)).2
 have HSW : Hid (∀ wx G', HoldMid w0 w m F G' wx → wx.cell? ⟨b', o', none⟩ = some (.int .i64 12) ∧ wx.cell? ⟨b, o, none⟩ = some (.int .i64 12)) := Hd fun wx G' hm => by
  obtain ⟨F', _, hb, _⟩ := hm
  exact ⟨but_cell hb hnb' x0, but_cell hb hnb y0⟩
 have HST1 := Hd (HoldMid.start hG).drew
 clear hT hP hKT hKP hG hB hfp hft hct hlen hga hLp hLf hLv hLt hLg hLu hnb hnb' hinf hpar x1 x2 x3 x4 x5 y1 y2 y3 y4 y5
 go_enter Tryz.func43, Tryz.ntmps43
 go_upto_region 3 with fail
 clear x0 y0
 refine wp_region_held_drew (S := (fun w' => w'.cell? ⟨b', o', none⟩ = some (.int .i64 12) ∧ w'.cell? ⟨b, o, none⟩ = some (.int .i64 12))) (by kernel_rfl) (HSW.out _ _ HST1.out) (fun hHeld => ?_)
 refine Plan.start [0, 1, 2, 3, 4, 5, 6, 7, 8, 9] ?_
 iterate 10 (refine Plan.tk (so rfl) hHeld ?_; try simp only [Act.put, pz1, pz2, pz3])
 refine Plan.done ?_
 refine wpAnyH_done (by kernel_rfl) ?_ _
 clear hHeld
 obtain ⟨z0, z1⟩ := HSW.out _ _ HST1.out
 go_wp2_with fail
 refine (KC.out _ HST1.out).mono ?_
 rintro e w9 ⟨rfl, hm2⟩
 have HM2 := Hd hm2
 clear hm2
 go_wp2_with fail
 exact bodyPost_end (v := .tuple #[]) (by simp [results, Tryz.results43, go_sem]) rfl ⟨rfl, HM2.out⟩
theorem ins_ref {p t : Ty} {L : List (ByteArray × Ty)} (hk : p.k = 17) (hk2 : t.k = 17) (ht : p.t = t.t) (hinf : infT p = true) (hga : gathT p t = L) (hpar : GatP 75 L p t) : InsP p t := by
 intro K K' w0 w m F G b o b' o' hT hP hKT hKP hG hB hfp hft hct hlen
 obtain ⟨k, s, n, ps, fs, vs⟩ := p
 obtain ⟨k2, s2, n2, ps2, fs2, vs2⟩ := t
 obtain rfl : k = 17 := hk
 obtain rfl : k2 = 17 := hk2
 rw [hga] at hlen ⊢
 have hs : s = s2 := ht
 have hs2 : (s.toList == s2.toList) = true := by rw [bytesEq]; exact decide_eq_true hs
 clear ht
 have KC : Hid (∀ wr, HoldMid w0 w m F G wr → Calls Tryz.prog 75 #[.map (some m), .pointer (some ⟨b, o, none⟩), .pointer (some ⟨b', o', none⟩)] wr fun e w' => e = .returned (.tuple #[]) ∧ HoldMid w0 w m F (G ++ L) w') := Hd fun wr hm => GatP.go hpar hm hT hP hKT hKP hB hfp hft hct hlen
 obtain ⟨A, c, A', c', A'', c'', ⟨x0, x1, x2, x3, x4, x5⟩, -, hLp, hLf, hLv⟩ := hP.six
 obtain ⟨A2, c2, B2, d2, C2, e2, ⟨y0, y1, y2, y3, y4, y5⟩, -, hLt, hLg, hLu⟩ := hT.six
 have hnb := (hKT b (.inr rfl)).2
 have hnb' := (hKP b' (.inr rfl)).2
 have HSW : Hid (∀ wx G', HoldMid w0 w m F G' wx → wx.cell? ⟨b', o', none⟩ = some (.int .i64 17) ∧ wx.cell? ⟨b', o' + 1, none⟩ = some (.string s) ∧ wx.cell? ⟨b, o, none⟩ = some (.int .i64 17) ∧ wx.cell? ⟨b, o + 1, none⟩ = some (.string s2)) := Hd fun wx G' hm => by
  obtain ⟨F', _, hb, _⟩ := hm
  exact ⟨but_cell hb hnb' x0, but_cell hb hnb' x1, but_cell hb hnb y0, but_cell hb hnb y1⟩
 have HST1 := Hd (HoldMid.start hG).drew
 clear hT hP hKT hKP hG hB hfp hft hct hlen hga hLp hLf hLv hLt hLg hLu hnb hnb' hinf hpar x1 x2 x3 x4 x5 y1 y2 y3 y4 y5
 go_enter Tryz.func43, Tryz.ntmps43
 go_upto_region 3 with fail
 clear x0 y0 hs
 refine wp_region_held_drew (S := (fun w' => w'.cell? ⟨b', o', none⟩ = some (.int .i64 17) ∧ w'.cell? ⟨b', o' + 1, none⟩ = some (.string s) ∧ w'.cell? ⟨b, o, none⟩ = some (.int .i64 17) ∧ w'.cell? ⟨b, o + 1, none⟩ = some (.string s2))) (by kernel_rfl) (HSW.out _ _ HST1.out) (fun hHeld => ?_)
 refine Plan.start [0, 1, 2, 3, 4, 5, 6, 7, 8, 9] ?_
 iterate 10 (refine Plan.tk (so rfl) hHeld ?_; try simp only [Act.put, pz1, pz2, pz3])
 refine Plan.done ?_
 refine wpAnyH_done (by kernel_rfl) ?_ _
 clear hHeld
 obtain ⟨z0, z1, z2, z3⟩ := HSW.out _ _ HST1.out
 have HST2 := Hd HST1.out.drew
 go_upto_region 8 with fail
 clear z0 z1 z2 z3
 refine wp_region_held_drew (S := (fun w' => w'.cell? ⟨b', o', none⟩ = some (.int .i64 17) ∧ w'.cell? ⟨b', o' + 1, none⟩ = some (.string s) ∧ w'.cell? ⟨b, o, none⟩ = some (.int .i64 17) ∧ w'.cell? ⟨b, o + 1, none⟩ = some (.string s2))) (by kernel_rfl) (HSW.out _ _ HST2.out) (fun hHeld => ?_)
 refine Plan.start [0, 1, 2, 3, 4, 5, 6, 7, 8, 9, 10, 11, 12, 13, 14, 15, 16] ?_
 iterate 17 (refine Plan.tk (so rfl) hHeld ?_; try simp only [Act.put, pz1, pz2, pz3])
 refine Plan.done ?_
 refine wpAnyH_done (by kernel_rfl) ?_ _
 clear hHeld
 obtain ⟨z0, z1, z2, z3⟩ := HSW.out _ _ HST2.out
 go_wp2_with fail
 refine (KC.out _ HST2.out).mono ?_
 rintro e w9 ⟨rfl, hm2⟩
 have HM2 := Hd hm2
 clear hm2
 go_wp2_with fail
 exact bodyPost_end (v := .tuple #[]) (by simp [results, Tryz.results43, go_sem]) rfl ⟨rfl, HM2.out⟩
theorem ins_ref_no {p t : Ty} (hk : p.k = 17) (hk2 : t.k = 17) (ht : ¬ p.t = t.t) (hinf : infT p = true) (hga : gathT p t = []) : InsP p t := by
 intro K K' w0 w m F G b o b' o' hT hP hKT hKP hG hB hfp hft hct hlen
 obtain ⟨k, s, n, ps, fs, vs⟩ := p
 obtain ⟨k2, s2, n2, ps2, fs2, vs2⟩ := t
 obtain rfl : k = 17 := hk
 obtain rfl : k2 = 17 := hk2
 rw [hga, List.append_nil]
 have hs : ¬ s = s2 := ht
 have hs2 : (s.toList == s2.toList) = false := by rw [bytesEq]; exact decide_eq_false hs
 clear ht
 obtain ⟨A, c, A', c', A'', c'', ⟨x0, x1, x2, x3, x4, x5⟩, -, hLp, hLf, hLv⟩ := hP.six
 obtain ⟨A2, c2, B2, d2, C2, e2, ⟨y0, y1, y2, y3, y4, y5⟩, -, hLt, hLg, hLu⟩ := hT.six
 have hnb := (hKT b (.inr rfl)).2
 have hnb' := (hKP b' (.inr rfl)).2
 have HSW : Hid (∀ wx G', HoldMid w0 w m F G' wx → wx.cell? ⟨b', o', none⟩ = some (.int .i64 17) ∧ wx.cell? ⟨b', o' + 1, none⟩ = some (.string s) ∧ wx.cell? ⟨b, o, none⟩ = some (.int .i64 17) ∧ wx.cell? ⟨b, o + 1, none⟩ = some (.string s2)) := Hd fun wx G' hm => by
  obtain ⟨F', _, hb, _⟩ := hm
  exact ⟨but_cell hb hnb' x0, but_cell hb hnb' x1, but_cell hb hnb y0, but_cell hb hnb y1⟩
 have HST1 := Hd (HoldMid.start hG).drew
 clear hT hP hKT hKP hG hB hfp hft hct hlen hga hLp hLf hLv hLt hLg hLu hnb hnb' hinf x1 x2 x3 x4 x5 y1 y2 y3 y4 y5
 go_enter Tryz.func43, Tryz.ntmps43
 go_upto_region 3 with fail
 clear x0 y0 hs
 refine wp_region_held_drew (S := (fun w' => w'.cell? ⟨b', o', none⟩ = some (.int .i64 17) ∧ w'.cell? ⟨b', o' + 1, none⟩ = some (.string s) ∧ w'.cell? ⟨b, o, none⟩ = some (.int .i64 17) ∧ w'.cell? ⟨b, o + 1, none⟩ = some (.string s2))) (by kernel_rfl) (HSW.out _ _ HST1.out) (fun hHeld => ?_)
 refine Plan.start [0, 1, 2, 3, 4, 5, 6, 7, 8, 9] ?_
 iterate 10 (refine Plan.tk (so rfl) hHeld ?_; try simp only [Act.put, pz1, pz2, pz3])
 refine Plan.done ?_
 refine wpAnyH_done (by kernel_rfl) ?_ _
 clear hHeld
 obtain ⟨z0, z1, z2, z3⟩ := HSW.out _ _ HST1.out
 have HST2 := Hd HST1.out.drew
 go_upto_region 8 with fail
 clear z0 z1 z2 z3
 refine wp_region_held_drew (S := (fun w' => w'.cell? ⟨b', o', none⟩ = some (.int .i64 17) ∧ w'.cell? ⟨b', o' + 1, none⟩ = some (.string s) ∧ w'.cell? ⟨b, o, none⟩ = some (.int .i64 17) ∧ w'.cell? ⟨b, o + 1, none⟩ = some (.string s2))) (by kernel_rfl) (HSW.out _ _ HST2.out) (fun hHeld => ?_)
 refine Plan.start [0, 1, 2, 3, 4, 5, 6, 7, 8, 9, 10, 11, 12, 13, 14, 15, 16] ?_
 iterate 17 (refine Plan.tk (so rfl) hHeld ?_; try simp only [Act.put, pz1, pz2, pz3])
 refine Plan.done ?_
 refine wpAnyH_done (by kernel_rfl) ?_ _
 clear hHeld
 obtain ⟨z0, z1, z2, z3⟩ := HSW.out _ _ HST2.out
 go_wp2_with fail
 exact bodyPost_end (v := .tuple #[]) (by simp [results, Tryz.results43, go_sem]) rfl ⟨rfl, HST2.out⟩
theorem ins_funs {p t : Ty} (hk : p.k = 13) (hk2 : t.k = 13) (hv : t.vs = []) (hinf : infT p = true) (h0 : 0 < p.ps.length) (h1 : 0 < t.ps.length) (ih : ∀ q u, q ∈ p.ps → u ∈ t.ps → HoldP q u) : InsP p t := by
 intro K K' w0 w m F G b o b' o' hT hP hKT hKP hG hB hfp hft hct hlen
 obtain ⟨k, s, n, ps, fs, vs⟩ := p
 obtain ⟨k2, s2, n2, ps2, fs2, vs2⟩ := t
 obtain rfl : k = 13 := hk
 obtain rfl : k2 = 13 := hk2
 obtain rfl : vs2 = [] := hv
 simp only [Ty.ps] at h0 h1 ih
 obtain ⟨lp, hlp⟩ : ∃ x, ps.length = x + 1 := ⟨ps.length - 1, by omega⟩
 obtain ⟨lt, hlt⟩ : ∃ x, ps2.length = x + 1 := ⟨ps2.length - 1, by omega⟩
 have hga : gathT (.mk 13 s n ps fs vs) (.mk 13 s2 n2 ps2 fs2 []) = (List.zipWith gathT ps.dropLast ps2.dropLast).flatten ++ gathT (ps[lp]'(by omega)) (ps2[lt]'(by omega)) := by
  rw [gathT_eq, if_neg (by rw [hinf]; decide), if_neg (by show ¬ ((13 : Int) = 22); decide), if_neg (by show ¬ ((13 : Int) = 15); decide), if_neg (by show ¬ (isComp 13 = false); decide), if_neg (by show ¬ ((13 : Int) = 15); decide), if_neg (by show ¬ ((13 : Int) = 11 ∧ (13 : Int) = 12); decide), if_neg (by show ¬ ((13 : Int) ≠ 13); decide), if_neg (by show ¬ ((13 : Int) = 11); decide), if_neg (by show ¬ ((13 : Int) = 12 ∨ ((13 : Int) = 17 ∧ _)); intro h; rcases h with h | ⟨h, _⟩ <;> exact absurd h (by decide)), if_pos ⟨show (Ty.mk 13 s n ps fs vs).k = 13 from rfl, rfl⟩]
  show (List.zipWith gathT ps.dropLast ps2.dropLast).flatten ++ (match ps.getLast?, ps2.getLast? with
   | some q, some u => gathT q u
   | _, _ => []) = _
  rw [List.getLast?_eq_getElem?, List.getLast?_eq_getElem?, show ps.length - 1 = lp by omega, show ps2.length - 1 = lt by omega, List.getElem?_eq_getElem (by omega), List.getElem?_eq_getElem (by omega)]
 rw [hga] at hlen ⊢
 rw [List.length_append] at hlen
 obtain ⟨A, c, A', c', A'', c'', ⟨x0, x1, x2, x3, x4, x5⟩, -, hLp, hLf, hLv⟩ := hP.six
 obtain ⟨A2, c2, B2, d2, C2, e2, ⟨y0, y1, y2, y3, y4, y5⟩, -, hLt, hLg, hLu⟩ := hT.six
 have hll := hLp.short
 have hll2 := hLt.short
 obtain ⟨pb, po, hA, hKb, hat⟩ := hLp.at (by omega)
 subst hA
 obtain ⟨qb, qo, hA2, hKb2, hat2⟩ := hLt.at (by omega)
 subst hA2
 simp only [List.length_nil] at y5
 obtain ⟨nn, hnn⟩ : ∃ x, x = min lt lp := ⟨_, rfl⟩
 have hnz : (List.zipWith gathT ps.dropLast ps2.dropLast).length = nn := by rw [List.length_zipWith, List.length_dropLast, List.length_dropLast]; omega
 have hnb := (hKT b (.inr rfl)).2
 have hnb' := (hKP b' (.inr rfl)).2
 have HSW : Hid (∀ wx G', HoldMid w0 w m F G' wx → (wx.cell? ⟨b', o', none⟩ = some (.int .i64 13) ∧ wx.cell? ⟨b', o' + 3, none⟩ = some (.slice (some ⟨pb, po, none⟩) ps.length c)) ∧ (wx.cell? ⟨b, o, none⟩ = some (.int .i64 13) ∧ wx.cell? ⟨b, o + 3, none⟩ = some (.slice (some ⟨qb, qo, none⟩) ps2.length c2) ∧ wx.cell? ⟨b, o + 5, none⟩ = some (.slice C2 0 e2))) := Hd fun wx G' hm => by
  obtain ⟨F', _, hb, _⟩ := hm
  exact ⟨⟨but_cell hb hnb' x0, but_cell hb hnb' x3⟩, but_cell hb hnb y0, but_cell hb hnb y3, but_cell hb hnb y5⟩
 have KQ : Hid (∀ i (hi : i < nn) wr, HoldMid w0 w m F (G ++ ((List.zipWith gathT ps.dropLast ps2.dropLast).take i).flatten) wr → Calls Tryz.prog 25 #[.map (some m), .pointer (some ⟨qb, qo + i * 6, none⟩), .pointer (some ⟨pb, po + i * 6, none⟩)] wr fun e w' => e = .returned (.tuple #[]) ∧ HoldMid w0 w m F (G ++ ((List.zipWith gathT ps.dropLast ps2.dropLast).take (i + 1)).flatten) w') := Hd fun i hi wr hm => by
  have h3 := take_flat_le (List.zipWith gathT ps.dropLast ps2.dropLast) (i + 1)
  rw [zip_part gathT (show i < ps.dropLast.length by rw [List.length_dropLast]; omega) (show i < ps2.dropLast.length by rw [List.length_dropLast]; omega), List.getElem_dropLast, List.getElem_dropLast] at h3 ⊢
  rw [← List.append_assoc]
  rw [List.length_append] at h3
  exact GatP.go (ih _ _ (List.getElem_mem _) (List.getElem_mem _)) hm (hat2 i (by omega)) (hat i (by omega)) (fun x hx => hKT x (hx.elim .inl fun e => .inl (by rw [e]; exact hKb2))) (fun x hx => hKP x (hx.elim .inl fun e => .inl (by rw [e]; exact hKb))) hB (form_ps hfp _ (List.getElem_mem _)) (form_ps hft _ (List.getElem_mem _)) (by have h1 := cntL_mem (List.getElem_mem (l := ps) (n := i) (by omega)); have h2 := cnt_ps (.mk 13 s n ps fs vs); have h3 := cntL_mem (List.getElem_mem (l := ps2) (n := i) (by omega)); have h4 := cnt_ps (.mk 13 s2 n2 ps2 fs2 []); simp only [Ty.ps] at h2 h4; omega) (by rw [List.length_append]; omega)
 have KB : Hid (∀ wr, HoldMid w0 w m F (G ++ (List.zipWith gathT ps.dropLast ps2.dropLast).flatten) wr → Calls Tryz.prog 25 #[.map (some m), .pointer (some ⟨qb, qo + lt * 6, none⟩), .pointer (some ⟨pb, po + lp * 6, none⟩)] wr fun e w' => e = .returned (.tuple #[]) ∧ HoldMid w0 w m F (G ++ ((List.zipWith gathT ps.dropLast ps2.dropLast).flatten ++ gathT (ps[lp]'(by omega)) (ps2[lt]'(by omega)))) w') := Hd fun wr hm => by
  rw [← List.append_assoc]
  exact GatP.go (ih _ _ (List.getElem_mem _) (List.getElem_mem _)) hm (hat2 lt (by omega)) (hat lp (by omega)) (fun x hx => hKT x (hx.elim .inl fun e => .inl (by rw [e]; exact hKb2))) (fun x hx => hKP x (hx.elim .inl fun e => .inl (by rw [e]; exact hKb))) hB (form_ps hfp _ (List.getElem_mem _)) (form_ps hft _ (List.getElem_mem _)) (by have h1 := cntL_mem (List.getElem_mem (l := ps) (n := lp) (by omega)); have h2 := cnt_ps (.mk 13 s n ps fs vs); have h3 := cntL_mem (List.getElem_mem (l := ps2) (n := lt) (by omega)); have h4 := cnt_ps (.mk 13 s2 n2 ps2 fs2 []); simp only [Ty.ps] at h2 h4; omega) (by rw [List.length_append]; omega)
 have HST := Hd (HoldMid.start hG)
 have HST2 : Hid (HoldMid w0 w m F (G ++ ((List.zipWith gathT ps.dropLast ps2.dropLast).take 0).flatten) w.drew.drew.drew) := Hd (by rw [List.take_zero, List.flatten_nil, List.append_nil]; exact (HoldMid.start hG).drew.drew.drew)
 have HGZ := Hd hnz
 have HNN : Hid (nn = min lt lp ∧ ps.length = lp + 1 ∧ ps2.length = lt + 1 ∧ ps.length ≤ 1000000000000000) := Hd ⟨hnn, hlp, hlt, hll⟩
 have wp1 : IntKind.i64.wrap ((ps.length : Int) - 1) = (lp : Int) := by rw [IntKind.wrap_i64]; have h := wrap_in (n := (ps.length : Int) - 1) (by omega) (by omega); unfold wrap64 at h; rw [h]; omega
 have wp2 : IntKind.i64.wrap ((ps2.length : Int) - 1) = (lt : Int) := by rw [IntKind.wrap_i64]; have h := wrap_in (n := (ps2.length : Int) - 1) (by omega) (by omega); unfold wrap64 at h; rw [h]; omega
 have wm : min (lt : Int) (lp : Int) = (nn : Int) := by omega
 clear hT hP hKT hKP hG hB hfp hft hct hlen hga hLp hLf hLv hLt hLg hLu hat hat2 hKb hKb2 ih hnb hnb' hinf x1 x2 x4 x5 y1 y2 y4 hll hll2 hnz hnn h0 h1
 generalize gathT (ps[lp]'(by omega)) (ps2[lt]'(by omega)) = gl at KB ⊢
 generalize (List.zipWith gathT ps.dropLast ps2.dropLast) = gz at KQ KB HST2 HGZ ⊢
 clear hlp hlt
 go_enter Tryz.func43, Tryz.ntmps43
 go_upto_region 3 with fail
 clear x0 x3 y0 y3 y5
 refine wp_region_held_drew (S := (fun w' => (w'.cell? ⟨b', o', none⟩ = some (.int .i64 13) ∧ w'.cell? ⟨b', o' + 3, none⟩ = some (.slice (some ⟨pb, po, none⟩) ps.length c)) ∧ (w'.cell? ⟨b, o, none⟩ = some (.int .i64 13) ∧ w'.cell? ⟨b, o + 3, none⟩ = some (.slice (some ⟨qb, qo, none⟩) ps2.length c2) ∧ w'.cell? ⟨b, o + 5, none⟩ = some (.slice C2 0 e2)))) (by kernel_rfl) (HSW.out _ _ HST.out.drew) (fun hHeld => ?_)
 refine Plan.start [0, 1, 2, 3, 4, 5, 6, 7, 8, 9] ?_
 iterate 10 (refine Plan.tk (so rfl) hHeld ?_; try simp only [Act.put, pz1, pz2, pz3])
 refine Plan.done ?_
 refine wpAnyH_done (by kernel_rfl) ?_ _
 clear hHeld
 obtain ⟨⟨z0, z3⟩, v0, v3, v5⟩ := HSW.out _ _ HST.out.drew
 go_upto_region 8 with fail
 clear z0 z3 v0 v3 v5
 refine wp_region_held_drew (S := (fun w' => (w'.cell? ⟨b', o', none⟩ = some (.int .i64 13) ∧ w'.cell? ⟨b', o' + 3, none⟩ = some (.slice (some ⟨pb, po, none⟩) ps.length c)) ∧ (w'.cell? ⟨b, o, none⟩ = some (.int .i64 13) ∧ w'.cell? ⟨b, o + 3, none⟩ = some (.slice (some ⟨qb, qo, none⟩) ps2.length c2) ∧ w'.cell? ⟨b, o + 5, none⟩ = some (.slice C2 0 e2)))) (by kernel_rfl) (HSW.out _ _ HST.out.drew.drew) (fun hHeld => ?_)
 refine Plan.start [0, 1, 2, 3, 4, 5] ?_
 iterate 6 (refine Plan.tk (so rfl) hHeld ?_; try simp only [Act.put, pz1, pz2, pz3])
 refine Plan.done ?_
 refine Plan.start [6, 7, 8, 9, 10, 11, 12, 13, 14] ?_
 iterate 9 (refine Plan.take (v := undef) (so rfl) (by kernel_rfl) (by kernel_rfl) (by kernel_rfl) (fun _ _ _ h => h) (Or.inr ⟨by rfl, rfl⟩) hHeld ?_; try simp only [Act.put, pz1, pz2, pz3])
 refine Plan.done ?_
 refine Plan.start [15, 16] ?_
 iterate 2 (refine Plan.tk (so rfl) hHeld ?_; try simp only [Act.put, pz1, pz2, pz3])
 refine Plan.done ?_
 refine wpAnyH_done (by kernel_rfl) ?_ _
 clear hHeld
 obtain ⟨⟨z0, z3⟩, v0, v3, v5⟩ := HSW.out _ _ HST.out.drew.drew
 go_upto_region 11 with fail
 clear z0 z3 v0 v3 v5
 refine wp_region_held_drew (S := (fun w' => (w'.cell? ⟨b', o', none⟩ = some (.int .i64 13) ∧ w'.cell? ⟨b', o' + 3, none⟩ = some (.slice (some ⟨pb, po, none⟩) ps.length c)) ∧ (w'.cell? ⟨b, o, none⟩ = some (.int .i64 13) ∧ w'.cell? ⟨b, o + 3, none⟩ = some (.slice (some ⟨qb, qo, none⟩) ps2.length c2) ∧ w'.cell? ⟨b, o + 5, none⟩ = some (.slice C2 0 e2)))) (by kernel_rfl) (HSW.out _ _ HST.out.drew.drew.drew) (fun hHeld => ?_)
 refine Plan.start [0, 1, 2, 3, 4, 5, 6, 7, 8, 9, 10, 11, 12, 13] ?_
 iterate 14 (refine Plan.tk (so rfl) hHeld ?_; try simp only [Act.put, pz1, pz2, pz3])
 refine Plan.done ?_
 refine wpAnyH_done (by kernel_rfl) ?_ _
 clear hHeld
 go_wp2_with fail
 go_loopw [127] (fun v wr => ∃ (i : Nat), i ≤ nn ∧ v = .int .i64 i ∧ HoldMid w0 w m F (G ++ (gz.take i).flatten) wr) (fun v _ => nn - (intOf v).toNat)
 case atStart => exact ⟨0, by omega, rfl, HST2.out⟩
 case round =>
  obtain ⟨i, hi, rfl, hm⟩ := hrel
  by_cases hin : i < nn
  ·have t1 : decide ((i : Int) < (nn : Int)) = true := by simp; omega
   have wr2 : wrap64 ((i : Int) + 1) = ((i + 1 : Nat) : Int) := wrap_one (by have := HNN.out; omega)
   have HM := Hd (measI hin)
   have HIn : Hid (i + 1 ≤ nn) := Hd hin
   have HN : Hid (i < nn) := Hd hin
   have i1 : (0 : Int) ≤ (i : Int) := by omega
   have i2 : (i : Int) < (ps.length : Int) := by have := HNN.out; omega
   have i3 : (i : Int) < (ps2.length : Int) := by have := HNN.out; omega
   have HMa := Hd hm.drew
   clear hm
   go_upto_region 15 with fail
   refine wp_region_held_drew (S := (fun w' => (w'.cell? ⟨b', o', none⟩ = some (.int .i64 13) ∧ w'.cell? ⟨b', o' + 3, none⟩ = some (.slice (some ⟨pb, po, none⟩) ps.length c)) ∧ (w'.cell? ⟨b, o, none⟩ = some (.int .i64 13) ∧ w'.cell? ⟨b, o + 3, none⟩ = some (.slice (some ⟨qb, qo, none⟩) ps2.length c2) ∧ w'.cell? ⟨b, o + 5, none⟩ = some (.slice C2 0 e2)))) (by kernel_rfl) (HSW.out _ _ HMa.out) (fun hHeld => ?_)
   refine Plan.start [0, 1, 2, 3, 4, 5, 6, 7, 8, 9, 10, 11, 12] ?_
   iterate 13 (refine Plan.tk (so rfl) hHeld ?_; try simp only [Act.put, pz1, pz2, pz3])
   refine Plan.done ?_
   refine wpAnyH_ready (rs := [13]) (by kernel_rfl) (by simp) ?_
   refine AllReadyH.cons (sd (some 143) rfl) (fun Kx hK => ?_) AllReadyH.nil
   go_simp
   refine (KQ.out i HN.out _ HMa.out).mono ?_
   rintro e w9 ⟨rfl, hm2⟩
   have HM9 := Hd hm2
   clear hm2
   go_wp2_with fail
   refine hK.out _ _ (HSW.out _ _ HM9.out) (fun hHeld => ?_)
   clear hK Kx
   try simp only [Act.put, pz1, pz2, pz3]
   refine wpAnyH_done (by kernel_rfl) ?_ _
   clear hHeld
   go_wp2_with fail
   refine ⟨⟨i + 1, HIn.out, by first | rfl | rw [wr2], HM9.out⟩, ?_⟩
   first | exact HM.out | (rw [wr2]; exact HM.out)
  ·have t1 : decide ((i : Int) < (nn : Int)) = false := by simp; omega
   have HMb : Hid (HoldMid w0 w m F (G ++ gz.flatten) wr.drew) := Hd (by have h := hm.drew; rw [List.take_of_length_le (by have := HGZ.out; omega)] at h; exact h)
   have j1 : (0 : Int) ≤ (lp : Int) := by omega
   have j2 : (lp : Int) < (ps.length : Int) := by have := HNN.out; omega
   have j3 : (0 : Int) ≤ (lt : Int) := by omega
   have j4 : (lt : Int) < (ps2.length : Int) := by have := HNN.out; omega
   clear hm hi
   go_upto_region 17 with fail
   refine wp_region_held_drew (S := (fun w' => (w'.cell? ⟨b', o', none⟩ = some (.int .i64 13) ∧ w'.cell? ⟨b', o' + 3, none⟩ = some (.slice (some ⟨pb, po, none⟩) ps.length c)) ∧ (w'.cell? ⟨b, o, none⟩ = some (.int .i64 13) ∧ w'.cell? ⟨b, o + 3, none⟩ = some (.slice (some ⟨qb, qo, none⟩) ps2.length c2) ∧ w'.cell? ⟨b, o + 5, none⟩ = some (.slice C2 0 e2)))) (by kernel_rfl) (HSW.out _ _ HMb.out) (fun hHeld => ?_)
   refine Plan.start [0, 1, 2, 3, 4, 5, 6, 7, 8, 9, 10, 11, 12] ?_
   iterate 13 (refine Plan.tk (so rfl) hHeld ?_; try simp only [Act.put, pz1, pz2, pz3])
   refine Plan.done ?_
   refine wpAnyH_ready (rs := [13]) (by kernel_rfl) (by simp) ?_
   refine AllReadyH.cons (sd (some 158) rfl) (fun Kx hK => ?_) AllReadyH.nil
   go_simp
   refine (KB.out _ HMb.out).mono ?_
   rintro e w10 ⟨rfl, hm2⟩
   have HM10 := Hd hm2
   clear hm2
   go_wp2_with fail
   refine hK.out _ _ (HSW.out _ _ HM10.out) (fun hHeld => ?_)
   clear hK Kx
   try simp only [Act.put, pz1, pz2, pz3]
   refine wpAnyH_done (by kernel_rfl) ?_ _
   clear hHeld
   go_wp2_with fail
   exact bodyPost_end (v := .tuple #[]) (by simp [results, Tryz.results43, go_sem]) rfl ⟨rfl, HM10.out⟩
end Go.Proofs.YtjbccjmpebgdjaaGreatDoor
