import Derived.Test.YtlooadichhpgeaaGreatDoorMe44
namespace Go.Proofs.YtlooadichhpgeaaGreatDoor
open Go.RowKit
set_option maxRecDepth 100000 in
set_option maxHeartbeats 16000000 in
theorem ins_row {p t : Ty} (hk : p.k = 12) (hk2 : t.k = 12) (hinf : infT p = true) (hl : t.ps.length = p.ps.length) (h0 : 0 < p.ps.length) (ih : ∀ q u, q ∈ p.ps → u ∈ t.ps → HoldP q u) : InsP p t := by
 have hpar := parts_same hl h0 ih
 intro K K' w0 w m F G b o b' o' hT hP hKT hKP hG hB hfp hft hct hlen
 obtain ⟨k, s, n, ps, fs, vs⟩ := p
 obtain ⟨k2, s2, n2, ps2, fs2, vs2⟩ := t
 obtain rfl : k = 12 := hk
 obtain rfl : k2 = 12 := hk2
 have hga : gathT (.mk 12 s n ps fs vs) (.mk 12 s2 n2 ps2 fs2 vs2) = (List.zipWith gathT ps ps2).flatten := by
  rw [gathT_eq, if_neg (by rw [hinf]; decide), if_neg (by show ¬ ((12 : Int) = 22); decide), if_neg (by show ¬ ((12 : Int) = 15); decide), if_neg (by show ¬ (isComp 12 = false); decide), if_neg (by show ¬ ((12 : Int) = 15); decide), if_neg (by show ¬ ((12 : Int) = 11 ∧ (12 : Int) = 12); decide), if_neg (by show ¬ ((12 : Int) ≠ 12); decide), if_neg (by show ¬ ((12 : Int) = 11); decide), if_pos (Or.inl (show (Ty.mk 12 s n ps fs vs).k = 12 from rfl)), if_pos hl]
  rfl
 rw [hga] at hlen ⊢
 simp only [Ty.ps] at hpar
 have KC : Hid (∀ wr, HoldMid w0 w m F G wr → Calls Tryz.prog 74 #[.map (some m), .pointer (some ⟨b, o, none⟩), .pointer (some ⟨b', o', none⟩)] wr fun e w' => e = .returned (.tuple #[]) ∧ HoldMid w0 w m F (G ++ (List.zipWith gathT ps ps2).flatten) w') := Lib.hid fun wr hm => GatP.go hpar hm hT hP hKT hKP hB hfp hft hct hlen
 obtain ⟨A, c, A', c', A'', c'', ⟨x0, x1, x2, x3, x4, x5⟩, -, hLp, hLf, hLv⟩ := hP.six
 obtain ⟨A2, c2, B2, d2, C2, e2, ⟨y0, y1, y2, y3, y4, y5⟩, -, hLt, hLg, hLu⟩ := hT.six
 have hnb := (hKT b (.inr rfl)).2
 have hnb' := (hKP b' (.inr rfl)).2
 have HSW : Hid (∀ wx G', HoldMid w0 w m F G' wx → wx.cell? ⟨b', o', none⟩ = some (.int .i64 12) ∧ wx.cell? ⟨b, o, none⟩ = some (.int .i64 12)) := Lib.hid fun wx G' hm => by
  obtain ⟨F', _, hb, _⟩ := hm
  exact ⟨but_cell hb hnb' x0, but_cell hb hnb y0⟩
 have HST1 := Lib.hid (HoldMid.start hG).drew
 clear hT hP hKT hKP hG hB hfp hft hct hlen hga hLp hLf hLv hLt hLg hLu ih hnb hnb' hinf hpar hl h0 x1 x2 x3 x4 x5 y1 y2 y3 y4 y5
 generalize (List.zipWith gathT ps ps2).flatten = gg at KC ⊢
 go_enter Tryz.func57, Tryz.ntmps57
 go_upto_region 3 with fail
 clear x0 y0
 refine wp_region_held_drew (S := (fun w' => w'.cell? ⟨b', o', none⟩ = some (.int .i64 12) ∧ w'.cell? ⟨b, o, none⟩ = some (.int .i64 12))) (by kernel_rfl) (HSW.out _ _ HST1.out) (fun hHeld => ?_)
 refine Plan.start [0, 1, 2, 3, 4, 5, 6, 7, 8, 9] ?_
 iterate 10 ((refine Plan.take (v := ?_) (so rfl) (by kernel_rfl) (by kernel_rfl) (by kernel_rfl) (fun _ _ _ h => h) (Or.inl ⟨by rfl, ?_⟩) hHeld ?_; rotate_left; focus (intro w' hSw; (try dsimp only at hSw); go_simp; try with_reducible rfl)); try simp only [Act.put, List.setIfInBounds_toArray, List.set_cons_zero, List.set_cons_succ])
 refine Plan.done ?_
 refine wpAnyH_done (by kernel_rfl) ?_ _
 clear hHeld
 obtain ⟨z0, z1⟩ := HSW.out _ _ HST1.out
 go_wp2_with fail
 refine (KC.out _ HST1.out).mono ?_
 rintro e w9 ⟨rfl, hm2⟩
 have HM2 := Lib.hid hm2
 clear hm2 z0 z1
 go_wp2_with fail
 exact bodyPost_end (v := .tuple #[]) (by simp [results, Tryz.results57, go_sem]) rfl ⟨rfl, HM2.out⟩
set_option maxRecDepth 100000 in
set_option maxHeartbeats 16000000 in
theorem ins_func {s : ByteArray} {n : Int} {q0 q1 : Ty} {fs : List (ByteArray × Int × Ty)} {vs : List (ByteArray × List Ty)} {s2 : ByteArray} {n2 : Int} {u0 u1 : Ty} {fs2 : List (ByteArray × Int × Ty)} (hinf : infT (.mk 13 s n [q0, q1] fs vs) = true) (ih0 : HoldP q0 u0) (ih1 : HoldP q1 u1) : InsP (.mk 13 s n [q0, q1] fs vs) (.mk 13 s2 n2 [u0, u1] fs2 []) := by
 intro K K' w0 w m F G b o b' o' hT hP hKT hKP hG hB hfp hft hct hlen
 have hga : gathT (.mk 13 s n [q0, q1] fs vs) (.mk 13 s2 n2 [u0, u1] fs2 []) = gathT q0 u0 ++ gathT q1 u1 := by
  rw [gathT_eq, if_neg (by rw [hinf]; decide), if_neg (by show ¬ ((13 : Int) = 22); decide), if_neg (by show ¬ ((13 : Int) = 15); decide), if_neg (by show ¬ (isComp 13 = false); decide), if_neg (by show ¬ ((13 : Int) = 15); decide), if_neg (by show ¬ ((13 : Int) = 11 ∧ (13 : Int) = 12); decide), if_neg (by show ¬ ((13 : Int) ≠ 13); decide), if_neg (by show ¬ ((13 : Int) = 11); decide), if_neg (by show ¬ ((13 : Int) = 12 ∨ ((13 : Int) = 17 ∧ _)); intro h; rcases h with h | ⟨h, _⟩ <;> exact absurd h (by decide)), if_pos ⟨show (Ty.mk 13 s n [q0, q1] fs vs).k = 13 from rfl, rfl⟩]
  show (List.zipWith gathT [q0] [u0]).flatten ++ gathT q1 u1 = _
  simp
 rw [hga] at hlen ⊢
 rw [List.length_append] at hlen
 obtain ⟨A, c, A', c', A'', c'', ⟨x0, x1, x2, x3, x4, x5⟩, -, hLp, hLf, hLv⟩ := hP.six
 obtain ⟨A2, c2, B2, d2, C2, e2, ⟨y0, y1, y2, y3, y4, y5⟩, -, hLt, hLg, hLu⟩ := hT.six
 obtain ⟨pb, po, hA, hKb, hat⟩ := hLp.at (by simp)
 subst hA
 obtain ⟨qb, qo, hA2, hKb2, hat2⟩ := hLt.at (by simp)
 subst hA2
 have hq0 := hat 0 (by simp)
 have hq1 := hat 1 (by simp)
 have hu0 := hat2 0 (by simp)
 have hu1 := hat2 1 (by simp)
 simp only [Nat.zero_mul, Nat.add_zero, Nat.one_mul, List.getElem_cons_zero, List.getElem_cons_succ] at hq0 hq1 hu0 hu1
 simp only [List.length_cons, List.length_nil, Nat.zero_add, Nat.reduceAdd] at x3 y3 y5
 have hnb := (hKT b (.inr rfl)).2
 have hnb' := (hKP b' (.inr rfl)).2
 have HSW : Hid (∀ wx G', HoldMid w0 w m F G' wx → (wx.cell? ⟨b', o', none⟩ = some (.int .i64 13) ∧ wx.cell? ⟨b', o' + 3, none⟩ = some (.slice (some ⟨pb, po, none⟩) 2 c)) ∧ (wx.cell? ⟨b, o, none⟩ = some (.int .i64 13) ∧ wx.cell? ⟨b, o + 3, none⟩ = some (.slice (some ⟨qb, qo, none⟩) 2 c2) ∧ wx.cell? ⟨b, o + 5, none⟩ = some (.slice C2 0 e2))) := Lib.hid fun wx G' hm => by
  obtain ⟨F', _, hb, _⟩ := hm
  exact ⟨⟨but_cell hb hnb' x0, but_cell hb hnb' x3⟩, but_cell hb hnb y0, but_cell hb hnb y3, but_cell hb hnb y5⟩
 have KA : Hid (∀ wr, HoldMid w0 w m F G wr → Calls Tryz.prog 40 #[.map (some m), .pointer (some ⟨qb, qo, none⟩), .pointer (some ⟨pb, po, none⟩)] wr fun e w' => e = .returned (.tuple #[]) ∧ HoldMid w0 w m F (G ++ gathT q0 u0) w') := Lib.hid fun wr hm => GatP.go (ih0) hm hu0 hq0 (fun x hx => hKT x (hx.elim .inl fun e => .inl (by rw [e]; exact hKb2))) (fun x hx => hKP x (hx.elim .inl fun e => .inl (by rw [e]; exact hKb))) hB (form_ps hfp _ (by simp [Ty.ps])) (form_ps hft _ (by simp [Ty.ps])) (by have h2 := cnt_ps (.mk 13 s n [q0, q1] fs vs); have h4 := cnt_ps (.mk 13 s2 n2 [u0, u1] fs2 []); simp only [Ty.ps, cntL_cons, cntL_nil] at h2 h4; omega) (by omega)
 have KB : Hid (∀ wr, HoldMid w0 w m F (G ++ gathT q0 u0) wr → Calls Tryz.prog 40 #[.map (some m), .pointer (some ⟨qb, qo + 6, none⟩), .pointer (some ⟨pb, po + 6, none⟩)] wr fun e w' => e = .returned (.tuple #[]) ∧ HoldMid w0 w m F (G ++ (gathT q0 u0 ++ gathT q1 u1)) w') := Lib.hid fun wr hm => by
  rw [← List.append_assoc]
  exact GatP.go (ih1) hm hu1 hq1 (fun x hx => hKT x (hx.elim .inl fun e => .inl (by rw [e]; exact hKb2))) (fun x hx => hKP x (hx.elim .inl fun e => .inl (by rw [e]; exact hKb))) hB (form_ps hfp _ (by simp [Ty.ps])) (form_ps hft _ (by simp [Ty.ps])) (by have h2 := cnt_ps (.mk 13 s n [q0, q1] fs vs); have h4 := cnt_ps (.mk 13 s2 n2 [u0, u1] fs2 []); simp only [Ty.ps, cntL_cons, cntL_nil] at h2 h4; omega) (by rw [List.length_append]; omega)
 have HST := Lib.hid (HoldMid.start hG)
 clear hT hP hKT hKP hG hB hfp hft hct hlen hga hLp hLf hLv hLt hLg hLu hat hat2 hKb hKb2 ih0 ih1 hnb hnb' hinf hq0 hq1 hu0 hu1 x1 x2 x4 x5 y1 y2 y4
 generalize gathT q0 u0 = ga at KA KB ⊢
 generalize ga ++ gathT q1 u1 = gg at KB ⊢
 have wk1 : IntKind.i64.wrap (1 : Int) = 1 := by decide
 have wk2 : wrap64 (1 : Int) = 1 := wrap_in (by omega) (by omega)
 go_enter Tryz.func57, Tryz.ntmps57
 go_upto_region 3 with fail
 clear x0 x3 y0 y3 y5
 refine wp_region_held_drew (S := (fun w' => (w'.cell? ⟨b', o', none⟩ = some (.int .i64 13) ∧ w'.cell? ⟨b', o' + 3, none⟩ = some (.slice (some ⟨pb, po, none⟩) 2 c)) ∧ (w'.cell? ⟨b, o, none⟩ = some (.int .i64 13) ∧ w'.cell? ⟨b, o + 3, none⟩ = some (.slice (some ⟨qb, qo, none⟩) 2 c2) ∧ w'.cell? ⟨b, o + 5, none⟩ = some (.slice C2 0 e2)))) (by kernel_rfl) (HSW.out _ _ HST.out.drew) (fun hHeld => ?_)
 refine Plan.start [0, 1, 2, 3, 4, 5, 6, 7, 8, 9] ?_
 iterate 10 ((refine Plan.take (v := ?_) (so rfl) (by kernel_rfl) (by kernel_rfl) (by kernel_rfl) (fun _ _ _ h => h) (Or.inl ⟨by rfl, ?_⟩) hHeld ?_; rotate_left; focus (intro w' hSw; (try dsimp only at hSw); go_simp; try with_reducible rfl)); try simp only [Act.put, List.setIfInBounds_toArray, List.set_cons_zero, List.set_cons_succ])
 refine Plan.done ?_
 refine wpAnyH_done (by kernel_rfl) ?_ _
 clear hHeld
 obtain ⟨⟨z0, z3⟩, v0, v3, v5⟩ := HSW.out _ _ HST.out.drew
 go_upto_region 8 with fail
 clear z0 z3 v0 v3 v5
 refine wp_region_held_drew (S := (fun w' => (w'.cell? ⟨b', o', none⟩ = some (.int .i64 13) ∧ w'.cell? ⟨b', o' + 3, none⟩ = some (.slice (some ⟨pb, po, none⟩) 2 c)) ∧ (w'.cell? ⟨b, o, none⟩ = some (.int .i64 13) ∧ w'.cell? ⟨b, o + 3, none⟩ = some (.slice (some ⟨qb, qo, none⟩) 2 c2) ∧ w'.cell? ⟨b, o + 5, none⟩ = some (.slice C2 0 e2)))) (by kernel_rfl) (HSW.out _ _ HST.out.drew.drew) (fun hHeld => ?_)
 refine Plan.start [0, 1, 2, 3, 4, 5] ?_
 iterate 6 ((refine Plan.take (v := ?_) (so rfl) (by kernel_rfl) (by kernel_rfl) (by kernel_rfl) (fun _ _ _ h => h) (Or.inl ⟨by rfl, ?_⟩) hHeld ?_; rotate_left; focus (intro w' hSw; (try dsimp only at hSw); go_simp; try with_reducible rfl)); try simp only [Act.put, List.setIfInBounds_toArray, List.set_cons_zero, List.set_cons_succ])
 refine Plan.done ?_
 refine Plan.start [6, 7, 8, 9, 10, 11, 12, 13, 14] ?_
 iterate 9 (refine Plan.take (v := undef) (so rfl) (by kernel_rfl) (by kernel_rfl) (by kernel_rfl) (fun _ _ _ h => h) (Or.inr ⟨by rfl, rfl⟩) hHeld ?_; try simp only [Act.put, List.setIfInBounds_toArray, List.set_cons_zero, List.set_cons_succ])
 refine Plan.done ?_
 refine Plan.start [15, 16] ?_
 iterate 2 ((refine Plan.take (v := ?_) (so rfl) (by kernel_rfl) (by kernel_rfl) (by kernel_rfl) (fun _ _ _ h => h) (Or.inl ⟨by rfl, ?_⟩) hHeld ?_; rotate_left; focus (intro w' hSw; (try dsimp only at hSw); go_simp; try with_reducible rfl)); try simp only [Act.put, List.setIfInBounds_toArray, List.set_cons_zero, List.set_cons_succ])
 refine Plan.done ?_
 refine wpAnyH_done (by kernel_rfl) ?_ _
 clear hHeld
 obtain ⟨⟨z0, z3⟩, v0, v3, v5⟩ := HSW.out _ _ HST.out.drew.drew
 go_upto_region 11 with fail
 clear z0 z3 v0 v3 v5
 refine wp_region_held_drew (S := (fun w' => (w'.cell? ⟨b', o', none⟩ = some (.int .i64 13) ∧ w'.cell? ⟨b', o' + 3, none⟩ = some (.slice (some ⟨pb, po, none⟩) 2 c)) ∧ (w'.cell? ⟨b, o, none⟩ = some (.int .i64 13) ∧ w'.cell? ⟨b, o + 3, none⟩ = some (.slice (some ⟨qb, qo, none⟩) 2 c2) ∧ w'.cell? ⟨b, o + 5, none⟩ = some (.slice C2 0 e2)))) (by kernel_rfl) (HSW.out _ _ HST.out.drew.drew.drew) (fun hHeld => ?_)
 refine Plan.start [0, 1, 2, 3, 4, 5, 6, 7, 8, 9, 10, 11, 12, 13] ?_
 iterate 14 ((refine Plan.take (v := ?_) (so rfl) (by kernel_rfl) (by kernel_rfl) (by kernel_rfl) (fun _ _ _ h => h) (Or.inl ⟨by rfl, ?_⟩) hHeld ?_; rotate_left; focus (intro w' hSw; (try dsimp only at hSw); go_simp; try with_reducible rfl)); try simp only [Act.put, List.setIfInBounds_toArray, List.set_cons_zero, List.set_cons_succ])
 refine Plan.done ?_
 refine wpAnyH_done (by kernel_rfl) ?_ _
 clear hHeld
 go_wp2_with fail
 go_loopw [127] (fun v wr => (v = .int .i64 0 ∧ HoldMid w0 w m F G wr) ∨ (v = .int .i64 1 ∧ HoldMid w0 w m F (G ++ ga) wr)) (fun v _ => 1 - (intOf v).toNat)
 case atStart => exact .inl ⟨rfl, HST.out.drew.drew.drew⟩
 case round =>
  rcases hrel with ⟨rfl, hm⟩ | ⟨rfl, hm⟩
  ·have HMa := Lib.hid hm.drew
   clear hm
   go_upto_region 15 with fail
   refine wp_region_held_drew (S := (fun w' => (w'.cell? ⟨b', o', none⟩ = some (.int .i64 13) ∧ w'.cell? ⟨b', o' + 3, none⟩ = some (.slice (some ⟨pb, po, none⟩) 2 c)) ∧ (w'.cell? ⟨b, o, none⟩ = some (.int .i64 13) ∧ w'.cell? ⟨b, o + 3, none⟩ = some (.slice (some ⟨qb, qo, none⟩) 2 c2) ∧ w'.cell? ⟨b, o + 5, none⟩ = some (.slice C2 0 e2)))) (by kernel_rfl) (HSW.out _ _ HMa.out) (fun hHeld => ?_)
   refine Plan.start [0, 1, 2, 3, 4, 5, 6, 7, 8, 9, 10, 11, 12] ?_
   iterate 13 ((refine Plan.take (v := ?_) (so rfl) (by kernel_rfl) (by kernel_rfl) (by kernel_rfl) (fun _ _ _ h => h) (Or.inl ⟨by rfl, ?_⟩) hHeld ?_; rotate_left; focus (intro w' hSw; (try dsimp only at hSw); go_simp; try with_reducible rfl)); try simp only [Act.put, List.setIfInBounds_toArray, List.set_cons_zero, List.set_cons_succ])
   refine Plan.done ?_
   refine wpAnyH_ready (rs := [13]) (by kernel_rfl) (by simp) ?_
   refine AllReadyH.cons (sd (some 143) rfl) (fun Kx hK => ?_) AllReadyH.nil
   go_simp
   refine (KA.out _ HMa.out).mono ?_
   rintro e w9 ⟨rfl, hm2⟩
   have HM9 := Lib.hid hm2
   clear hm2
   go_wp2_with fail
   refine hK.out _ _ (HSW.out _ _ HM9.out) (fun hHeld => ?_)
   clear hK Kx
   try simp only [Act.put, List.setIfInBounds_toArray, List.set_cons_zero, List.set_cons_succ]
   refine wpAnyH_done (by kernel_rfl) ?_ _
   clear hHeld
   go_wp2_with fail
   refine ⟨.inr ⟨by first | rfl | simp, HM9.out⟩, ?_⟩
   first | decide | simp [intOf]
  ·have HMb := Lib.hid hm.drew
   clear hm
   go_upto_region 17 with fail
   refine wp_region_held_drew (S := (fun w' => (w'.cell? ⟨b', o', none⟩ = some (.int .i64 13) ∧ w'.cell? ⟨b', o' + 3, none⟩ = some (.slice (some ⟨pb, po, none⟩) 2 c)) ∧ (w'.cell? ⟨b, o, none⟩ = some (.int .i64 13) ∧ w'.cell? ⟨b, o + 3, none⟩ = some (.slice (some ⟨qb, qo, none⟩) 2 c2) ∧ w'.cell? ⟨b, o + 5, none⟩ = some (.slice C2 0 e2)))) (by kernel_rfl) (HSW.out _ _ HMb.out) (fun hHeld => ?_)
   refine Plan.start [0, 1, 2, 3, 4, 5, 6, 7, 8, 9, 10, 11, 12] ?_
   iterate 13 ((refine Plan.take (v := ?_) (so rfl) (by kernel_rfl) (by kernel_rfl) (by kernel_rfl) (fun _ _ _ h => h) (Or.inl ⟨by rfl, ?_⟩) hHeld ?_; rotate_left; focus (intro w' hSw; (try dsimp only at hSw); go_simp; try with_reducible rfl)); try simp only [Act.put, List.setIfInBounds_toArray, List.set_cons_zero, List.set_cons_succ])
   refine Plan.done ?_
   refine wpAnyH_ready (rs := [13]) (by kernel_rfl) (by simp) ?_
   refine AllReadyH.cons (sd (some 158) rfl) (fun Kx hK => ?_) AllReadyH.nil
   go_simp
   refine (KB.out _ HMb.out).mono ?_
   rintro e w10 ⟨rfl, hm2⟩
   have HM10 := Lib.hid hm2
   clear hm2
   go_wp2_with fail
   refine hK.out _ _ (HSW.out _ _ HM10.out) (fun hHeld => ?_)
   clear hK Kx
   try simp only [Act.put, List.setIfInBounds_toArray, List.set_cons_zero, List.set_cons_succ]
   refine wpAnyH_done (by kernel_rfl) ?_ _
   clear hHeld
   go_wp2_with fail
   exact bodyPost_end (v := .tuple #[]) (by simp [results, Tryz.results57, go_sem]) rfl ⟨rfl, HM10.out⟩
end Go.Proofs.YtlooadichhpgeaaGreatDoor
