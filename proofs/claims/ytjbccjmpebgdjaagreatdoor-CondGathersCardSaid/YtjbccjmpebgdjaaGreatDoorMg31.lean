import Derived.Test.YtjbccjmpebgdjaaGreatDoorMg30
namespace Go.Proofs.YtjbccjmpebgdjaaGreatDoor
open Go.RowKit
set_option maxRecDepth 100000
set_option maxHeartbeats 64000000
structure FPre (k : Int) (t : ByteArray) (n : Int) (ps : List Ty) (fs : FsT) (vs : VsT) (K : Nat → Prop) (w : World) (A : Option Addr) (c : Nat) (A' : Option Addr) (c' : Nat) (A'' : Option Addr) (c'' : Nat) (w1 : World) : Prop where
 HXC : Hid (∀ wx, Below w1.heap.size w1 wx → wx.cell? ⟨w.heap.size, 0, none⟩ = some (.int .i64 k) ∧ wx.cell? ⟨w.heap.size, 1, none⟩ = some (.string t) ∧ wx.cell? ⟨w.heap.size, 2, none⟩ = some (.int .i64 n) ∧ wx.cell? ⟨w.heap.size, 3, none⟩ = some (.slice A ps.length c) ∧ wx.cell? ⟨w.heap.size, 4, none⟩ = some (.slice A' fs.length c') ∧ wx.cell? ⟨w.heap.size, 5, none⟩ = some (.slice A'' vs.length c''))
 KAll : Hid (∀ wx, Below w1.heap.size w1 wx → Calls Tryz.prog 55 #[.slice A ps.length c] wx fun e w' => e = .returned (.bool (ps.all formT)) ∧ Below wx.heap.size wx w')
 KPl : Hid (∀ wx, Calls Tryz.prog 56 #[.agg #[.int .i64 k, .string t, .int .i64 n, .slice A ps.length c, .slice A' fs.length c', .slice A'' vs.length c'']] wx fun e w' => e = .returned (.bool (t.toList == [] && n == 0)) ∧ Below wx.heap.size wx w')
 KNm : Hid (∀ wx, Calls Tryz.prog 59 #[.string t] wx fun e w' => e = .returned (.bool (nameT t)) ∧ Below wx.heap.size wx w')
 KOb : Hid (∀ wx, Below w1.heap.size w1 wx → Calls Tryz.prog 58 #[.slice A' fs.length c'] wx fun e w' => e = .returned (.bool (fieldsB (fieldsT fs formT))) ∧ Below wx.heap.size wx w')
 KBi : Hid (∀ wx, Below w1.heap.size w1 wx → Calls Tryz.prog 57 #[.slice A'' vs.length c''] wx fun e w' => e = .returned (.bool (varsB (varsT vs formT))) ∧ Below wx.heap.size wx w')
 KOv : Hid (∀ wx, Below w1.heap.size w1 wx → Calls Tryz.prog 60 #[.slice A ps.length c] wx fun e w' => e = .returned (.bool (overT ps)) ∧ w' = wx)
 HREP : Hid (RepT K w (.mk k t n ps fs vs) [.int .i64 k, .string t, .int .i64 n, .slice A ps.length c, .slice A' fs.length c', .slice A'' vs.length c''])
 HCN : Hid (1 + (cntL ps + (cntF fs + cntV vs)) ≤ 1000000)
 HBZ : Hid (Below w.heap.size w w1)
 HB : Hid (Below w1.heap.size w1 w1)
 HS1 : Hid (w1.heap.size = w.heap.size + 1)
 HX0 : Hid (w1.heap[w.heap.size]? = some (.cells #[.int .i64 k, .string t, .int .i64 n, .slice A ps.length c, .slice A' fs.length c', .slice A'' vs.length c''] 26 (0, 0)))
 HW1 : Hid (w1 = w.alloc (.cells #[.int .i64 k, .string t, .int .i64 n, .slice A ps.length c, .slice A' fs.length c', .slice A'' vs.length c''] 26))
 hlp : ps.length ≤ 1000000000000000
 hlf : fs.length ≤ 1000000000000000
 hlv : vs.length ≤ 1000000000000000
theorem form_pre (k : Int) (t : ByteArray) (n : Int) (ps : List Ty) (fs : FsT) (vs : VsT) (hp : ∀ p ∈ ps, FormR p) (hf : ∀ f ∈ fs, FormR f.2.2) (hv : ∀ v ∈ vs, ∀ b ∈ v.2, FormR b)
  (main : ∀ (K : Nat → Prop) (w : World) (A : Option Addr) (c : Nat) (A' : Option Addr) (c' : Nat) (A'' : Option Addr) (c'' : Nat) (w1 : World), FPre k t n ps fs vs K w A c A' c' A'' c'' w1 →
   Calls Tryz.prog 28 #[.agg #[.int .i64 k, .string t, .int .i64 n, .slice A ps.length c, .slice A' fs.length c', .slice A'' vs.length c'']] w fun e w' => e = .returned (.bool (formT (.mk k t n ps fs vs))) ∧ Below w.heap.size w w') : FormR (.mk k t n ps fs vs) := by
 intro K w cs hrep hc
 obtain ⟨A, c, A', c', A'', c'', rfl, hts, hL, hF, hV⟩ := hrep.inv
 simp only [cells6T]
 obtain ⟨w1, hw1⟩ : ∃ x, x = w.alloc (.cells #[.int .i64 k, .string t, .int .i64 n, .slice A ps.length c, .slice A' fs.length c', .slice A'' vs.length c''] 26) := ⟨_, rfl⟩
 have hb1 : Below w.heap.size w w1 := by rw [hw1]; exact (Below.refl _ _).alloc (Nat.le_refl _) _
 have hs1 : w1.heap.size = w.heap.size + 1 := by rw [hw1]; simp
 have hx0 : w1.heap[w.heap.size]? = some (.cells #[.int .i64 k, .string t, .int .i64 n, .slice A ps.length c, .slice A' fs.length c', .slice A'' vs.length c''] 26 (0, 0)) := by rw [hw1]; exact heap_alloc_new w _
 have HXC : Hid (∀ wx, Below w1.heap.size w1 wx → wx.cell? ⟨w.heap.size, 0, none⟩ = some (.int .i64 k) ∧ wx.cell? ⟨w.heap.size, 1, none⟩ = some (.string t) ∧ wx.cell? ⟨w.heap.size, 2, none⟩ = some (.int .i64 n) ∧ wx.cell? ⟨w.heap.size, 3, none⟩ = some (.slice A ps.length c) ∧ wx.cell? ⟨w.heap.size, 4, none⟩ = some (.slice A' fs.length c') ∧ wx.cell? ⟨w.heap.size, 5, none⟩ = some (.slice A'' vs.length c'')) := Hd fun wx hx => by
  have h := box_up hx (by omega) hx0
  exact ⟨Ch h 0, Ch h 1, Ch h 2, Ch h 3, Ch h 4, Ch h 5⟩
 have hcn : 1 + (cntL ps + (cntF fs + cntV vs)) ≤ 1000000 := by rw [← cntT_mk k t n ps fs vs]; exact hc
 have KAll := Hd fun wx (hx : Below w1.heap.size w1 wx) => all_ref ps hp (hL.later (hb1.trans (hx.mono hb1.size))) (by omega)
 have KPl := Hd fun wx => plain_ref (w := wx) k t n A ps.length c A' fs.length c' A'' vs.length c''
 have KNm := Hd fun wx => name_ref t wx hts
 have KOb := Hd fun wx (hx : Below w1.heap.size w1 wx) => object_ref fs hf (hF.later (hb1.trans (hx.mono hb1.size))) (by omega)
 have hlv : vs.length ≤ 1000000000000000 := by obtain ⟨_, _, hr, _⟩ := hV; exact hr.big
 have KBi := Hd fun wx (hx : Below w1.heap.size w1 wx) => binds_ref vs hv (hV.later (hb1.trans (hx.mono hb1.size))) hlv (by omega)
 have KOv := Hd fun wx (hx : Below w1.heap.size w1 wx) => over_ref (hL.later (hb1.trans (hx.mono hb1.size)))
 have HREP := Hd hrep
 have HL := Hd hL
 have HCN := Hd hcn
 have HBZ := Hd hb1
 have HB : Hid (Below w1.heap.size w1 w1) := Hd (Below.refl _ _)
 have HS1 := Hd hs1
 have HX0 := Hd hx0
 have HW1 := Hd hw1
 have hlp := hL.short
 have hlf := hF.shortF
 have HP := Hd hp
 have HF' := Hd hf
 have HV' := Hd hv
 exact main K w A c A' c' A'' c'' w1 ⟨HXC, KAll, KPl, KNm, KOb, KBi, KOv, HREP, HCN, HBZ, HB, HS1, HX0, HW1, hlp, hlf, hlv⟩
def InsP (p t : Ty) : Prop := GatP 43 (gathT p t) p t
theorem hold_comp {p t : Ty} (hinf : infT p = true) (hcomp : isComp p.k = true) (ht : ¬ t.k = 15) (ih : InsP p t) : HoldP p t := by
 intro K K' w0 w m F G b o b' o' hT hP hKT hKP hG hB hfp hft hct hlen
 obtain ⟨k, s, n, ps, fs, vs⟩ := p
 obtain ⟨k2, s2, n2, ps2, fs2, vs2⟩ := t
 obtain ⟨A, c, A', c', A'', c'', ⟨x0, x1, x2, x3, x4, x5⟩, -, hLp, hLf, hLv⟩ := hP.six
 obtain ⟨A2, c2, B2, d2, C2, e2, ⟨y0, y1, y2, y3, y4, y5⟩, -, hLt, hLg, hLu⟩ := hT.six
 have ki := inf_any _ K' w b' o' hP
 rw [hinf] at ki
 have hcall := ih K K' w0 w m F G b o b' o' hT hP hKT hKP hG hB hfp hft hct hlen
 have KI := Hd ki
 have KC := Hd hcall
 have b15 : (k2 == 15) = false := beq_eq_false_iff_ne.2 ht
 have g15 : decide (k2 = 15) = false := decide_eq_false ht
 have hcc : k = 11 ∨ k = 12 ∨ k = 17 ∨ k = 13 ∨ k = 14 := by
  have h : isComp k = true := hcomp
  unfold isComp at h
  simp only [Bool.or_eq_true, beq_iff_eq] at h
  omega
 clear hT hP hKT hKP hG hB hfp hft hct hlen ki hcall hinf hcomp ih hLp hLf hLv hLt hLg hLu x1 x2 x3 x4 x5 y1 y2 y3 y4 y5
 generalize gathT (.mk k s n ps fs vs) (.mk k2 s2 n2 ps2 fs2 vs2) = gg at KC ⊢
 rcases hcc with rfl | rfl | rfl | rfl | rfl
 ·go_enter Tryz.func25, Tryz.ntmps25
  go_wp2_with fail
  refine KI.out.mono ?_
  rintro e w' ⟨rfl, hw⟩; obtain rfl := hw.symm
  go_wp2_with fail
  refine KC.out.mono ?_
  rintro e w' ⟨rfl, hm⟩
  have HM := Hd hm
  clear hm
  go_wp2_with fail
  exact bodyPost_end (v := .tuple #[]) (by simp [results, Tryz.results25, go_sem]) rfl ⟨rfl, HM.out⟩
 ·go_enter Tryz.func25, Tryz.ntmps25
  go_wp2_with fail
  refine KI.out.mono ?_
  rintro e w' ⟨rfl, hw⟩; obtain rfl := hw.symm
  go_wp2_with fail
  refine KC.out.mono ?_
  rintro e w' ⟨rfl, hm⟩
  have HM := Hd hm
  clear hm
  go_wp2_with fail
  exact bodyPost_end (v := .tuple #[]) (by simp [results, Tryz.results25, go_sem]) rfl ⟨rfl, HM.out⟩
 ·go_enter Tryz.func25, Tryz.ntmps25
  go_wp2_with fail
  refine KI.out.mono ?_
  rintro e w' ⟨rfl, hw⟩; obtain rfl := hw.symm
  go_wp2_with fail
  refine KC.out.mono ?_
  rintro e w' ⟨rfl, hm⟩
  have HM := Hd hm
  clear hm
  go_wp2_with fail
  exact bodyPost_end (v := .tuple #[]) (by simp [results, Tryz.results25, go_sem]) rfl ⟨rfl, HM.out⟩
 ·go_enter Tryz.func25, Tryz.ntmps25
  go_wp2_with fail
  refine KI.out.mono ?_
  rintro e w' ⟨rfl, hw⟩; obtain rfl := hw.symm
  go_wp2_with fail
  refine KC.out.mono ?_
  rintro e w' ⟨rfl, hm⟩
  have HM := Hd hm
  clear hm
  go_wp2_with fail
  exact bodyPost_end (v := .tuple #[]) (by simp [results, Tryz.results25, go_sem]) rfl ⟨rfl, HM.out⟩
 ·go_enter Tryz.func25, Tryz.ntmps25
  go_wp2_with fail
  refine KI.out.mono ?_
  rintro e w' ⟨rfl, hw⟩; obtain rfl := hw.symm
  go_wp2_with fail
  refine KC.out.mono ?_
  rintro e w' ⟨rfl, hm⟩
  have HM := Hd hm
  clear hm
  go_wp2_with fail
  exact bodyPost_end (v := .tuple #[]) (by simp [results, Tryz.results25, go_sem]) rfl ⟨rfl, HM.out⟩
theorem zip_part {α β γ : Type} (g : α → β → List γ) {l : List α} {l' : List β} {i : Nat} (h : i < l.length) (h' : i < l'.length) : ((List.zipWith g l l').take (i + 1)).flatten = ((List.zipWith g l l').take i).flatten ++ g l[i] l'[i] := by
 rw [List.take_succ_eq_append_getElem (by simp; omega), List.flatten_append, List.getElem_zipWith]
 simp
theorem take_flat_le {β : Type} (l : List (List β)) (i : Nat) : (l.take i).flatten.length ≤ l.flatten.length := by
 conv => rhs; rw [← List.take_append_drop i l, List.flatten_append, List.length_append]
 omega
theorem HoldMid.drew {w0 w wr : World} {m : Nat} {F : ByteArray → Option Rw} {G : List (ByteArray × Ty)} (h : HoldMid w0 w m F G wr) : HoldMid w0 w m F G wr.drew := by
 obtain ⟨F', hG, hb, hf⟩ := h
 exact ⟨F', hG.later (Below.refl _ _).drew, hb.trans (ButG.of_below (O := fun _ => False) (Below.refl _ _).drew) (fun _ h => h.elim), hf⟩
theorem parts_same {p t : Ty} (hl : t.ps.length = p.ps.length) (h0 : 0 < p.ps.length) (ih : ∀ q u, q ∈ p.ps → u ∈ t.ps → HoldP q u) : GatP 75 (List.zipWith gathT p.ps t.ps).flatten p t := by
 intro K K' w0 w m F G b o b' o' hT hP hKT hKP hG hB hfp hft hct hlen
 obtain ⟨k, s, n, ps, fs, vs⟩ := p
 obtain ⟨k2, s2, n2, ps2, fs2, vs2⟩ := t
 simp only [Ty.ps] at hl h0 ih hlen ⊢
 obtain ⟨A, c, A', c', A'', c'', ⟨x0, x1, x2, x3, x4, x5⟩, -, hLp, hLf, hLv⟩ := hP.six
 obtain ⟨A2, c2, B2, d2, C2, e2, ⟨y0, y1, y2, y3, y4, y5⟩, -, hLt, hLg, hLu⟩ := hT.six
 have hll := hLp.short
 obtain ⟨pb, po, hA, hKb, hat⟩ := hLp.at (by omega)
 subst hA
 obtain ⟨qb, qo, hA2, hKb2, hat2⟩ := hLt.at (by omega)
 subst hA2
 rw [hl] at y3
 have hnb := (hKT b (.inr rfl)).2
 have hnb' := (hKP b' (.inr rfl)).2
 have HSW : Hid (∀ wx G', HoldMid w0 w m F G' wx → (wx.cell? ⟨b', o', none⟩ = some (.int .i64 k) ∧ wx.cell? ⟨b', o' + 3, none⟩ = some (.slice (some ⟨pb, po, none⟩) ps.length c)) ∧ (wx.cell? ⟨b, o, none⟩ = some (.int .i64 k2) ∧ wx.cell? ⟨b, o + 3, none⟩ = some (.slice (some ⟨qb, qo, none⟩) ps.length c2))) := Hd fun wx G' hm => by
  obtain ⟨F', _, hb, _⟩ := hm
  exact ⟨⟨but_cell hb hnb' x0, but_cell hb hnb' x3⟩, but_cell hb hnb y0, but_cell hb hnb y3⟩
 have KQ : Hid (∀ i (hi : i < ps.length) wr, HoldMid w0 w m F (G ++ ((List.zipWith gathT ps ps2).take i).flatten) wr → Calls Tryz.prog 25 #[.map (some m), .pointer (some ⟨qb, qo + i * 6, none⟩), .pointer (some ⟨pb, po + i * 6, none⟩)] wr fun e w' => e = .returned (.tuple #[]) ∧ HoldMid w0 w m F (G ++ ((List.zipWith gathT ps ps2).take (i + 1)).flatten) w') := Hd fun i hi wr hm => by
  have h3 := take_flat_le (List.zipWith gathT ps ps2) (i + 1)
  have hi2 : i < ps2.length := by omega
  rw [zip_part gathT hi hi2] at h3 ⊢
  rw [← List.append_assoc]
  rw [List.length_append] at h3
  exact GatP.go (ih _ _ (List.getElem_mem hi) (List.getElem_mem hi2)) hm (hat2 i hi2) (hat i hi) (fun x hx => hKT x (hx.elim .inl fun e => .inl (by rw [e]; exact hKb2))) (fun x hx => hKP x (hx.elim .inl fun e => .inl (by rw [e]; exact hKb))) hB (form_ps hfp _ (List.getElem_mem hi)) (form_ps hft _ (List.getElem_mem hi2)) (by have h1 := cntL_mem (List.getElem_mem hi); have h2 := cnt_ps (.mk k s n ps fs vs); have h3 := cntL_mem (List.getElem_mem hi2); have h4 := cnt_ps (.mk k2 s2 n2 ps2 fs2 vs2); simp only [Ty.ps] at h2 h4; omega) (by rw [List.length_append]; omega)
 have HST2 : Hid (HoldMid w0 w m F (G ++ ((List.zipWith gathT ps ps2).take 0).flatten) w.drew) := Hd (by rw [List.take_zero, List.flatten_nil, List.append_nil]; exact (HoldMid.start hG).drew)
 have HST := Hd (HoldMid.start hG).drew
 have HGZ : Hid ((List.zipWith gathT ps ps2).length ≤ ps.length) := Hd (by rw [List.length_zipWith]; omega)
 clear hT hP hKT hKP hG hB hfp hft hct hlen hLp hLf hLv hLt hLg hLu hat hat2 hKb hKb2 ih hnb hnb' x0 x1 x2 x3 x4 x5 y0 y1 y2 y3 y4 y5
 generalize (List.zipWith gathT ps ps2) = gz at KQ HST2 HGZ ⊢
 clear hl
 go_enter Tryz.func75, Tryz.ntmps75
 go_upto_region 0 with fail
 refine wp_region_held_drew (S := (fun w' => (w'.cell? ⟨b', o', none⟩ = some (.int .i64 k) ∧ w'.cell? ⟨b', o' + 3, none⟩ = some (.slice (some ⟨pb, po, none⟩) ps.length c)) ∧ (w'.cell? ⟨b, o, none⟩ = some (.int .i64 k2) ∧ w'.cell? ⟨b, o + 3, none⟩ = some (.slice (some ⟨qb, qo, none⟩) ps.length c2)))) (by kernel_rfl) (HSW.out _ _ HST.out) (fun hHeld => ?_)
 refine Plan.start [0, 1, 2, 3, 4, 5, 6, 7, 8, 9, 10] ?_
 iterate 11 (refine Plan.tk (so rfl) hHeld ?_; try simp only [Act.put, pz1, pz2, pz3])
 refine Plan.done ?_
 refine wpAnyH_done (by kernel_rfl) ?_ _
 clear hHeld
 obtain ⟨⟨z0, z3⟩, -⟩ := HSW.out _ _ HST.out
 go_wp2_with fail
 clear z0 z3
 go_loopw [23] (fun v wr => ∃ (i : Nat), i ≤ ps.length ∧ v = .int .i64 i ∧ HoldMid w0 w m F (G ++ (gz.take i).flatten) wr) (fun v _ => ps.length - (intOf v).toNat)
 case atStart => exact ⟨0, by omega, rfl, HST2.out⟩
 case round =>
  obtain ⟨i, hi, rfl, hm⟩ := hrel
  have HMi := Hd hm
  clear hm
  by_cases hin : i < ps.length
  ·have t1 : decide ((i : Int) < (ps.length : Int)) = true := by simp; omega
   have wr2 : wrap64 ((i : Int) + 1) = ((i + 1 : Nat) : Int) := wrap_one (by omega)
   have HM := Hd (measI hin)
   have HIn : Hid (i + 1 ≤ ps.length) := Hd hin
   have HN : Hid (i < ps.length) := Hd hin
   have i1 : (0 : Int) ≤ (i : Int) := by omega
   have i2 : (i : Int) < (ps.length : Int) := by omega
   go_upto_region 4 with fail
   have HMd := Hd HMi.out.drew
   refine wp_region_held_drew (S := (fun w' => (w'.cell? ⟨b', o', none⟩ = some (.int .i64 k) ∧ w'.cell? ⟨b', o' + 3, none⟩ = some (.slice (some ⟨pb, po, none⟩) ps.length c)) ∧ (w'.cell? ⟨b, o, none⟩ = some (.int .i64 k2) ∧ w'.cell? ⟨b, o + 3, none⟩ = some (.slice (some ⟨qb, qo, none⟩) ps.length c2)))) (by kernel_rfl) (HSW.out _ _ HMd.out) (fun hHeld => ?_)
   refine Plan.start [0, 1, 2, 3, 4, 5, 6, 7, 8, 9, 10, 11, 12] ?_
   iterate 13 (refine Plan.tk (so rfl) hHeld ?_; try simp only [Act.put, pz1, pz2, pz3])
   refine Plan.done ?_
   refine wpAnyH_ready (rs := [13]) (by kernel_rfl) (by simp) ?_
   refine AllReadyH.cons (sd (some 39) rfl) (fun Kx hK => ?_) AllReadyH.nil
   go_simp
   refine (KQ.out i HN.out _ HMd.out).mono ?_
   rintro e w9 ⟨rfl, hm2⟩
   have HM2 := Hd hm2
   clear hm2
   go_wp2_with fail
   refine hK.out _ _ (HSW.out _ _ HM2.out) (fun hHeld => ?_)
   clear hK Kx
   try simp only [Act.put, pz1, pz2, pz3]
   refine wpAnyH_done (by kernel_rfl) ?_ _
   clear hHeld
   go_wp2_with fail
   refine ⟨⟨i + 1, HIn.out, by first | rfl | rw [wr2], HM2.out⟩, ?_⟩
   first | exact HM.out | (rw [wr2]; exact HM.out)
  ·have t1 : decide ((i : Int) < (ps.length : Int)) = false := by simp; omega
   have HE : Hid (HoldMid w0 w m F (G ++ gz.flatten) _) := Hd (by have h := HMi.out; rw [List.take_of_length_le (by have := HGZ.out; omega)] at h; exact h)
   clear hi
   go_wp2_with fail
   exact bodyPost_end (v := .tuple #[]) (by simp [results, Tryz.results75, go_sem]) rfl ⟨rfl, HE.out⟩
theorem shape_f {k : Int} (h : k ≠ 14) : (shapeK k).f = false := by
 unfold shapeK
 repeat' split
 all_goals first | rfl | (exfalso; omega)
theorem shape_v {k : Int} (h : k ≠ 13) : (shapeK k).v = false := by
 unfold shapeK
 repeat' split
 all_goals first | rfl | (exfalso; omega)
theorem form_nf (k : Int) (t : ByteArray) (n : Int) (ps : List Ty) (fs : FsT) (vs : VsT) (hp : ∀ p ∈ ps, FormR p) (hf : ∀ f ∈ fs, FormR f.2.2) (hv : ∀ v ∈ vs, ∀ b ∈ v.2, FormR b) (h14 : k ≠ 14) (hnf : 0 < fs.length) : FormR (.mk k t n ps fs vs) := by
 refine form_pre k t n ps fs vs hp hf hv fun K w A c A' c' A'' c'' w1 h => ?_
 obtain ⟨HXC, KAll, KPl, KNm, KOb, KBi, KOv, HREP, HCN, HBZ, HB, HS1, HX0, HW1, hlp, hlf, hlv⟩ := h
 clear hp hf hv
 have HVal : Hid (formT (.mk k t n ps fs vs) = false) := Hd (by
  rw [formT_mk]
  unfold fitsB
  rw [shape_f h14]
  have h0 : decide (0 < fs.length) = true := decide_eq_true hnf
  simp [h0])
 have g1 : (k == 14) = false := by simpa using h14
 have f1 : decide ((0 : Int) < (fs.length : Int)) = true := decide_eq_true (by omega)
 have f2 : decide (0 < fs.length) = true := decide_eq_true (by omega)
 clear hnf
 go_enter Tryz.func28, Tryz.ntmps28
 go_upto_region 1 with fail
 rw [← HW1.out]
 obtain ⟨x0, x1, x2, x3, x4, x5⟩ := HXC.out _ HB.out
 go_wp2_with fail
 go_ret
 exact ⟨by rw [HVal.out]; rfl, HBZ.out.trans (HB.out.mono HBZ.out.size)⟩
theorem form_nv (k : Int) (t : ByteArray) (n : Int) (ps : List Ty) (fs : FsT) (vs : VsT) (hp : ∀ p ∈ ps, FormR p) (hf : ∀ f ∈ fs, FormR f.2.2) (hv : ∀ v ∈ vs, ∀ b ∈ v.2, FormR b) (h14 : k ≠ 14) (hnf : fs.length = 0) (h13 : k ≠ 13) (hnv : 0 < vs.length) : FormR (.mk k t n ps fs vs) := by
 refine form_pre k t n ps fs vs hp hf hv fun K w A c A' c' A'' c'' w1 h => ?_
 obtain ⟨HXC, KAll, KPl, KNm, KOb, KBi, KOv, HREP, HCN, HBZ, HB, HS1, HX0, HW1, hlp, hlf, hlv⟩ := h
 clear hp hf hv
 have HVal : Hid (formT (.mk k t n ps fs vs) = false) := Hd (by
  rw [formT_mk]
  unfold fitsB
  rw [shape_v h13]
  have h0 : decide (0 < vs.length) = true := decide_eq_true hnv
  simp [h0])
 have g1 : (k == 14) = false := by simpa using h14
 have f1 : decide ((0 : Int) < (fs.length : Int)) = false := decide_eq_false (by omega)
 have f2 : decide (0 < fs.length) = false := decide_eq_false (by omega)
 have g2 : (k == 13) = false := by simpa using h13
 have f3 : decide ((0 : Int) < (vs.length : Int)) = true := decide_eq_true (by omega)
 have f4 : decide (0 < vs.length) = true := decide_eq_true (by omega)
 clear hnf hnv
 go_enter Tryz.func28, Tryz.ntmps28
 go_upto_region 1 with fail
 rw [← HW1.out]
 obtain ⟨x0, x1, x2, x3, x4, x5⟩ := HXC.out _ HB.out
 go_wp2_with fail
 go_ret
 exact ⟨by rw [HVal.out]; rfl, HBZ.out.trans (HB.out.mono HBZ.out.size)⟩
theorem form_nv14 (t : ByteArray) (n : Int) (ps : List Ty) (fs : FsT) (vs : VsT) (hp : ∀ p ∈ ps, FormR p) (hf : ∀ f ∈ fs, FormR f.2.2) (hv : ∀ v ∈ vs, ∀ b ∈ v.2, FormR b) (hnv : 0 < vs.length) : FormR (.mk 14 t n ps fs vs) := by
 refine form_pre 14 t n ps fs vs hp hf hv fun K w A c A' c' A'' c'' w1 h => ?_
 obtain ⟨HXC, KAll, KPl, KNm, KOb, KBi, KOv, HREP, HCN, HBZ, HB, HS1, HX0, HW1, hlp, hlf, hlv⟩ := h
 clear hp hf hv
 have HVal : Hid (formT (.mk 14 t n ps fs vs) = false) := Hd (by
  have h13 : (14 : Int) ≠ 13 := by decide
  rw [formT_mk]
  unfold fitsB
  rw [shape_v h13]
  have h0 : decide (0 < vs.length) = true := decide_eq_true hnv
  simp [h0])
 have f3 : decide ((0 : Int) < (vs.length : Int)) = true := decide_eq_true (by omega)
 have f4 : decide (0 < vs.length) = true := decide_eq_true (by omega)
 clear hnv
 go_enter Tryz.func28, Tryz.ntmps28
 go_upto_region 1 with fail
 rw [← HW1.out]
 obtain ⟨x0, x1, x2, x3, x4, x5⟩ := HXC.out _ HB.out
 go_wp2_with fail
 go_ret
 exact ⟨by rw [HVal.out]; rfl, HBZ.out.trans (HB.out.mono HBZ.out.size)⟩
theorem form_pa (k : Int) (t : ByteArray) (n : Int) (ps : List Ty) (fs : FsT) (vs : VsT) (hp : ∀ p ∈ ps, FormR p) (hf : ∀ f ∈ fs, FormR f.2.2) (hv : ∀ v ∈ vs, ∀ b ∈ v.2, FormR b) (h14 : k ≠ 14) (hnf : fs.length = 0) (h13 : k ≠ 13) (hnv : vs.length = 0) (hpa : ps.all formT = false) : FormR (.mk k t n ps fs vs) := by
 refine form_pre k t n ps fs vs hp hf hv fun K w A c A' c' A'' c'' w1 h => ?_
 obtain ⟨HXC, KAll, KPl, KNm, KOb, KBi, KOv, HREP, HCN, HBZ, HB, HS1, HX0, HW1, hlp, hlf, hlv⟩ := h
 clear hp hf hv
 have HVal : Hid (formT (.mk k t n ps fs vs) = false) := Hd (by
  rw [formT_mk, hpa, Bool.and_false])
 have g1 : (k == 14) = false := by simpa using h14
 have f1 : decide ((0 : Int) < (fs.length : Int)) = false := decide_eq_false (by omega)
 have f2 : decide (0 < fs.length) = false := decide_eq_false (by omega)
 have g2 : (k == 13) = false := by simpa using h13
 have f3 : decide ((0 : Int) < (vs.length : Int)) = false := decide_eq_false (by omega)
 have f4 : decide (0 < vs.length) = false := decide_eq_false (by omega)
 rw [hpa] at KAll
 clear hnf hnv hpa
 go_enter Tryz.func28, Tryz.ntmps28
 go_upto_region 1 with fail
 rw [← HW1.out]
 obtain ⟨x0, x1, x2, x3, x4, x5⟩ := HXC.out _ HB.out
 go_wp2_with fail
 refine (KAll.out _ HB.out).mono ?_
 rintro e w2 ⟨rfl, hb⟩
 have HB1 := Hd (HB.out.trans (hb.mono HB.out.size))
 clear hb
 clear x0 x1 x2 x3 x4 x5
 obtain ⟨x0, x1, x2, x3, x4, x5⟩ := HXC.out _ HB1.out
 go_wp2_with fail
 go_ret
 exact ⟨by rw [HVal.out]; rfl, HBZ.out.trans (HB1.out.mono HBZ.out.size)⟩
theorem form_pa14 (t : ByteArray) (n : Int) (ps : List Ty) (fs : FsT) (vs : VsT) (hp : ∀ p ∈ ps, FormR p) (hf : ∀ f ∈ fs, FormR f.2.2) (hv : ∀ v ∈ vs, ∀ b ∈ v.2, FormR b) (hnv : vs.length = 0) (hpa : ps.all formT = false) : FormR (.mk 14 t n ps fs vs) := by
 refine form_pre 14 t n ps fs vs hp hf hv fun K w A c A' c' A'' c'' w1 h => ?_
 obtain ⟨HXC, KAll, KPl, KNm, KOb, KBi, KOv, HREP, HCN, HBZ, HB, HS1, HX0, HW1, hlp, hlf, hlv⟩ := h
 clear hp hf hv
 have HVal : Hid (formT (.mk 14 t n ps fs vs) = false) := Hd (by
  rw [formT_mk, hpa, Bool.and_false])
 have f3 : decide ((0 : Int) < (vs.length : Int)) = false := decide_eq_false (by omega)
 have f4 : decide (0 < vs.length) = false := decide_eq_false (by omega)
 rw [hpa] at KAll
 clear hnv hpa
 go_enter Tryz.func28, Tryz.ntmps28
 go_upto_region 1 with fail
 rw [← HW1.out]
 obtain ⟨x0, x1, x2, x3, x4, x5⟩ := HXC.out _ HB.out
 go_wp2_with fail
 refine (KAll.out _ HB.out).mono ?_
 rintro e w2 ⟨rfl, hb⟩
 have HB1 := Hd (HB.out.trans (hb.mono HB.out.size))
 clear hb
 clear x0 x1 x2 x3 x4 x5
 obtain ⟨x0, x1, x2, x3, x4, x5⟩ := HXC.out _ HB1.out
 go_wp2_with fail
 go_ret
 exact ⟨by rw [HVal.out]; rfl, HBZ.out.trans (HB1.out.mono HBZ.out.size)⟩
theorem form_pa13 (t : ByteArray) (n : Int) (ps : List Ty) (fs : FsT) (vs : VsT) (hp : ∀ p ∈ ps, FormR p) (hf : ∀ f ∈ fs, FormR f.2.2) (hv : ∀ v ∈ vs, ∀ b ∈ v.2, FormR b) (hnf : fs.length = 0) (hpa : ps.all formT = false) : FormR (.mk 13 t n ps fs vs) := by
 refine form_pre 13 t n ps fs vs hp hf hv fun K w A c A' c' A'' c'' w1 h => ?_
 obtain ⟨HXC, KAll, KPl, KNm, KOb, KBi, KOv, HREP, HCN, HBZ, HB, HS1, HX0, HW1, hlp, hlf, hlv⟩ := h
 clear hp hf hv
 have HVal : Hid (formT (.mk 13 t n ps fs vs) = false) := Hd (by
  rw [formT_mk, hpa, Bool.and_false])
 have f1 : decide ((0 : Int) < (fs.length : Int)) = false := decide_eq_false (by omega)
 have f2 : decide (0 < fs.length) = false := decide_eq_false (by omega)
 rw [hpa] at KAll
 clear hnf hpa
 go_enter Tryz.func28, Tryz.ntmps28
 go_upto_region 1 with fail
 rw [← HW1.out]
 obtain ⟨x0, x1, x2, x3, x4, x5⟩ := HXC.out _ HB.out
 go_wp2_with fail
 refine (KAll.out _ HB.out).mono ?_
 rintro e w2 ⟨rfl, hb⟩
 have HB1 := Hd (HB.out.trans (hb.mono HB.out.size))
 clear hb
 clear x0 x1 x2 x3 x4 x5
 obtain ⟨x0, x1, x2, x3, x4, x5⟩ := HXC.out _ HB1.out
 go_wp2_with fail
 go_ret
 exact ⟨by rw [HVal.out]; rfl, HBZ.out.trans (HB1.out.mono HBZ.out.size)⟩
theorem form_no (k : Int) (t : ByteArray) (n : Int) (ps : List Ty) (fs : FsT) (vs : VsT) (hp : ∀ p ∈ ps, FormR p) (hf : ∀ f ∈ fs, FormR f.2.2) (hv : ∀ v ∈ vs, ∀ b ∈ v.2, FormR b) (h1 : k ≠ 1) (h2 : k ≠ 2) (h3 : k ≠ 3) (h4 : k ≠ 4) (h5 : k ≠ 5) (h6 : k ≠ 6) (h7 : k ≠ 7) (h8 : k ≠ 8) (h9 : k ≠ 9) (h10 : k ≠ 10) (h11 : k ≠ 11) (h12 : k ≠ 12) (h13 : k ≠ 13) (h14 : k ≠ 14) (h15 : k ≠ 15) (h16 : k ≠ 16) (h17 : k ≠ 17) (h18 : k ≠ 18) (h19 : k ≠ 19) (h20 : k ≠ 20) (h21 : k ≠ 21) (h22 : k ≠ 22) (h23 : k ≠ 23) (hnf : fs.length = 0) (hnv : vs.length = 0) (hpa : ps.all formT = true) : FormR (.mk k t n ps fs vs) := by
 refine form_pre k t n ps fs vs hp hf hv fun K w A c A' c' A'' c'' w1 h => ?_
 obtain ⟨HXC, KAll, KPl, KNm, KOb, KBi, KOv, HREP, HCN, HBZ, HB, HS1, HX0, HW1, hlp, hlf, hlv⟩ := h
 clear hp hf hv
 have HVal : Hid (formT (.mk k t n ps fs vs) = false) := Hd (by
  rw [formT_mk]
  have hs : (shapeK k).known = false := by
   unfold shapeK
   rw [if_neg (by omega), if_neg (by omega), if_neg (by omega), if_neg (by omega), if_neg (by omega), if_neg (by omega), if_neg (by omega), if_neg (by omega), if_neg (by omega), if_neg (by omega), if_neg (by omega), if_neg (by omega)]
  rw [hs]; simp)
 have g1 : (k == 1) = false := by simpa using h1
 have g2 : (k == 2) = false := by simpa using h2
 have g3 : (k == 3) = false := by simpa using h3
 have g4 : (k == 4) = false := by simpa using h4
 have g5 : (k == 5) = false := by simpa using h5
 have g6 : (k == 6) = false := by simpa using h6
 have g7 : (k == 7) = false := by simpa using h7
 have g8 : (k == 8) = false := by simpa using h8
 have g9 : (k == 9) = false := by simpa using h9
 have g10 : (k == 10) = false := by simpa using h10
 have g11 : (k == 11) = false := by simpa using h11
 have g12 : (k == 12) = false := by simpa using h12
 have g13 : (k == 13) = false := by simpa using h13
 have g14 : (k == 14) = false := by simpa using h14
 have g15 : (k == 15) = false := by simpa using h15
 have g16 : (k == 16) = false := by simpa using h16
 have g17 : (k == 17) = false := by simpa using h17
 have g18 : (k == 18) = false := by simpa using h18
 have g19 : (k == 19) = false := by simpa using h19
 have g20 : (k == 20) = false := by simpa using h20
 have g21 : (k == 21) = false := by simpa using h21
 have g22 : (k == 22) = false := by simpa using h22
 have g23 : (k == 23) = false := by simpa using h23
 obtain ⟨f1, f2, f3, f4⟩ := no4 (m := fs.length) (n := vs.length) (by omega) (by omega)
 rw [hpa] at KAll
 clear hnf hnv hpa
 go_enter Tryz.func28, Tryz.ntmps28
 go_upto_region 1 with fail
 rw [← HW1.out]
 obtain ⟨x0, x1, x2, x3, x4, x5⟩ := HXC.out _ HB.out
 go_wp2_with fail
 refine (KAll.out _ HB.out).mono ?_
 rintro e w2 ⟨rfl, hb⟩
 have HB1 := Hd (HB.out.trans (hb.mono HB.out.size))
 clear hb
 clear x0 x1 x2 x3 x4 x5
 obtain ⟨x0, x1, x2, x3, x4, x5⟩ := HXC.out _ HB1.out
 go_wp2_with fail
 go_ret
 exact ⟨by rw [HVal.out]; rfl, HBZ.out.trans (HB1.out.mono HBZ.out.size)⟩
end Go.Proofs.YtjbccjmpebgdjaaGreatDoor
