import Derived.Test.YtjbccjmpebgdjaaGreatDoorMg45
import Derived.Lib.OwnBridge
import Derived.Sort.OwnSorted
namespace Go.Proofs.YtjbccjmpebgdjaaGreatDoor
open Go.RowKit
set_option maxRecDepth 100000
set_option maxHeartbeats 64000000
def stdF (G : List (ByteArray × Ty)) (s : ByteArray) : ByteArray × Ty := (s, stdT (gatN s G))
theorem uniL_big {K : Nat → Prop} {w : World} {l : List Ty} {A : Option Addr} {c : Nat} (hL : ListT K w l A c) (hlo : ∀ b, K b → b < w.heap.size) (hall : l.all formT = true) (hc : cntL l ≤ 3000000000) :
  Calls Tryz.prog 31 #[.slice A l.length c] w (FdT K w (unionT l)) := by
 have hfl := flatU_cnt l
 refine (union_ref hL hlo (fun x hx => by have h1 := names_cnt x; have h2 := hfl.2 x hx; omega) (by have := hfl.1; omega)).mono ?_
 rintro e w' ⟨rs, rfl, hr, hb⟩
 rw [unionR (plain_form hall)] at hr
 exact ⟨rs, rfl, hr, hb⟩
theorem gathered_ref {K K' : Nat → Prop} {w : World} {t p : Ty} {cs ds : List Value} (hr : RepT K w t cs) (hp : RepT K' w p ds) (hft : formT t = true) (hfp : formT p = true) (hct : cntT p + cntT t ≤ 1000) :
  Calls Tryz.prog 19 #[.agg cs.toArray, .agg ds.toArray] w fun e w' => ∃ v, e = .returned v ∧ FdR w.heap.size w' v ((riseS (namesI p)).map (stdF (gathT p t))) ∧ Below w.heap.size w w' := by
 have hr0 := RepT.low _ _ hr
 have hp0 := RepT.low _ _ hp
 have hGl := gath_small hct
 have hNl : (namesI p).length ≤ 1000000 := by have := names_cnt p; omega
 have hGf := gat_ok hfp hft hct
 have hag := against_all p t hfp hft
 have kinf := infers_ref p
 have hmm := fun (w0 w : World) (v' : Value) (w' : World) (l' : List ByteArray) (h : InfSt w0 w (.slice none 0 0) [] (namesI p) v' w' l') => asc_eq h.asc (asc_riseS (namesI p)) fun x => by rw [h.mem, mem_riseS]; simp
 obtain ⟨k, s, n, ps, fs, vs⟩ := t
 obtain ⟨k2, s2, n2, ps2, fs2, vs2⟩ := p
 refine two_pre hr hp fun A c B d C e A2 c2 B2 d2 C2 e2 w1 h hcs hds => ?_
 subst hcs
 subst hds
 obtain ⟨HBX, HB1, HW1, -, -⟩ := h
 have hb1 := HB1.out
 have HMM := Hd hmm
 have KI := Hd (kinf _ w1 w1 _ (.slice none 0 0) [] (hp0.later hb1) (Below.refl _ _) (World.ownsRow_nil _ _ _ _) List.Pairwise.nil (by simp only [List.length_nil]; omega))
 have KA := Hd fun wx (hx : Below w1.heap.size w1 wx) => hag (fun b => b < w.heap.size) (fun b => b < w.heap.size) wx.heap.size wx _ _ (.slice none 0 0) [] (hr0.later (hb1.trans (hx.mono hb1.size))) (hp0.later (hb1.trans (hx.mono hb1.size))) (fun b hb => ⟨Nat.lt_of_lt_of_le hb (Nat.le_trans hb1.size hx.size), by intro h; cases h⟩) (fun b hb => ⟨Nat.lt_of_lt_of_le hb (Nat.le_trans hb1.size hx.size), by intro h; cases h⟩) (Nat.le_refl _) OwnE.nil hfp hft (by omega) (by simp only [List.length_nil]; omega)
 have HGL := Hd hGl
 have HGF := Hd hGf
 have hrl : (riseS (namesI (.mk k2 s2 n2 ps2 fs2 vs2))).length ≤ 1000000 := Nat.le_trans (riseS_len _) hNl
 have HRL := Hd hrl
 clear hr hp hr0 hp0 hb1 hmm hag kinf hGl hGf hNl hfp hft hct hrl
 rw [List.nil_append] at KA
 generalize riseS (namesI (.mk k2 s2 n2 ps2 fs2 vs2)) = L at HMM HRL ⊢
 generalize namesI (.mk k2 s2 n2 ps2 fs2 vs2) = N at KI HMM
 generalize gathT (.mk k2 s2 n2 ps2 fs2 vs2) (.mk k s n ps fs vs) = G at KA HGL HGF ⊢
 go_enter Tryz.func19, Tryz.ntmps19
 go_upto_region 1 with fail
 rw [← HW1.out]
 obtain ⟨⟨x0, x1, x2, x3, x4, x5⟩, ⟨y0, y1, y2, y3, y4, y5⟩⟩ := HBX.out _ (Below.refl _ _)
 go_wp2_with fail
 refine KI.out.mono ?_
 rintro e w2 ⟨vn, l', rfl, hst⟩
 have hll := HMM.out _ _ _ _ _ hst
 subst hll
 have HOS := Hd hst.own
 have HB2 := Hd hst.low
 clear hst KI HMM x0 x1 x2 x3 x4 x5 y0 y1 y2 y3 y4 y5
 obtain ⟨⟨x0, x1, x2, x3, x4, x5⟩, ⟨y0, y1, y2, y3, y4, y5⟩⟩ := HBX.out _ HB2.out
 go_wp2_with fail
 refine (KA.out _ HB2.out).mono ?_
 rintro e w3 ⟨vg, rfl, hog, hgr⟩
 have hb23 : Below w2.heap.size w2 w3 := hgr.but.below (Nat.le_refl _) fun x hx => by cases hx
 have HB3 := Hd (HB1.out.trans ((HB2.out.trans (hb23.mono HB2.out.size)).mono HB1.out.size))
 obtain ⟨AN, cN, rfl, hls⟩ := (HOS.out.later hb23).list (by have := HRL.out; omega)
 obtain ⟨nb, no, hAN, hnl, hnat⟩ := hls.ex
 obtain ⟨AG, cG, gb, go, rfl, hAG, hgat⟩ := hog.spread
 have HAN := Hd hAN
 have HNAT := Hd hnat
 have HAG := Hd hAG
 have HGAT := Hd hgat
 clear x0 x1 x2 x3 x4 x5 y0 y1 y2 y3 y4 y5 hog hgr hb23 hls hAN hnl hnat hAG hgat KA HOS HB2
 go_wp2_with fail
 go_loopw [7, 8] (fun ov iv wr => ∃ (i : Nat) (lx : Value) (wo : World), lx = ov ∧ wo = wr ∧ i ≤ l'.length ∧ iv = .int .i64 i ∧ FdR w3.heap.size wo lx ((l'.take i).map (stdF G)) ∧ Below w3.heap.size w3 wo) (fun _ iv _ => l'.length - (intOf iv).toNat)
 case atStart => exact ⟨0, _, _, rfl, rfl, by omega, rfl, OwnE.nil, Below.refl _ _⟩
 case round =>
  obtain ⟨i, lx, wo, e1, e2, hi, rfl, hro, hbo⟩ := hrel
  subst e1 e2
  have HRO := Hd hro
  have HBO := Hd hbo
  clear hro hbo
  by_cases hin : i < l'.length
  ·have t1 : decide ((i : Int) < (l'.length : Int)) = true := by simp; omega
   have wr2 : wrap64 ((i : Int) + 1) = ((i + 1 : Nat) : Int) := wrap_one (by have := HRL.out; omega)
   have HM := Hd (measI hin)
   have HIn : Hid (i + 1 ≤ l'.length) := Hd hin
   have i1 : (0 : Int) ≤ (i : Int) := by omega
   have i2 : (i : Int) < (l'.length : Int) := by omega
   have hA := HAN.out (by omega)
   subst hA
   have hn0 := HNAT.out i hin
   have HTK : Hid ((l'.take (i + 1)).map (stdF G) = (l'.take i).map (stdF G) ++ [stdF G (l'[i]'hin)]) := Hd (by rw [List.take_succ_eq_append_getElem hin, List.map_append]; rfl)
   generalize l'[i] = nm at hn0 HTK
   have HN0 := Hd hn0
   have HTL : Hid (((l'.take i).map (stdF G)).length = i) := Hd (by simp; omega)
   clear hn0
   go_wp2_with fail
   go_loopw [9, 10] (fun av kv wr => ∃ (q : Nat) (la : Value) (wi : World), la = av ∧ wi = wr ∧ q ≤ G.length ∧ kv = .int .i64 q ∧ OutB (fun b => b < w3.heap.size) w3 wi wo.heap.size la (gatN nm (G.take q)) ∧ Below wo.heap.size wo wi) (fun _ kv _ => G.length - (intOf kv).toNat)
   case atStart => exact ⟨0, _, _, rfl, rfl, by omega, rfl, OutB.nil _ _ _ _, Below.refl _ _⟩
   case round =>
    obtain ⟨q, la, wi, e1, e2, hq, rfl, hra, hbi⟩ := hrel
    subst e1 e2
    have HRA := Hd hra
    have HBI := Hd hbi
    have HBA := Hd (HBO.out.trans (hbi.mono HBO.out.size))
    clear hra hbi
    by_cases hqn : q < G.length
    ·have t2 : decide ((q : Int) < (G.length : Int)) = true := by simp; omega
     have wr3 : wrap64 ((q : Int) + 1) = ((q + 1 : Nat) : Int) := wrap_one (by have := HGL.out; omega)
     have HMQ := Hd (measI hqn)
     have HQn : Hid (q + 1 ≤ G.length) := Hd hqn
     have j1 : (0 : Int) ≤ (q : Int) := by omega
     have j2 : (q : Int) < (G.length : Int) := by omega
     have hA := (HAG.out (by omega)).1
     subst hA
     obtain ⟨cs, hfd, hcl, hcs⟩ := HGAT.out q hqn
     have hgt := gatN_take nm G q hqn
     have hql : (gatN nm (G.take q)).length ≤ q := Nat.le_trans (gatN_len _ _) (by rw [List.length_take]; omega)
     obtain ⟨rs, rfl, hrt⟩ := hfd
     generalize G[q] = gx at hrt hgt hcs
     obtain ⟨ng, tg⟩ := gx
     obtain ⟨k3, s3, n3, ps3, fs3, vs3⟩ := tg
     obtain ⟨A3, c3, B3, d3, C3, e3, rfl, -⟩ := hrt.inv
     simp only [cells6T] at hrt hcs
     have HG0 : Hid (w3.cell? ⟨gb, go + q * 7, none⟩ = some (.string ng)) := Hd (hcs 0 _ rfl)
     have HG6 : Hid (w3.cell? ⟨gb, go + q * 7 + 1, none⟩ = some (.int .i64 k3) ∧ w3.cell? ⟨gb, go + q * 7 + 2, none⟩ = some (.string s3) ∧ w3.cell? ⟨gb, go + q * 7 + 3, none⟩ = some (.int .i64 n3) ∧ w3.cell? ⟨gb, go + q * 7 + 4, none⟩ = some (.slice A3 ps3.length c3) ∧ w3.cell? ⟨gb, go + q * 7 + 5, none⟩ = some (.slice B3 fs3.length d3) ∧ w3.cell? ⟨gb, go + q * 7 + 6, none⟩ = some (.slice C3 vs3.length e3)) := Hd ⟨hcs 1 _ rfl, hcs 2 _ rfl, hcs 3 _ rfl, hcs 4 _ rfl, hcs 5 _ rfl, hcs 6 _ rfl⟩
     have HRT := Hd hrt
     have HGT := Hd hgt
     have HQL := Hd hql
     have HS11 : Hid (∀ wx, Below wi.heap.size wi wx → wx.cell? ⟨gb, go + q * 7, none⟩ = some (.string ng) ∧ wx.cell? ⟨nb, no + i, none⟩ = some (.string nm)) := Hd fun wx hx => ⟨cell_stays (HBA.out.trans (hx.mono HBA.out.size)) HG0.out, cell_stays (HBA.out.trans (hx.mono HBA.out.size)) HN0.out⟩
     clear hcl hcs hrt hgt hql hq
     go_upto_region 11 with fail
     by_cases hnm : ng = nm
     ·have g1 : (ng.toList == nm.toList) = true := by rw [eqT]; exact decide_eq_true hnm
      refine wp_region_held_drew (S := (fun w' => w'.cell? ⟨gb, go + q * 7, none⟩ = some (.string ng) ∧ w'.cell? ⟨nb, no + i, none⟩ = some (.string nm))) (by kernel_rfl) (HS11.out _ (Below.refl _ _).drew) (fun hHeld => ?_)
      refine Plan.start [0, 1, 2, 3, 4, 5, 6, 7, 8, 9] ?_
      iterate 10 (refine Plan.tk (so rfl) hHeld ?_; try simp only [Act.put, pz1, pz2, pz3])
      refine Plan.done ?_
      refine wpAnyH_done (by kernel_rfl) ?_ _
      clear hHeld
      have HTQ : Hid (gatN nm (G.take (q + 1)) = gatN nm (G.take q) ++ [.mk k3 s3 n3 ps3 fs3 vs3]) := Hd (by rw [HGT.out, if_pos hnm])
      clear hnm
      obtain ⟨vs0, hown, hreps⟩ := HRA.out
      obtain ⟨wb, hwb⟩ : ∃ x, x = (wi.alloc (.cells #[.int .i64 k3, .string s3, .int .i64 n3, .slice A3 ps3.length c3, .slice B3 fs3.length d3, .slice C3 vs3.length e3] 26)).drew := ⟨_, rfl⟩
      have hbb : Below wi.heap.size wi wb := by rw [hwb]; exact ((Below.refl _ _).alloc (Nat.le_refl _) _).drew
      have hxb : wb.heap[wi.heap.size]? = some (.cells #[.int .i64 k3, .string s3, .int .i64 n3, .slice A3 ps3.length c3, .slice B3 fs3.length d3, .slice C3 vs3.length e3] 26 (0, 0)) := by rw [hwb]; exact heap_alloc_new wi _
      have hoc := one_cells HRT.out
      have HOWN := Hd (ownsRow_keep hown fun b e => hbb.block b (hown.lt b e).2)
      have HFIN := Hd fun (w' : World) (v' : Value) (ho : w'.ownsRow wo.heap.size 26 6 v' ((gatN nm (G.take q)).length + 1) (vs0 ++ [.int .i64 k3, .string s3, .int .i64 n3, .slice A3 ps3.length c3, .slice B3 fs3.length d3, .slice C3 vs3.length e3])) => OutB.push (K := fun b => b < w3.heap.size) (t := Ty.mk k3 s3 n3 ps3 fs3 vs3) (cs := [.int .i64 k3, .string s3, .int .i64 n3, .slice A3 ps3.length c3, .slice B3 fs3.length d3, .slice C3 vs3.length e3]) hown.1 hreps (RepT.weak HRT.out fun b hb => hb.1) ho
      have HLO : Hid (∀ b, la.ownBlock = some b → wo.heap.size ≤ b) := Hd fun b e => (hown.lt b e).1
      obtain ⟨i0, hi0, hz0, hz1, hz2⟩ := partsT infoTy
      have HXB := Hd hxb
      have HOC := Hd hoc
      have HWB := Hd hwb
      have HBB := Hd hbb
      have HWS : Hid (wo.heap.size ≤ wb.heap.size) := Hd (Nat.le_trans HBI.out.size hbb.size)
      obtain ⟨z1, z2, z3, z4, z5, z6⟩ : wi.drew.cell? ⟨gb, go + q * 7 + 1, none⟩ = some (.int .i64 k3) ∧ wi.drew.cell? ⟨gb, go + q * 7 + 2, none⟩ = some (.string s3) ∧ wi.drew.cell? ⟨gb, go + q * 7 + 3, none⟩ = some (.int .i64 n3) ∧ wi.drew.cell? ⟨gb, go + q * 7 + 4, none⟩ = some (.slice A3 ps3.length c3) ∧ wi.drew.cell? ⟨gb, go + q * 7 + 5, none⟩ = some (.slice B3 fs3.length d3) ∧ wi.drew.cell? ⟨gb, go + q * 7 + 6, none⟩ = some (.slice C3 vs3.length e3) := by
       obtain ⟨a1, a2, a3, a4, a5, a6⟩ := HG6.out
       have hbd := HBA.out.trans ((Below.refl wi.heap.size wi).drew.mono HBA.out.size)
       exact ⟨cell_stays hbd a1, cell_stays hbd a2, cell_stays hbd a3, cell_stays hbd a4, cell_stays hbd a5, cell_stays hbd a6⟩
      clear hown hreps hwb hbb hxb hoc
      go_wp2_with (at_builtin; refine wpList_plain rfl fun Kx hK => ?_; rw [← HWB.out]; go_loud (refine wp_append_own_at _ _ 22 rfl wo.heap.size 26 i0 _ 6 104 sliceTy hi0 hz0 hz1 hz2 (by decide) (by decide) _ _ _ rfl HOWN.out ⟨wi.heap.size, 0, none⟩ 1 1 [.int .i64 k3, .string s3, .int .i64 n3, .slice A3 ps3.length c3, .slice B3 fs3.length d3, .slice C3 vs3.length e3] rfl rfl ?a0 ?a1 ?a2 ?a3 ?a4 ?_))
      case a0 =>
       intro j u hj
       first | exact row_cell HXB.out hj | (rw [add_zero']; exact row_cell HXB.out hj)
      case a1 => first | exact HOC.out | (intro u hu; exact HOC.out u (by simpa [cells6T] using hu)) | (simpa [cells6T] using HOC.out)
      case a2 => have := HQL.out; have := HQn.out; have := HGL.out; unfold maxLen; omega
      case a3 => have := HQL.out; have := HQn.out; have := HGL.out; omega
      case a4 => exact HWS.out
      intro v5 w5 hown5 hg5 _ _
      refine hK _ _ ?_
      clear hK Kx
      have HF := Hd (HFIN.out w5 v5 hown5)
      have HB5 := Hd ((HBI.out.trans (HBB.out.mono HBI.out.size)).grown hg5 HWS.out fun k hk => HLO.out k hk)
      clear hown5 hg5 HFIN z1 z2 z3 z4 z5 z6
      go_wp2_with fail
      refine ⟨⟨q + 1, v5, w5, by first | rfl | trivial, by first | rfl | trivial, HQn.out, by first | rfl | rw [wr3], by rw [HTQ.out]; exact HF.out, HB5.out⟩, ?_⟩
      first | exact HMQ.out | (rw [wr3]; exact HMQ.out)
     ·have g1 : (ng.toList == nm.toList) = false := by rw [eqT]; exact decide_eq_false hnm
      refine wp_region_held_drew (S := (fun w' => w'.cell? ⟨gb, go + q * 7, none⟩ = some (.string ng) ∧ w'.cell? ⟨nb, no + i, none⟩ = some (.string nm))) (by kernel_rfl) (HS11.out _ (Below.refl _ _).drew) (fun hHeld => ?_)
      refine Plan.start [0, 1, 2, 3, 4, 5, 6, 7, 8, 9] ?_
      iterate 10 (refine Plan.tk (so rfl) hHeld ?_; try simp only [Act.put, pz1, pz2, pz3])
      refine Plan.done ?_
      refine wpAnyH_done (by kernel_rfl) ?_ _
      clear hHeld
      have HTQ : Hid (gatN nm (G.take (q + 1)) = gatN nm (G.take q)) := Hd (by rw [HGT.out, if_neg hnm, List.append_nil])
      clear hnm
      go_wp2_with fail
      refine ⟨⟨q + 1, la, wi.drew, by first | rfl | trivial, by first | rfl | trivial, HQn.out, by first | rfl | rw [wr3], by rw [HTQ.out]; exact HRA.out.later (Below.refl _ _).drew, HBI.out.trans ((Below.refl _ _).drew.mono HBI.out.size)⟩, ?_⟩
      first | exact HMQ.out | (rw [wr3]; exact HMQ.out)
    ·have t2 : decide ((q : Int) < (G.length : Int)) = false := by simp; omega
     have hra := HRA.out
     rw [List.take_of_length_le (by omega)] at hra
     have HRB := Hd hra
     obtain ⟨hfl, hcn, hgl⟩ := HGF.out nm
     obtain ⟨Aa, ca, hla, hll0⟩ := hra.list (fun b h => h) HBA.out (by omega)
     subst hla
     have hll := hll0.both
     have HLL := Hd hll
     have HCN := Hd hcn
     have HFL := Hd hfl
     have hs16 : stdF G nm = (nm, stdT (gatN nm G)) := rfl
     rw [hs16] at HTK
     generalize gatN nm G = la2 at HLL HCN HFL HTK hgl ⊢
     obtain ⟨w5, hw5⟩ : ∃ x, x = wi.alloc (.cells #[.int .i64 2, .string ⟨#[]⟩, .int .i64 0, .slice none 0 0, .slice none 0 0, .slice none 0 0] 26) := ⟨_, rfl⟩
     have hb5 : Below wi.heap.size wi w5 := by rw [hw5]; exact (Below.refl _ _).alloc (Nat.le_refl _) _
     have HX5 : Hid (w5.heap[wi.heap.size]? = some (.cells #[.int .i64 2, .string ⟨#[]⟩, .int .i64 0, .slice none 0 0, .slice none 0 0, .slice none 0 0] 26 (0, 0))) := Hd (by rw [hw5]; exact heap_alloc_new wi _)
     have HB5 := Hd hb5
     have HW5 := Hd hw5
     have HBA5 := Hd (HBA.out.trans (hb5.mono HBA.out.size))
     have HBO5 := Hd (HBI.out.trans (hb5.mono HBI.out.size))
     clear hra hfl hcn hll hll0 hs16 hw5 hb5 hq
     go_upto_region 14 with fail
     rw [← HW5.out]
     by_cases h0 : la2 = []
     ·subst h0
      simp only [List.length_nil] at *
      have HU : Hid (stdT [] = tyK 2) := Hd (if_pos rfl)
      go_upto_region 16 with fail
      obtain ⟨vs0, hown, hreps⟩ := HRO.out
      have hbow : Below wo.heap.size wo w5 := HBO5.out
      have HOWN := Hd (ownsRow_keep hown fun b e => hbow.block b (hown.lt b e).2)
      have HOLT : Hid (∀ b, lx.ownBlock = some b → b < w5.heap.size) := Hd fun b e => Nat.lt_of_lt_of_le (hown.lt b e).2 hbow.size
      have HOLW : Hid (∀ b, lx.ownBlock = some b → b < wo.heap.size) := Hd fun b e => (hown.lt b e).2
      have HOLO : Hid (∀ b, lx.ownBlock = some b → w3.heap.size ≤ b) := Hd fun b e => (hown.lt b e).1
      have HNB : Hid (nb < w3.heap.size) := Hd (World.block_lt_of_cell? _ _ HN0.out)
      have HFIN := Hd fun (w8 w' : World) (v' : Value) (h8 : Below w5.heap.size w5 w8) (ho : w'.ownsRow w3.heap.size 38 7 v' (((l'.take i).map (stdF G)).length + 1) (vs0 ++ [.string nm, .int .i64 2, .string ⟨#[]⟩, .int .i64 0, .slice none 0 0, .slice none 0 0, .slice none 0 0])) (hg : w8.grownBy w' lx.ownBlock) (hob : v'.ownBlock = lx.ownBlock ∨ v'.ownBlock = some w8.heap.size) => OwnE.push (E := FdE) (a := (nm, stdT [])) (cs := [.string nm, .int .i64 2, .string ⟨#[]⟩, .int .i64 0, .slice none 0 0, .slice none 0 0, .slice none 0 0]) keepFd hown hreps (hbow.trans (h8.mono hbow.size)) ⟨_, rfl, by rw [HU.out]; exact rep_k _ _ 2⟩ rfl ho hg hob
      obtain ⟨i0, hi0, hz0, hz1, hz2⟩ := partsT infoFd
      have HS16 : Hid (∀ wx, Below w5.heap.size w5 wx → wx.cell? ⟨nb, no + i, none⟩ = some (.string nm) ∧ (wx.cell? ⟨wi.heap.size, 0, none⟩ = some (.int .i64 2) ∧ wx.cell? ⟨wi.heap.size, 1, none⟩ = some (.string ⟨#[]⟩) ∧ wx.cell? ⟨wi.heap.size, 2, none⟩ = some (.int .i64 0) ∧ wx.cell? ⟨wi.heap.size, 3, none⟩ = some (.slice none 0 0) ∧ wx.cell? ⟨wi.heap.size, 4, none⟩ = some (.slice none 0 0) ∧ wx.cell? ⟨wi.heap.size, 5, none⟩ = some (.slice none 0 0))) := Hd fun wx hx => by
       have h := box_up hx (Array.getElem?_eq_some_iff.1 HX5.out).1 HX5.out
       exact ⟨cell_stays (HBA5.out.trans (hx.mono HBA5.out.size)) HN0.out, Ch h 0, Ch h 1, Ch h 2, Ch h 3, Ch h 4, Ch h 5⟩
      clear hown hreps hbow
      refine wp_region_held_drew (S := (fun w' => w'.cell? ⟨nb, no + i, none⟩ = some (.string nm) ∧ (w'.cell? ⟨wi.heap.size, 0, none⟩ = some (.int .i64 2) ∧ w'.cell? ⟨wi.heap.size, 1, none⟩ = some (.string ⟨#[]⟩) ∧ w'.cell? ⟨wi.heap.size, 2, none⟩ = some (.int .i64 0) ∧ w'.cell? ⟨wi.heap.size, 3, none⟩ = some (.slice none 0 0) ∧ w'.cell? ⟨wi.heap.size, 4, none⟩ = some (.slice none 0 0) ∧ w'.cell? ⟨wi.heap.size, 5, none⟩ = some (.slice none 0 0)))) (by kernel_rfl) (HS16.out _ (Below.refl _ _).drew) (fun hHeld => ?_)
      refine Plan.start [0, 1, 2, 3, 4, 5, 6] ?_
      iterate 7 (refine Plan.tk (so rfl) hHeld ?_; try simp only [Act.put, pz1, pz2, pz3])
      refine Plan.done ?_
      refine wpAnyH_ready (rs := [7]) (by kernel_rfl) (by simp) ?_
      refine AllReadyH.cons (sd (some 60) rfl) (fun Kx hK => ?_) AllReadyH.nil
      go_simp
      generalize hW : World.drew (w5.alloc (.cells #[.string nm, .int .i64 2, .string ⟨#[]⟩, .int .i64 0, .slice none 0 0, .slice none 0 0, .slice none 0 0] 38)) = w8
      have hb : Below w5.heap.size w5 w8 := by rw [← hW]; exact ((Below.refl _ _).alloc (Nat.le_refl _) _).drew
      have hx : w8.heap[w5.heap.size]? = some (.cells #[.string nm, .int .i64 2, .string ⟨#[]⟩, .int .i64 0, .slice none 0 0, .slice none 0 0, .slice none 0 0] 38 (0, 0)) := by rw [← hW]; exact heap_alloc_new w5 _
      have HB8 := Hd hb
      have HX8 := Hd hx
      clear hW hb hx
      refine hK.out _ _ (HS16.out _ HB8.out) (fun hHeld => ?_)
      clear hK Kx
      try simp only [Act.put, pz1, pz2, pz3]
      refine wpAnyH_ready (rs := [8]) (by kernel_rfl) (by simp) ?_
      refine AllReadyH.cons (sd (some 61) rfl) (fun Kx hK => ?_) AllReadyH.nil
      rw [if_pos (by rfl)]
      refine wp_append_own_at _ _ 33 rfl w3.heap.size 38 i0 _ 7 120 Tryz.underlying33 hi0 hz0 hz1 hz2 (by decide) (by decide) _ _ _ rfl (ownsRow_keep HOWN.out fun b e => HB8.out.block b (HOLT.out b e)) ⟨w5.heap.size, 0, none⟩ 1 1 [.string nm, .int .i64 2, .string ⟨#[]⟩, .int .i64 0, .slice none 0 0, .slice none 0 0, .slice none 0 0] rfl rfl ?_ ?_ ?_ ?_ (Nat.le_trans HBA5.out.size HB8.out.size) ?_
      ·intro j u hj
       rw [add_zero']
       exact row_cell HX8.out hj
      ·intro u hu
       rcases List.mem_cons.1 hu with rfl | hu
       ·rfl
       ·exact one_cells (rep_k (fun _ => True) w5 2) u hu
      ·have h1 := HTL.out; have h2 := HIn.out; have h3 := HRL.out; unfold maxLen; omega
      ·have h1 := HTL.out; have h2 := HIn.out; have h3 := HRL.out; omega
      intro v9 w9 hown9 hg9 _ hob9
      have HF9 := Hd (HFIN.out w8 w9 v9 HB8.out hown9 hg9 hob9)
      have HB9 := Hd ((HBA5.out.trans (HB8.out.mono HBA5.out.size)).grown hg9 (Nat.le_trans HBA5.out.size HB8.out.size) fun k hk => HOLO.out k hk)
      have HS9 : Hid (w9.cell? ⟨nb, no + i, none⟩ = some (.string nm) ∧ (w9.cell? ⟨wi.heap.size, 0, none⟩ = some (.int .i64 2) ∧ w9.cell? ⟨wi.heap.size, 1, none⟩ = some (.string ⟨#[]⟩) ∧ w9.cell? ⟨wi.heap.size, 2, none⟩ = some (.int .i64 0) ∧ w9.cell? ⟨wi.heap.size, 3, none⟩ = some (.slice none 0 0) ∧ w9.cell? ⟨wi.heap.size, 4, none⟩ = some (.slice none 0 0) ∧ w9.cell? ⟨wi.heap.size, 5, none⟩ = some (.slice none 0 0))) := Hd (by
       have h := HS16.out _ HB8.out
       have hn1 : ∀ o' u', w8.cell? ⟨nb, o', none⟩ = some u' → w9.cell? ⟨nb, o', none⟩ = some u' := fun o' u' hc => (World.cell?_of_block (hg9.block nb (World.block_lt_of_cell? _ _ hc) fun e => by have h1 := HOLO.out _ e.symm; have h2 := HNB.out; omega)).trans hc
       have hn2 : ∀ o' u', w8.cell? ⟨wi.heap.size, o', none⟩ = some u' → w9.cell? ⟨wi.heap.size, o', none⟩ = some u' := fun o' u' hc => (World.cell?_of_block (hg9.block _ (World.block_lt_of_cell? _ _ hc) fun e => by have h1 : wi.heap.size < wo.heap.size := HOLW.out _ e.symm; have h2 := HBI.out.size; omega)).trans hc
       exact ⟨hn1 _ _ h.1, hn2 _ _ h.2.1, hn2 _ _ h.2.2.1, hn2 _ _ h.2.2.2.1, hn2 _ _ h.2.2.2.2.1, hn2 _ _ h.2.2.2.2.2.1, hn2 _ _ h.2.2.2.2.2.2⟩)
      clear hown9 hg9 hob9 HFIN
      refine hK.out _ _ (HS9.out) (fun hHeld => ?_)
      clear hK Kx
      try simp only [Act.put, pz1, pz2, pz3]
      refine Plan.start [9] ?_
      refine Plan.tk (so rfl) hHeld ?_
      try simp only [Act.put, pz1, pz2, pz3]
      refine Plan.done ?_
      refine wpAnyH_done (by kernel_rfl) ?_ _
      clear hHeld
      go_wp2_with fail
      refine ⟨⟨i + 1, v9, w9, by first | rfl | trivial, by first | rfl | trivial, HIn.out, by first | rfl | rw [wr2], by rw [HTK.out]; exact HF9.out.1, HB9.out⟩, ?_⟩
      first | exact HM.out | (rw [wr2]; exact HM.out)
     ·have hp0 : 0 < la2.length := List.length_pos_iff.2 h0
      have HU : Hid (stdT la2 = unionT la2) := Hd (if_neg h0)
      have b0 : decide ((0 : Int) < ((la2.length : Nat) : Int)) = true := decide_eq_true (by omega)
      have b1 : decide (0 < la2.length) = true := decide_eq_true hp0
      have KU := Hd (uniL_big (HLL.out.later HB5.out) (fun b h => Nat.lt_of_lt_of_le h.2 HB5.out.size) HFL.out HCN.out)
      clear h0
      go_wp2_with fail
      refine KU.out.mono ?_
      rintro e w6 ⟨rs, rfl, hr6, hb6⟩
      have HB6 := Hd (HB5.out.trans (hb6.mono HB5.out.size))
      have HBA6 := Hd (HBA5.out.trans (hb6.mono HBA5.out.size))
      have HBO6 := Hd (HBO5.out.trans (hb6.mono HBO5.out.size))
      have HX6 := Hd (box_up hb6 (Array.getElem?_eq_some_iff.1 HX5.out).1 HX5.out)
      have hr' : RepT (fun b => ((b < w3.heap.size ∨ wo.heap.size ≤ b) ∧ b < w6.heap.size) ∧ b ≠ wi.heap.size) w6 (unionT la2) rs := hr6.both.weak fun b h => by
       have h1 := (Array.getElem?_eq_some_iff.1 HX5.out).1
       have h3 := HBI.out.size
       rcases h with ⟨⟨h, h4⟩ | h, h2⟩
       ·exact ⟨⟨h, h2⟩, by omega⟩
       ·exact ⟨⟨.inr (by omega), h2⟩, by omega⟩
      have HR6 := Hd hr'
      generalize hu : unionT la2 = u at hr' HR6
      have HUE := Hd hu
      obtain ⟨k8, s8, n8, ps8, fs8, vs8⟩ := u
      obtain ⟨A8, c8, B8, d8, C8, e8, rfl, -⟩ := hr'.inv
      simp only [cells6T] at HR6 ⊢
      clear KU hr6 hb6 hr' hu
      have rb := HX6.out
      obtain ⟨q0, q1, q2, q3, q4, q5, z0, z1, z2, z3, z4, z5⟩ := qz6 rb
      clear rb
      go_upto_region 16 with fail
      have hx7 := six_set HX6.out (.int .i64 k8) (.string s8) (.int .i64 n8) (.slice A8 ps8.length c8) (.slice B8 fs8.length d8) (.slice C8 vs8.length e8)
      have hba7 := set_six_below HBA6.out (by have := HBA.out.size; omega) (.int .i64 k8) (.string s8) (.int .i64 n8) (.slice A8 ps8.length c8) (.slice B8 fs8.length d8) (.slice C8 vs8.length e8)
      have hbo7 := set_six_below HBO6.out (by have := HBI.out.size; omega) (.int .i64 k8) (.string s8) (.int .i64 n8) (.slice A8 ps8.length c8) (.slice B8 fs8.length d8) (.slice C8 vs8.length e8)
      have hr7 := six_repG HR6.out (fun b h => h.2) (.int .i64 k8) (.string s8) (.int .i64 n8) (.slice A8 ps8.length c8) (.slice B8 fs8.length d8) (.slice C8 vs8.length e8)
      generalize hW : (World.setCell (World.setCell (World.setCell (World.setCell (World.setCell (World.setCell w6 ⟨wi.heap.size, 0, none⟩ (.int .i64 k8)) ⟨wi.heap.size, 1, none⟩ (.string s8)) ⟨wi.heap.size, 2, none⟩ (.int .i64 n8)) ⟨wi.heap.size, 3, none⟩ (.slice A8 ps8.length c8)) ⟨wi.heap.size, 4, none⟩ (.slice B8 fs8.length d8)) ⟨wi.heap.size, 5, none⟩ (.slice C8 vs8.length e8)) = w7 at hx7 hba7 hbo7 hr7 ⊢
      have hs7 : w7.heap.size = w6.heap.size := by rw [← hW]; simp [World.setCell]
      have HX7 := Hd hx7
      have HBA7 := Hd hba7
      have HBO7 := Hd hbo7
      have HR7 := Hd hr7
      have HS7 := Hd hs7
      clear hW hx7 hba7 hbo7 hr7 hs7 q0 q1 q2 q3 q4 q5 z0 z1 z2 z3 z4 z5
      obtain ⟨vs0, hown, hreps⟩ := HRO.out
      have hbow : Below wo.heap.size wo w7 := HBO7.out
      have HOWN := Hd (ownsRow_keep hown fun b e => hbow.block b (hown.lt b e).2)
      have HOLT : Hid (∀ b, lx.ownBlock = some b → b < w7.heap.size) := Hd fun b e => Nat.lt_of_lt_of_le (hown.lt b e).2 hbow.size
      have HOLW : Hid (∀ b, lx.ownBlock = some b → b < wo.heap.size) := Hd fun b e => (hown.lt b e).2
      have HOLO : Hid (∀ b, lx.ownBlock = some b → w3.heap.size ≤ b) := Hd fun b e => (hown.lt b e).1
      have HNB : Hid (nb < w3.heap.size) := Hd (World.block_lt_of_cell? _ _ HN0.out)
      have HFIN := Hd fun (w8 w' : World) (v' : Value) (h8 : Below w7.heap.size w7 w8) (ho : w'.ownsRow w3.heap.size 38 7 v' (((l'.take i).map (stdF G)).length + 1) (vs0 ++ [.string nm, .int .i64 k8, .string s8, .int .i64 n8, .slice A8 ps8.length c8, .slice B8 fs8.length d8, .slice C8 vs8.length e8])) (hg : w8.grownBy w' lx.ownBlock) (hob : v'.ownBlock = lx.ownBlock ∨ v'.ownBlock = some w8.heap.size) => OwnE.push (E := FdE) (a := (nm, stdT la2)) (cs := [.string nm, .int .i64 k8, .string s8, .int .i64 n8, .slice A8 ps8.length c8, .slice B8 fs8.length d8, .slice C8 vs8.length e8]) keepFd hown hreps (hbow.trans (h8.mono hbow.size)) ⟨_, rfl, by rw [HU.out, HUE.out]; exact (RepT.later HR7.out h8).weak fun b hb => ⟨by have h1 := h8.size; have h2 := HS7.out; omega, fun e => by have h1 := (hown.lt b e).1; have h2 := (hown.lt b e).2; omega⟩⟩ rfl ho hg hob
      obtain ⟨i0, hi0, hz0, hz1, hz2⟩ := partsT infoFd
      have HS16 : Hid (∀ wx, Below w7.heap.size w7 wx → wx.cell? ⟨nb, no + i, none⟩ = some (.string nm) ∧ (wx.cell? ⟨wi.heap.size, 0, none⟩ = some (.int .i64 k8) ∧ wx.cell? ⟨wi.heap.size, 1, none⟩ = some (.string s8) ∧ wx.cell? ⟨wi.heap.size, 2, none⟩ = some (.int .i64 n8) ∧ wx.cell? ⟨wi.heap.size, 3, none⟩ = some (.slice A8 ps8.length c8) ∧ wx.cell? ⟨wi.heap.size, 4, none⟩ = some (.slice B8 fs8.length d8) ∧ wx.cell? ⟨wi.heap.size, 5, none⟩ = some (.slice C8 vs8.length e8))) := Hd fun wx hx => by
       have h := box_up hx (Array.getElem?_eq_some_iff.1 HX7.out).1 HX7.out
       exact ⟨cell_stays (HBA7.out.trans (hx.mono HBA7.out.size)) HN0.out, Ch h 0, Ch h 1, Ch h 2, Ch h 3, Ch h 4, Ch h 5⟩
      clear hown hreps hbow
      refine wp_region_held_drew (S := (fun w' => w'.cell? ⟨nb, no + i, none⟩ = some (.string nm) ∧ (w'.cell? ⟨wi.heap.size, 0, none⟩ = some (.int .i64 k8) ∧ w'.cell? ⟨wi.heap.size, 1, none⟩ = some (.string s8) ∧ w'.cell? ⟨wi.heap.size, 2, none⟩ = some (.int .i64 n8) ∧ w'.cell? ⟨wi.heap.size, 3, none⟩ = some (.slice A8 ps8.length c8) ∧ w'.cell? ⟨wi.heap.size, 4, none⟩ = some (.slice B8 fs8.length d8) ∧ w'.cell? ⟨wi.heap.size, 5, none⟩ = some (.slice C8 vs8.length e8)))) (by kernel_rfl) (HS16.out _ (Below.refl _ _).drew) (fun hHeld => ?_)
      refine Plan.start [0, 1, 2, 3, 4, 5, 6] ?_
      iterate 7 (refine Plan.tk (so rfl) hHeld ?_; try simp only [Act.put, pz1, pz2, pz3])
      refine Plan.done ?_
      refine wpAnyH_ready (rs := [7]) (by kernel_rfl) (by simp) ?_
      refine AllReadyH.cons (sd (some 60) rfl) (fun Kx hK => ?_) AllReadyH.nil
      go_simp
      generalize hW : World.drew (w7.alloc (.cells #[.string nm, .int .i64 k8, .string s8, .int .i64 n8, .slice A8 ps8.length c8, .slice B8 fs8.length d8, .slice C8 vs8.length e8] 38)) = w8
      have hb : Below w7.heap.size w7 w8 := by rw [← hW]; exact ((Below.refl _ _).alloc (Nat.le_refl _) _).drew
      have hx : w8.heap[w7.heap.size]? = some (.cells #[.string nm, .int .i64 k8, .string s8, .int .i64 n8, .slice A8 ps8.length c8, .slice B8 fs8.length d8, .slice C8 vs8.length e8] 38 (0, 0)) := by rw [← hW]; exact heap_alloc_new w7 _
      have HB8 := Hd hb
      have HX8 := Hd hx
      clear hW hb hx
      refine hK.out _ _ (HS16.out _ HB8.out) (fun hHeld => ?_)
      clear hK Kx
      try simp only [Act.put, pz1, pz2, pz3]
      refine wpAnyH_ready (rs := [8]) (by kernel_rfl) (by simp) ?_
      refine AllReadyH.cons (sd (some 61) rfl) (fun Kx hK => ?_) AllReadyH.nil
      rw [if_pos (by rfl)]
      refine wp_append_own_at _ _ 33 rfl w3.heap.size 38 i0 _ 7 120 Tryz.underlying33 hi0 hz0 hz1 hz2 (by decide) (by decide) _ _ _ rfl (ownsRow_keep HOWN.out fun b e => HB8.out.block b (HOLT.out b e)) ⟨w7.heap.size, 0, none⟩ 1 1 [.string nm, .int .i64 k8, .string s8, .int .i64 n8, .slice A8 ps8.length c8, .slice B8 fs8.length d8, .slice C8 vs8.length e8] rfl rfl ?_ ?_ ?_ ?_ (Nat.le_trans HBA7.out.size HB8.out.size) ?_
      ·intro j u hj
       rw [add_zero']
       exact row_cell HX8.out hj
      ·intro u hu
       rcases List.mem_cons.1 hu with rfl | hu
       ·rfl
       ·exact one_cells HR7.out u hu
      ·have h1 := HTL.out; have h2 := HIn.out; have h3 := HRL.out; unfold maxLen; omega
      ·have h1 := HTL.out; have h2 := HIn.out; have h3 := HRL.out; omega
      intro v9 w9 hown9 hg9 _ hob9
      have HF9 := Hd (HFIN.out w8 w9 v9 HB8.out hown9 hg9 hob9)
      have HB9 := Hd ((HBA7.out.trans (HB8.out.mono HBA7.out.size)).grown hg9 (Nat.le_trans HBA7.out.size HB8.out.size) fun k hk => HOLO.out k hk)
      have HS9 : Hid (w9.cell? ⟨nb, no + i, none⟩ = some (.string nm) ∧ (w9.cell? ⟨wi.heap.size, 0, none⟩ = some (.int .i64 k8) ∧ w9.cell? ⟨wi.heap.size, 1, none⟩ = some (.string s8) ∧ w9.cell? ⟨wi.heap.size, 2, none⟩ = some (.int .i64 n8) ∧ w9.cell? ⟨wi.heap.size, 3, none⟩ = some (.slice A8 ps8.length c8) ∧ w9.cell? ⟨wi.heap.size, 4, none⟩ = some (.slice B8 fs8.length d8) ∧ w9.cell? ⟨wi.heap.size, 5, none⟩ = some (.slice C8 vs8.length e8))) := Hd (by
       have h := HS16.out _ HB8.out
       have hn1 : ∀ o' u', w8.cell? ⟨nb, o', none⟩ = some u' → w9.cell? ⟨nb, o', none⟩ = some u' := fun o' u' hc => (World.cell?_of_block (hg9.block nb (World.block_lt_of_cell? _ _ hc) fun e => by have h1 := HOLO.out _ e.symm; have h2 := HNB.out; omega)).trans hc
       have hn2 : ∀ o' u', w8.cell? ⟨wi.heap.size, o', none⟩ = some u' → w9.cell? ⟨wi.heap.size, o', none⟩ = some u' := fun o' u' hc => (World.cell?_of_block (hg9.block _ (World.block_lt_of_cell? _ _ hc) fun e => by have h1 : wi.heap.size < wo.heap.size := HOLW.out _ e.symm; have h2 := HBI.out.size; omega)).trans hc
       exact ⟨hn1 _ _ h.1, hn2 _ _ h.2.1, hn2 _ _ h.2.2.1, hn2 _ _ h.2.2.2.1, hn2 _ _ h.2.2.2.2.1, hn2 _ _ h.2.2.2.2.2.1, hn2 _ _ h.2.2.2.2.2.2⟩)
      clear hown9 hg9 hob9 HFIN
      refine hK.out _ _ (HS9.out) (fun hHeld => ?_)
      clear hK Kx
      try simp only [Act.put, pz1, pz2, pz3]
      refine Plan.start [9] ?_
      refine Plan.tk (so rfl) hHeld ?_
      try simp only [Act.put, pz1, pz2, pz3]
      refine Plan.done ?_
      refine wpAnyH_done (by kernel_rfl) ?_ _
      clear hHeld
      go_wp2_with fail
      refine ⟨⟨i + 1, v9, w9, by first | rfl | trivial, by first | rfl | trivial, HIn.out, by first | rfl | rw [wr2], by rw [HTK.out]; exact HF9.out.1, HB9.out⟩, ?_⟩
      first | exact HM.out | (rw [wr2]; exact HM.out)
  ·have t1 : decide ((i : Int) < (l'.length : Int)) = false := by simp; omega
   have HE : Hid (FdR w3.heap.size wo lx (l'.map (stdF G))) := Hd (by have h := HRO.out; rw [List.take_of_length_le (by omega)] at h; exact h)
   clear hi
   go_wp2_with fail
   go_ret
   exact ⟨_, rfl, HE.out.base HB3.out.size, HB3.out.trans (HBO.out.mono HB3.out.size)⟩
end Go.Proofs.YtjbccjmpebgdjaaGreatDoor
