import Derived.Test.YtjbccjmpebgdjaaGreatDoorMg41
import Derived.Test.YtjbccjmpebgdjaaGreatDoorMg46
namespace Go.Proofs.YtjbccjmpebgdjaaGreatDoor
open Go.RowKit
set_option maxRecDepth 100000
set_option maxHeartbeats 64000000
theorem rgat_t {K K' : Nat → Prop} {w : World} {t p : Ty} {cs ds : List Value} (hr : RepT K w t cs) (hp : RepT K' w p ds) (hft : formedT t = false) :
  Calls Tryz.prog 8 #[.agg cs.toArray, .agg ds.toArray] w fun e w' => e = .returned (.tuple #[.slice none 0 0, .int .i64 4]) ∧ Below w.heap.size w w' := by
 have kf1 := fun (wx : World) (hx : Below w.heap.size w wx) => formed_ref (hr.later hx)
 have kf2 := fun (wx : World) (hx : Below w.heap.size w wx) => formed_ref (hp.later hx)
 rw [hft] at kf1
 obtain ⟨k, s, n, ps, fs, vs⟩ := t
 obtain ⟨k2, s2, n2, ps2, fs2, vs2⟩ := p
 refine two_pre hr hp fun A c B d C e A2 c2 B2 d2 C2 e2 w1 h hcs hds => ?_
 subst hcs
 subst hds
 obtain ⟨HBX, HB1, HW1, -, -⟩ := h
 have hb1 := HB1.out
 have HF1 := Hd fun wx (hx : Below w1.heap.size w1 wx) => kf1 wx (hb1.trans (hx.mono hb1.size))
 have HF2 := Hd fun wx (hx : Below w1.heap.size w1 wx) => kf2 wx (hb1.trans (hx.mono hb1.size))
 clear kf1 kf2 hr hp hft hb1
 go_enter Tryz.func8, Tryz.ntmps8
 go_upto_region 1 with fail
 rw [← HW1.out]
 obtain ⟨⟨x0, x1, x2, x3, x4, x5⟩, ⟨y0, y1, y2, y3, y4, y5⟩⟩ := HBX.out _ (Below.refl _ _)
 go_wp2_with fail
 refine (HF1.out _ (Below.refl _ _)).mono ?_
 rintro e w2 ⟨rfl, hb⟩
 have HB2 := Hd ((Below.refl w1.heap.size w1).trans (hb.mono (Below.refl w1.heap.size w1).size))
 clear hb x0 x1 x2 x3 x4 x5 y0 y1 y2 y3 y4 y5
 obtain ⟨⟨x0, x1, x2, x3, x4, x5⟩, ⟨y0, y1, y2, y3, y4, y5⟩⟩ := HBX.out _ HB2.out
 go_wp2_with fail
 refine bodyPost_ret (v := .tuple #[.slice none 0 0, .int .i64 4]) (by simp [results, Tryz.results8, go_sem]) rfl ?_
 exact ⟨rfl, HB1.out.trans (HB2.out.mono HB1.out.size)⟩
theorem rgat_p {K K' : Nat → Prop} {w : World} {t p : Ty} {cs ds : List Value} (hr : RepT K w t cs) (hp : RepT K' w p ds) (hft : formedT t = true) (hfp : formedT p = false) :
  Calls Tryz.prog 8 #[.agg cs.toArray, .agg ds.toArray] w fun e w' => e = .returned (.tuple #[.slice none 0 0, .int .i64 4]) ∧ Below w.heap.size w w' := by
 have kf1 := fun (wx : World) (hx : Below w.heap.size w wx) => formed_ref (hr.later hx)
 have kf2 := fun (wx : World) (hx : Below w.heap.size w wx) => formed_ref (hp.later hx)
 rw [hft] at kf1
 rw [hfp] at kf2
 obtain ⟨k, s, n, ps, fs, vs⟩ := t
 obtain ⟨k2, s2, n2, ps2, fs2, vs2⟩ := p
 refine two_pre hr hp fun A c B d C e A2 c2 B2 d2 C2 e2 w1 h hcs hds => ?_
 subst hcs
 subst hds
 obtain ⟨HBX, HB1, HW1, -, -⟩ := h
 have hb1 := HB1.out
 have HF1 := Hd fun wx (hx : Below w1.heap.size w1 wx) => kf1 wx (hb1.trans (hx.mono hb1.size))
 have HF2 := Hd fun wx (hx : Below w1.heap.size w1 wx) => kf2 wx (hb1.trans (hx.mono hb1.size))
 clear kf1 kf2 hr hp hft hfp hb1
 go_enter Tryz.func8, Tryz.ntmps8
 go_upto_region 1 with fail
 rw [← HW1.out]
 obtain ⟨⟨x0, x1, x2, x3, x4, x5⟩, ⟨y0, y1, y2, y3, y4, y5⟩⟩ := HBX.out _ (Below.refl _ _)
 go_wp2_with fail
 refine (HF1.out _ (Below.refl _ _)).mono ?_
 rintro e w2 ⟨rfl, hb⟩
 have HB2 := Hd ((Below.refl w1.heap.size w1).trans (hb.mono (Below.refl w1.heap.size w1).size))
 clear hb x0 x1 x2 x3 x4 x5 y0 y1 y2 y3 y4 y5
 obtain ⟨⟨x0, x1, x2, x3, x4, x5⟩, ⟨y0, y1, y2, y3, y4, y5⟩⟩ := HBX.out _ HB2.out
 go_wp2_with fail
 refine (HF2.out _ HB2.out).mono ?_
 rintro e w3 ⟨rfl, hb⟩
 have HB3 := Hd (HB2.out.trans (hb.mono HB2.out.size))
 clear hb x0 x1 x2 x3 x4 x5 y0 y1 y2 y3 y4 y5
 obtain ⟨⟨x0, x1, x2, x3, x4, x5⟩, ⟨y0, y1, y2, y3, y4, y5⟩⟩ := HBX.out _ HB3.out
 go_wp2_with fail
 refine bodyPost_ret (v := .tuple #[.slice none 0 0, .int .i64 4]) (by simp [results, Tryz.results8, go_sem]) rfl ?_
 exact ⟨rfl, HB1.out.trans (HB3.out.mono HB1.out.size)⟩
theorem cgat_t {K K' : Nat → Prop} {w : World} {t p : Ty} {cs ds : List Value} (hr : RepT K w t cs) (hp : RepT K' w p ds) (hft : formedT t = false) :
  Calls Tryz.prog 7 #[.agg cs.toArray, .agg ds.toArray] w fun e w' => e = .returned (.tuple #[.slice none 0 0, .int .i64 4]) ∧ Below w.heap.size w w' := by
 have kf1 := fun (wx : World) (hx : Below w.heap.size w wx) => Formed_any (hr.later hx)
 have kf2 := fun (wx : World) (hx : Below w.heap.size w wx) => Formed_any (hp.later hx)
 rw [hft] at kf1
 obtain ⟨k, s, n, ps, fs, vs⟩ := t
 obtain ⟨k2, s2, n2, ps2, fs2, vs2⟩ := p
 refine two_pre hr hp fun A c B d C e A2 c2 B2 d2 C2 e2 w1 h hcs hds => ?_
 subst hcs
 subst hds
 obtain ⟨HBX, HB1, HW1, -, -⟩ := h
 have hb1 := HB1.out
 have HF1 := Hd fun wx (hx : Below w1.heap.size w1 wx) => kf1 wx (hb1.trans (hx.mono hb1.size))
 have HF2 := Hd fun wx (hx : Below w1.heap.size w1 wx) => kf2 wx (hb1.trans (hx.mono hb1.size))
 clear kf1 kf2 hr hp hft hb1
 go_enter Tryz.func7, Tryz.ntmps7
 go_upto_region 1 with fail
 rw [← HW1.out]
 obtain ⟨⟨x0, x1, x2, x3, x4, x5⟩, ⟨y0, y1, y2, y3, y4, y5⟩⟩ := HBX.out _ (Below.refl _ _)
 go_wp2_with fail
 refine (HF1.out _ (Below.refl _ _)).mono ?_
 rintro e w2 ⟨rfl, hb⟩
 have HB2 := Hd ((Below.refl w1.heap.size w1).trans (hb.mono (Below.refl w1.heap.size w1).size))
 clear hb x0 x1 x2 x3 x4 x5 y0 y1 y2 y3 y4 y5
 obtain ⟨⟨x0, x1, x2, x3, x4, x5⟩, ⟨y0, y1, y2, y3, y4, y5⟩⟩ := HBX.out _ HB2.out
 go_wp2_with fail
 refine bodyPost_ret (v := .tuple #[.slice none 0 0, .int .i64 4]) (by simp [results, Tryz.results7, go_sem]) rfl ?_
 exact ⟨rfl, HB1.out.trans (HB2.out.mono HB1.out.size)⟩
theorem cgat_p {K K' : Nat → Prop} {w : World} {t p : Ty} {cs ds : List Value} (hr : RepT K w t cs) (hp : RepT K' w p ds) (hft : formedT t = true) (hfp : formedT p = false) :
  Calls Tryz.prog 7 #[.agg cs.toArray, .agg ds.toArray] w fun e w' => e = .returned (.tuple #[.slice none 0 0, .int .i64 4]) ∧ Below w.heap.size w w' := by
 have kf1 := fun (wx : World) (hx : Below w.heap.size w wx) => Formed_any (hr.later hx)
 have kf2 := fun (wx : World) (hx : Below w.heap.size w wx) => Formed_any (hp.later hx)
 rw [hft] at kf1
 rw [hfp] at kf2
 obtain ⟨k, s, n, ps, fs, vs⟩ := t
 obtain ⟨k2, s2, n2, ps2, fs2, vs2⟩ := p
 refine two_pre hr hp fun A c B d C e A2 c2 B2 d2 C2 e2 w1 h hcs hds => ?_
 subst hcs
 subst hds
 obtain ⟨HBX, HB1, HW1, -, -⟩ := h
 have hb1 := HB1.out
 have HF1 := Hd fun wx (hx : Below w1.heap.size w1 wx) => kf1 wx (hb1.trans (hx.mono hb1.size))
 have HF2 := Hd fun wx (hx : Below w1.heap.size w1 wx) => kf2 wx (hb1.trans (hx.mono hb1.size))
 clear kf1 kf2 hr hp hft hfp hb1
 go_enter Tryz.func7, Tryz.ntmps7
 go_upto_region 1 with fail
 rw [← HW1.out]
 obtain ⟨⟨x0, x1, x2, x3, x4, x5⟩, ⟨y0, y1, y2, y3, y4, y5⟩⟩ := HBX.out _ (Below.refl _ _)
 go_wp2_with fail
 refine (HF1.out _ (Below.refl _ _)).mono ?_
 rintro e w2 ⟨rfl, hb⟩
 have HB2 := Hd ((Below.refl w1.heap.size w1).trans (hb.mono (Below.refl w1.heap.size w1).size))
 clear hb x0 x1 x2 x3 x4 x5 y0 y1 y2 y3 y4 y5
 obtain ⟨⟨x0, x1, x2, x3, x4, x5⟩, ⟨y0, y1, y2, y3, y4, y5⟩⟩ := HBX.out _ HB2.out
 go_wp2_with fail
 refine (HF2.out _ HB2.out).mono ?_
 rintro e w3 ⟨rfl, hb⟩
 have HB3 := Hd (HB2.out.trans (hb.mono HB2.out.size))
 clear hb x0 x1 x2 x3 x4 x5 y0 y1 y2 y3 y4 y5
 obtain ⟨⟨x0, x1, x2, x3, x4, x5⟩, ⟨y0, y1, y2, y3, y4, y5⟩⟩ := HBX.out _ HB3.out
 go_wp2_with fail
 refine bodyPost_ret (v := .tuple #[.slice none 0 0, .int .i64 4]) (by simp [results, Tryz.results7, go_sem]) rfl ?_
 exact ⟨rfl, HB1.out.trans (HB3.out.mono HB1.out.size)⟩
theorem rgat_ok {K K' : Nat → Prop} {w : World} {t p : Ty} {cs ds : List Value} (hr : RepT K w t cs) (hp : RepT K' w p ds) (hft : formedT t = true) (hfp : formedT p = true) (hct : cntT p + cntT t ≤ 1000) :
  Calls Tryz.prog 8 #[.agg cs.toArray, .agg ds.toArray] w fun e w' => ∃ v, e = .returned (.tuple #[v, .int .i64 0]) ∧ FdR w.heap.size w' v ((riseS (namesI p)).map (stdF (gathT p t))) ∧ Below w.heap.size w w' := by
 have kf1 := fun (wx : World) (hx : Below w.heap.size w wx) => formed_ref (hr.later hx)
 have kf2 := fun (wx : World) (hx : Below w.heap.size w wx) => formed_ref (hp.later hx)
 have kg := fun (wx : World) (hx : Below w.heap.size w wx) => gathered_ref (hr.later hx) (hp.later hx) (formed_form hft) (formed_form hfp) hct
 rw [hft] at kf1
 rw [hfp] at kf2
 obtain ⟨k, s, n, ps, fs, vs⟩ := t
 obtain ⟨k2, s2, n2, ps2, fs2, vs2⟩ := p
 refine two_pre hr hp fun A c B d C e A2 c2 B2 d2 C2 e2 w1 h hcs hds => ?_
 subst hcs
 subst hds
 obtain ⟨HBX, HB1, HW1, -, -⟩ := h
 have hb1 := HB1.out
 have HF1 := Hd fun wx (hx : Below w1.heap.size w1 wx) => kf1 wx (hb1.trans (hx.mono hb1.size))
 have HF2 := Hd fun wx (hx : Below w1.heap.size w1 wx) => kf2 wx (hb1.trans (hx.mono hb1.size))
 have HKG := Hd fun wx (hx : Below w1.heap.size w1 wx) => kg wx (hb1.trans (hx.mono hb1.size))
 clear kf1 kf2 kg hr hp hft hfp hct hb1
 generalize (riseS (namesI (.mk k2 s2 n2 ps2 fs2 vs2))).map (stdF (gathT (.mk k2 s2 n2 ps2 fs2 vs2) (.mk k s n ps fs vs))) = L at HKG ⊢
 go_enter Tryz.func8, Tryz.ntmps8
 go_upto_region 1 with fail
 rw [← HW1.out]
 obtain ⟨⟨x0, x1, x2, x3, x4, x5⟩, ⟨y0, y1, y2, y3, y4, y5⟩⟩ := HBX.out _ (Below.refl _ _)
 go_wp2_with fail
 refine (HF1.out _ (Below.refl _ _)).mono ?_
 rintro e w2 ⟨rfl, hb⟩
 have HB2 := Hd ((Below.refl w1.heap.size w1).trans (hb.mono (Below.refl w1.heap.size w1).size))
 clear hb x0 x1 x2 x3 x4 x5 y0 y1 y2 y3 y4 y5
 obtain ⟨⟨x0, x1, x2, x3, x4, x5⟩, ⟨y0, y1, y2, y3, y4, y5⟩⟩ := HBX.out _ HB2.out
 go_wp2_with fail
 refine (HF2.out _ HB2.out).mono ?_
 rintro e w3 ⟨rfl, hb⟩
 have HB3 := Hd (HB2.out.trans (hb.mono HB2.out.size))
 clear hb x0 x1 x2 x3 x4 x5 y0 y1 y2 y3 y4 y5
 obtain ⟨⟨x0, x1, x2, x3, x4, x5⟩, ⟨y0, y1, y2, y3, y4, y5⟩⟩ := HBX.out _ HB3.out
 go_wp2_with fail
 refine (HKG.out _ HB3.out).mono ?_
 rintro e w4 ⟨v, rfl, ho, hb⟩
 have HB4 := Hd (HB3.out.trans (hb.mono HB3.out.size))
 have HO := Hd (ho.base (B' := w.heap.size) (Nat.le_trans HB1.out.size HB3.out.size))
 clear ho hb x0 x1 x2 x3 x4 x5 y0 y1 y2 y3 y4 y5
 go_wp2_with fail
 refine bodyPost_ret (v := .tuple #[v, .int .i64 0]) (by simp [results, Tryz.results8, go_sem]) rfl ?_
 exact ⟨v, rfl, HO.out, HB1.out.trans (HB4.out.mono HB1.out.size)⟩
theorem keepGd : KeepE GdE := fun K K' w w' a _ h ⟨A, c, e, hL⟩ => by
 obtain ⟨b, o, h1, h2⟩ := hL.both
 refine ⟨A, c, e, ⟨b, o, h1.weak fun x hx => (h x hx.1).1, fun i hi => ?_⟩⟩
 have hb := (h1.some (by omega)).2
 exact (h2 i hi).keep (fun x hx => (h x hx.1).1) (fun x _ _ hx hc => (World.cell?_of_block ((h x hx.1).2 hx.2)).trans hc) fun _ _ hc => (World.cell?_of_block ((h b hb.1).2 hb.2)).trans hc
def gatF (G : List (ByteArray × Ty)) (s : ByteArray) : ByteArray × List Ty := (s, gatN s G)
theorem gather_all {K K' : Nat → Prop} {w : World} {t p : Ty} {cs ds : List Value} (hr : RepT K w t cs) (hp : RepT K' w p ds) (hlo : ∀ b, K b → b < w.heap.size) (hlo' : ∀ b, K' b → b < w.heap.size) (hft : formT t = true) (hfp : formT p = true) (hold : HoldP p t) (hcnt : cntT p + cntT t ≤ 1000000) (hlen : (gathT p t).length ≤ 1000000000) (hn : (namesI p).length ≤ 1000000000) (hnm : ∀ x ∈ namesI p, x.size ≤ maxLen) :
  Calls Tryz.prog 16 #[.agg cs.toArray, .agg ds.toArray] w fun e w' => ∃ v, e = .returned v ∧ OwnE GdE 50 2 w.heap.size w' v ((riseS (namesI p)).map (gatF (gathT p t))) ∧ Below w.heap.size w w' := by
 have kinf := fun (K1 : Nat → Prop) (wx : World) (es : List Value) (he : RepT K1 wx p es) => infers_all he hfp hn
 obtain ⟨k, s, n, ps, fs, vs⟩ := t
 obtain ⟨k2, s2, n2, ps2, fs2, vs2⟩ := p
 refine two_pre hr hp fun A c B d C e A2 c2 B2 d2 C2 e2 w0 h hcs hds => ?_
 subst hcs
 subst hds
 obtain ⟨HBX, HB1, HW1, -, -⟩ := h
 have hb1 := HB1.out
 obtain ⟨w2, hw2⟩ : ∃ x, x = w0.alloc (.map #[] 0) := ⟨_, rfl⟩
 have hb2 : Below w0.heap.size w0 w2 := by rw [hw2]; exact (Below.refl _ _).alloc (Nat.le_refl _) _
 have hs0 : w0.heap.size = w.heap.size + 2 := by rw [HW1.out]; simp
 have hbx := HBX.out w0 (Below.refl _ _)
 have hta : AtT K w0 (.mk k s n ps fs vs) w.heap.size 0 := at_six (hr.later hb1) hbx.1
 have hpa : AtT K' w0 (.mk k2 s2 n2 ps2 fs2 vs2) (w.heap.size + 1) 0 := at_six (hp.later hb1) hbx.2
 have hb12 : Below w.heap.size w w2 := hb1.trans (hb2.mono hb1.size)
 have hgi : GI w0 w2 w0.heap.size (fun _ => none) [] := by rw [hw2]; exact gi_start w0
 have KH := Hd (hold K K' w0 w2 w0.heap.size (fun _ => none) [] w.heap.size 0 (w.heap.size + 1) 0 (hta.later hb2) (hpa.later hb2)
  (fun x hx => ⟨by have := hb2.size; rcases hx with h | rfl; (have := hlo x h; omega); omega, fun e => by have := rowB_start e; rcases hx with h | rfl; (have := hlo x h; omega); omega⟩)
  (fun x hx => ⟨by have := hb2.size; rcases hx with h | rfl; (have := hlo' x h; omega); omega, fun e => by have := rowB_start e; rcases hx with h | rfl; (have := hlo' x h; omega); omega⟩)
  hgi hb2.size hfp hft hcnt (by rw [List.length_nil]; omega))
 have HPR := Hd (hp.later hb12)
 have HLO := Hd hlo'
 have HXP := Hd (HBX.out w2 hb2).2
 have HB02 := Hd hb12
 have HKI := Hd kinf
 have HW2 := Hd hw2
 have HS0 := Hd hs0
 have HLEN := Hd hlen
 have HNM0 : Hid (∀ x ∈ riseS (namesI (.mk k2 s2 n2 ps2 fs2 vs2)), x.size ≤ maxLen) := Hd fun x hx => hnm x (mem_riseS.1 hx)
 have HNN : Hid ((riseS (namesI (.mk k2 s2 n2 ps2 fs2 vs2))).length ≤ 1000000000) := Hd (Nat.le_trans (riseS_len _) hn)
 clear hnm kinf hr hp hlo hlo' hft hfp hold hcnt hlen hn hb1 hb2 hs0 hta hpa hb12 hbx hgi hw2
 rw [List.nil_append] at KH
 generalize gathT (.mk k2 s2 n2 ps2 fs2 vs2) (.mk k s n ps fs vs) = G at KH HLEN ⊢
 generalize riseS (namesI (.mk k2 s2 n2 ps2 fs2 vs2)) = L at HKI HNM0 HNN ⊢
 go_enter Tryz.func16, Tryz.ntmps16
 go_upto_region 1 with fail
 rw [← HW1.out]
 have hmm := @run_makeMap Tryz.prog
 go_upto_region 2 with fail
 clear hmm
 rw [← HW2.out]
 go_wp2_with fail
 refine KH.out.mono ?_
 rintro e w3 ⟨rfl, F', hG, hbut, hf⟩
 have hnr : ¬ rowB w0.heap.size (fun _ => none) (w.heap.size + 1) := fun e => by have h1 := rowB_start e; have h2 := HS0.out; omega
 have HG := Hd hG
 have HB3 : Hid (Below w.heap.size w w3) := Hd (HB02.out.trans ((hbut.below (B := w.heap.size) HB02.out.size fun x hx => by have h1 := rowB_start hx; have h2 := HS0.out; omega)))
 obtain ⟨x0, x1, x2, x3, x4, x5⟩ : w3.cell? ⟨w.heap.size + 1, 0, none⟩ = some (.int .i64 k2) ∧ w3.cell? ⟨w.heap.size + 1, 1, none⟩ = some (.string s2) ∧ w3.cell? ⟨w.heap.size + 1, 2, none⟩ = some (.int .i64 n2) ∧ w3.cell? ⟨w.heap.size + 1, 3, none⟩ = some (.slice A2 ps2.length c2) ∧ w3.cell? ⟨w.heap.size + 1, 4, none⟩ = some (.slice B2 fs2.length d2) ∧ w3.cell? ⟨w.heap.size + 1, 5, none⟩ = some (.slice C2 vs2.length e2) := by
  obtain ⟨x0, x1, x2, x3, x4, x5⟩ := HXP.out
  exact ⟨hbut.cell hnr x0, hbut.cell hnr x1, hbut.cell hnr x2, hbut.cell hnr x3, hbut.cell hnr x4, hbut.cell hnr x5⟩
 have HPR3 := Hd (HPR.out.but (K' := fun _ => True) hbut fun x hx => ⟨fun e => by have h1 := rowB_start e; have h2 := HS0.out; have h3 := HLO.out x hx; omega, trivial⟩)
 clear hG hbut hf hnr
 go_wp2_with fail
 refine (HKI.out _ _ _ HPR3.out).mono ?_
 rintro e w4 ⟨Ax, cx, rfl, hls, hb4⟩
 have HG4 := Hd (HG.out.later hb4)
 have HB4 := Hd (HB3.out.trans (hb4.mono HB3.out.size))
 obtain ⟨nb, no, hAN, hnl, hnat⟩ := hls.ex
 have HAN := Hd hAN
 have HNAT := Hd hnat
 clear hls hb4 x0 x1 x2 x3 x4 x5 hAN hnl hnat
 go_wp2_with fail
 go_loopw [15, 6] (fun v ov wr => ∃ (i : Nat) (lx : Value) (wo : World), lx = ov ∧ wo = wr ∧ i ≤ L.length ∧ v = .int .i64 i ∧ OwnE GdE 50 2 w4.heap.size wo lx ((L.take i).map (gatF G)) ∧ Below w4.heap.size w4 wo) (fun v _ _ => L.length - (intOf v).toNat)
 case atStart => exact ⟨0, _, _, rfl, rfl, by omega, rfl, OwnE.nil, Below.refl _ _⟩
 case round =>
  obtain ⟨i, lx, wo, e1, e2, hi, rfl, hro, hbo⟩ := hrel
  subst e1 e2
  have HRO := Hd hro
  have HBO := Hd hbo
  clear hro hbo
  by_cases hin : i < L.length
  ·have t1 : decide ((i : Int) < (L.length : Int)) = true := by simp; omega
   have wr2 : wrap64 ((i : Int) + 1) = ((i + 1 : Nat) : Int) := wrap_one (by have := HNN.out; omega)
   have HM := Hd (measI hin)
   have HIn : Hid (i + 1 ≤ L.length) := Hd hin
   have i1 : (0 : Int) ≤ (i : Int) := by omega
   have i2 : (i : Int) < (L.length : Int) := by omega
   have hA := HAN.out (by omega)
   subst hA
   have hn0 := cell_stays HBO.out (HNAT.out i hin)
   have hsz := HNM0.out _ (List.getElem_mem hin)
   have HTK : Hid ((L.take (i + 1)).map (gatF G) = (L.take i).map (gatF G) ++ [gatF G (L[i]'hin)]) := Hd (by rw [List.take_succ_eq_append_getElem hin, List.map_append]; rfl)
   generalize L[i] = nm at hn0 HTK hsz
   have HTL : Hid (((L.take i).map (gatF G)).length = i) := Hd (by simp; omega)
   obtain ⟨Ar, cr, hrw, hlist⟩ := row_list HG4.out nm HLEN.out
   have lk : (Instr.lookup 71 (.map (some w0.heap.size)) (.string nm) false).run Tryz.prog wo = .ok (.slice Ar (gatN nm G).length cr) wo := by
    have h := (HG4.out.later HBO.out).map.look1 nm hsz
    rw [show rowMK.val ((F' nm).getD rowMK.zero) = rwV (rowOf F' nm) from rfl, hrw] at h
    exact h
   obtain ⟨vs0, hown, hreps⟩ := HRO.out
   obtain ⟨w5, hw5⟩ : ∃ x, x = wo.alloc (.cells #[.string nm, .slice Ar (gatN nm G).length cr] 50) := ⟨_, rfl⟩
   have hb5 : Below wo.heap.size wo w5 := by rw [hw5]; exact (Below.refl _ _).alloc (Nat.le_refl _) _
   have hx5 : w5.heap[wo.heap.size]? = some (.cells #[.string nm, .slice Ar (gatN nm G).length cr] 50 (0, 0)) := by rw [hw5]; exact heap_alloc_new wo _
   have hE : GdE (fun b => b < w5.heap.size ∧ lx.ownBlock ≠ some b) w5 (gatF G nm) [.string nm, .slice Ar (gatN nm G).length cr] := ⟨Ar, cr, rfl, (hlist.later (HBO.out.trans (hb5.mono HBO.out.size))).weak fun b hb => ⟨Nat.lt_of_lt_of_le hb (Nat.le_trans HBO.out.size hb5.size), fun e => by have := (hown.lt b e).1; omega⟩⟩
   have HOWN := Hd (ownsRow_keep hown fun b e => hb5.block b (hown.lt b e).2)
   have HFIN := Hd fun (w' : World) (v' : Value) (ho : w'.ownsRow w4.heap.size 50 2 v' (((L.take i).map (gatF G)).length + 1) (vs0 ++ [.string nm, .slice Ar (gatN nm G).length cr])) (hg : w5.grownBy w' lx.ownBlock) (hob : v'.ownBlock = lx.ownBlock ∨ v'.ownBlock = some w5.heap.size) => OwnE.push (E := GdE) (a := gatF G nm) (cs := [.string nm, .slice Ar (gatN nm G).length cr]) keepGd hown hreps hb5 hE rfl ho hg hob
   have HOLO : Hid (∀ b, lx.ownBlock = some b → w4.heap.size ≤ b) := Hd fun b e => (hown.lt b e).1
   have HX5 := Hd hx5
   have HB5 := Hd (HBO.out.trans (hb5.mono HBO.out.size))
   have HW5 := Hd hw5
   clear hown hreps hw5 hb5 hx5 hE hlist hrw hsz
   obtain ⟨i0, hi0, hz0, hz1, hz2⟩ := partsT infoGa
   go_wp2_with (at_builtin; refine wpList_plain rfl fun Kx hK => ?_; rw [← HW5.out]; go_loud (refine wp_append_own_at _ _ 47 rfl w4.heap.size 50 i0 _ 2 40 Tryz.underlying47 hi0 hz0 hz1 hz2 (by decide) (by decide) _ _ _ rfl HOWN.out ⟨wo.heap.size, 0, none⟩ 1 1 [.string nm, .slice Ar (gatN nm G).length cr] rfl rfl ?a0 ?a1 ?a2 ?a3 ?a4 ?_))
   case a0 =>
    intro j u hj
    first | exact row_cell HX5.out hj | (rw [add_zero']; exact row_cell HX5.out hj)
   case a1 =>
    first
     | (intro u hu; simp only [List.mem_cons, List.not_mem_nil, or_false] at hu; rcases hu with rfl | rfl <;> rfl)
     | exact ⟨rfl, rfl⟩
   case a2 => have := HTL.out; have := HIn.out; have := HNN.out; unfold maxLen; omega
   case a3 => have := HTL.out; have := HIn.out; have := HNN.out; omega
   case a4 => exact HB5.out.size
   intro v6 w6 hown6 hg6 _ hob6
   refine hK _ _ ?_
   clear hK Kx
   have HF := Hd (HFIN.out w6 v6 (by first | exact hown6 | (rw [HTL.out]; exact hown6)) hg6 hob6)
   have HB6 := Hd (HB5.out.grown hg6 HB5.out.size fun k hk => HOLO.out k hk)
   clear hown6 hg6 hob6 HFIN hn0 lk
   go_wp2_with fail
   refine ⟨⟨i + 1, v6, w6, by first | rfl | trivial, by first | rfl | trivial, HIn.out, by first | rfl | rw [wr2], by rw [HTK.out]; exact HF.out.1, HB6.out⟩, ?_⟩
   first | exact HM.out | (rw [wr2]; exact HM.out)
  ·have t1 : decide ((i : Int) < (L.length : Int)) = false := by simp; omega
   have HE : Hid (OwnE GdE 50 2 w4.heap.size wo lx (L.map (gatF G))) := Hd (by have h := HRO.out; rw [List.take_of_length_le (by omega)] at h; exact h)
   clear hi
   go_wp2_with fail
   go_ret
   exact ⟨_, rfl, HE.out.base HB4.out.size, HB4.out.trans (HBO.out.mono HB4.out.size)⟩
theorem below_grown8 {a b c d : World} {lx : Value} (h : Below b.heap.size b c) (hg : c.grownBy d lx.ownBlock) (ha : Below a.heap.size a b) (ho : ∀ x, lx.ownBlock = some x → a.heap.size ≤ x) : Below a.heap.size a d :=
 (ha.trans (h.mono ha.size)).grown hg (Nat.le_trans ha.size h.size) ho
theorem cgat_ok {K K' : Nat → Prop} {w : World} {t p : Ty} {cs ds : List Value} (hr : RepT K w t cs) (hp : RepT K' w p ds) (hlo : ∀ b, K b → b < w.heap.size) (hlo' : ∀ b, K' b → b < w.heap.size) (hft : formedT t = true) (hfp : formedT p = true) (hct : cntT p + cntT t ≤ 1000) (hnm : ∀ x ∈ namesI p, x.size ≤ maxLen) :
  Calls Tryz.prog 7 #[.agg cs.toArray, .agg ds.toArray] w fun e w' => ∃ v, e = .returned (.tuple #[v, .int .i64 0]) ∧ OwnE FdE 37 7 w.heap.size w' v ((riseS (namesI p)).map (stdF (gathT p t))) ∧ Below w.heap.size w w' := by
 have kf1 := fun (wx : World) (hx : Below w.heap.size w wx) => Formed_any (hr.later hx)
 have kf2 := fun (wx : World) (hx : Below w.heap.size w wx) => Formed_any (hp.later hx)
 have kg := fun (wx : World) (hx : Below w.heap.size w wx) => gather_all (hr.later hx) (hp.later hx) (fun b hb => Nat.lt_of_lt_of_le (hlo b hb) hx.size) (fun b hb => Nat.lt_of_lt_of_le (hlo' b hb) hx.size) (formed_form hft) (formed_form hfp) (hold_all p t (formed_form hfp) (formed_form hft)) (by omega) (by have := gath_small hct; omega) (by have := names_cnt p; omega) hnm
 have hok := gat_ok (formed_form hfp) (formed_form hft) hct
 have hnn : (riseS (namesI p)).length ≤ 1000000 := by have h1 := riseS_len (namesI p); have h2 := names_cnt p; omega
 rw [hft] at kf1
 rw [hfp] at kf2
 obtain ⟨k, s, n, ps, fs, vs⟩ := t
 obtain ⟨k2, s2, n2, ps2, fs2, vs2⟩ := p
 refine two_pre hr hp fun A c B d C e A2 c2 B2 d2 C2 e2 w1 h hcs hds => ?_
 subst hcs
 subst hds
 obtain ⟨HBX, HB1, HW1, -, -⟩ := h
 have hb1 := HB1.out
 have HF1 := Hd fun wx (hx : Below w1.heap.size w1 wx) => kf1 wx (hb1.trans (hx.mono hb1.size))
 have HF2 := Hd fun wx (hx : Below w1.heap.size w1 wx) => kf2 wx (hb1.trans (hx.mono hb1.size))
 have HKG := Hd fun wx (hx : Below w1.heap.size w1 wx) => kg wx (hb1.trans (hx.mono hb1.size))
 have HOK := Hd hok
 have HNN := Hd hnn
 clear kf1 kf2 kg hok hnn hr hp hlo hlo' hft hfp hct hnm hb1
 generalize riseS (namesI (.mk k2 s2 n2 ps2 fs2 vs2)) = L at HKG HNN ⊢
 generalize gathT (.mk k2 s2 n2 ps2 fs2 vs2) (.mk k s n ps fs vs) = G at HKG HOK ⊢
 go_enter Tryz.func7, Tryz.ntmps7
 go_upto_region 1 with fail
 rw [← HW1.out]
 obtain ⟨⟨x0, x1, x2, x3, x4, x5⟩, ⟨y0, y1, y2, y3, y4, y5⟩⟩ := HBX.out _ (Below.refl _ _)
 go_wp2_with fail
 refine (HF1.out _ (Below.refl _ _)).mono ?_
 rintro e w2 ⟨rfl, hb⟩
 have HB2 := Hd ((Below.refl w1.heap.size w1).trans (hb.mono (Below.refl w1.heap.size w1).size))
 clear hb x0 x1 x2 x3 x4 x5 y0 y1 y2 y3 y4 y5
 obtain ⟨⟨x0, x1, x2, x3, x4, x5⟩, ⟨y0, y1, y2, y3, y4, y5⟩⟩ := HBX.out _ HB2.out
 go_wp2_with fail
 refine (HF2.out _ HB2.out).mono ?_
 rintro e w3 ⟨rfl, hb⟩
 have HB3 := Hd (HB2.out.trans (hb.mono HB2.out.size))
 clear hb x0 x1 x2 x3 x4 x5 y0 y1 y2 y3 y4 y5
 obtain ⟨⟨x0, x1, x2, x3, x4, x5⟩, ⟨y0, y1, y2, y3, y4, y5⟩⟩ := HBX.out _ HB3.out
 go_wp2_with fail
 refine (HKG.out _ HB3.out).mono ?_
 rintro e w4 ⟨vg, rfl, hog, hb⟩
 have HB4 := Hd (HB3.out.trans (hb.mono HB3.out.size))
 obtain ⟨AG, cG, gb, go, hvg, hAG, hgat⟩ := hog.spread
 have hml : (L.map (gatF G)).length = L.length := List.length_map _
 rw [hml] at hvg hAG
 subst hvg
 have HAG := Hd hAG
 have HGAT : Hid (∀ i (hi : i < L.length), ∃ Ar cr, w4.cell? ⟨gb, go + i * 2, none⟩ = some (.string (L[i]'hi)) ∧ w4.cell? ⟨gb, go + i * 2 + 1, none⟩ = some (.slice Ar (gatN (L[i]'hi) G).length cr) ∧ ListT (fun b => b < w4.heap.size) w4 (gatN (L[i]'hi) G) Ar cr) := Hd fun i hi => by
  obtain ⟨cs, ⟨Ar, cr, rfl, hL⟩, -, hc⟩ := hgat i (by rw [hml]; exact hi)
  rw [List.getElem_map] at hL hc
  exact ⟨Ar, cr, hc 0 _ rfl, hc 1 _ rfl, hL.weak fun b hb => hb.1⟩
 clear hb hog hAG hgat hml x0 x1 x2 x3 x4 x5 y0 y1 y2 y3 y4 y5
 go_wp2_with fail
 go_loopw [21, 6] (fun v ov wr => ∃ (i : Nat) (lx : Value) (wo : World), lx = ov ∧ wo = wr ∧ i ≤ L.length ∧ v = .int .i64 i ∧ OwnE FdE 37 7 w4.heap.size wo lx ((L.take i).map (stdF G)) ∧ Below w4.heap.size w4 wo) (fun v _ _ => L.length - (intOf v).toNat)
 case atStart => exact ⟨0, _, _, rfl, rfl, by omega, rfl, OwnE.nil, Below.refl _ _⟩
 case round =>
  obtain ⟨i, lx, wo, e1, e2, hi, rfl, hro, hbo⟩ := hrel
  subst e1 e2
  have HRO := Hd hro
  have HBO := Hd hbo
  clear hro hbo
  by_cases hin : i < L.length
  ·have t1 : decide ((i : Int) < (L.length : Int)) = true := by simp; omega
   have wr2 : wrap64 ((i : Int) + 1) = ((i + 1 : Nat) : Int) := wrap_one (by have := HNN.out; omega)
   have HM := Hd (measI hin)
   have HIn : Hid (i + 1 ≤ L.length) := Hd hin
   have i1 : (0 : Int) ≤ (i : Int) := by omega
   have i2 : (i : Int) < (L.length : Int) := by omega
   have hA := (HAG.out (by omega)).1
   subst hA
   obtain ⟨Ar, cr, hn0, hn1, hlist⟩ := HGAT.out i hin
   have HTK : Hid ((L.take (i + 1)).map (stdF G) = (L.take i).map (stdF G) ++ [stdF G (L[i]'hin)]) := Hd (by rw [List.take_succ_eq_append_getElem hin, List.map_append]; rfl)
   generalize L[i] = nm at hn0 hn1 hlist HTK
   have HTL : Hid (((L.take i).map (stdF G)).length = i) := Hd (by simp; omega)
   have hok := HOK.out nm
   have hfe : (flatU (gatN nm G)).length ≤ 1099511627776 := by have h := (flatU_cnt (gatN nm G)).1; omega
   have hsf : stdF G nm = (nm, stdT (gatN nm G)) := rfl
   rw [hsf] at HTK
   generalize gatN nm G = tl at hn1 hlist HTK hfe
   have z0 := cell_stays HBO.out hn0
   have z1 := cell_stays HBO.out hn1
   obtain ⟨vs0, hown, hreps⟩ := HRO.out
   obtain ⟨w5, hw5⟩ : ∃ x, x = wo.alloc (.cells #[.string nm, .slice Ar tl.length cr] 50) := ⟨_, rfl⟩
   have hb5 : Below wo.heap.size wo w5 := by rw [hw5]; exact (Below.refl _ _).alloc (Nat.le_refl _) _
   have hx5 : w5.heap[wo.heap.size]? = some (.cells #[.string nm, .slice Ar tl.length cr] 50 (0, 0)) := by rw [hw5]; exact heap_alloc_new wo _
   have HB5 := Hd (Below.refl w5.heap.size w5)
   have HBA := Hd (HBO.out.trans (hb5.mono HBO.out.size))
   have HSB : Hid (∀ wx, Below w5.heap.size w5 wx → wx.cell? ⟨wo.heap.size, 0, none⟩ = some (.string nm) ∧ wx.cell? ⟨wo.heap.size, 1, none⟩ = some (.slice Ar tl.length cr)) := Hd fun wx hx => by
    have h := box_up hx (Array.getElem?_eq_some_iff.1 hx5).1 hx5
    exact ⟨Ch h 0, Ch h 1⟩
   have HST := Hd fun (wx : World) (hx : Below w5.heap.size w5 wx) => stands_any (K := fun b => b < w4.heap.size) nm ((hlist.later (HBA.out.trans (hx.mono HBA.out.size)))) (fun b hb => Nat.lt_of_lt_of_le hb (Nat.le_trans HBA.out.size hx.size)) hfe
   have HOWN := Hd (ownsRow_keep hown fun b e => hb5.block b (hown.lt b e).2)
   have HOLT : Hid (∀ b, lx.ownBlock = some b → b < w5.heap.size) := Hd fun b e => Nat.lt_of_lt_of_le (hown.lt b e).2 hb5.size
   have HOLW : Hid (∀ b, lx.ownBlock = some b → b < wo.heap.size) := Hd fun b e => (hown.lt b e).2
   have HOLO : Hid (∀ b, lx.ownBlock = some b → w4.heap.size ≤ b) := Hd fun b e => (hown.lt b e).1
   have HFIN := Hd fun (w7 w' : World) (v' : Value) (rs : List Value) (h7 : Below w5.heap.size w5 w7) (hrs : RepT (fun b => b < w7.heap.size ∧ lx.ownBlock ≠ some b) w7 (stdT tl) rs) (ho : w'.ownsRow w4.heap.size 37 7 v' (((L.take i).map (stdF G)).length + 1) (vs0 ++ (.string nm :: rs))) (hg : w7.grownBy w' lx.ownBlock) (hob : v'.ownBlock = lx.ownBlock ∨ v'.ownBlock = some w7.heap.size) => OwnE.push (E := FdE) (a := (nm, stdT tl)) (cs := .string nm :: rs) keepFd hown hreps (hb5.trans (h7.mono hb5.size)) ⟨_, rfl, hrs⟩ (by have := hrs.six; simp; omega) ho hg hob
   obtain ⟨i0, hi0, hz0, hz1, hz2⟩ := partsT infoFo
   have HW5 := Hd hw5
   clear hown hreps hw5 hb5 hx5 hlist hfe hok hsf hn0 hn1 hi
   go_upto_region 7 with fail
   rw [← HW5.out]
   clear z0 z1 HW5
   refine wp_region_held_drew (S := (fun w' => w'.cell? ⟨wo.heap.size, 0, none⟩ = some (.string nm) ∧ w'.cell? ⟨wo.heap.size, 1, none⟩ = some (.slice Ar tl.length cr))) (by kernel_rfl) (HSB.out _ HB5.out.drew) (fun hHeld => ?_)
   refine Plan.start [0, 1, 2, 3] ?_
   iterate 4 (refine Plan.tk (so rfl) hHeld ?_; try simp only [Act.put, pz1, pz2, pz3])
   refine Plan.done ?_
   refine wpAnyH_ready (rs := [4]) (by kernel_rfl) (by simp) ?_
   refine AllReadyH.cons (sd (some 29) rfl) (fun Kx hK => ?_) AllReadyH.nil
   go_simp
   refine (HST.out _ HB5.out.drew).mono ?_
   rintro e w6 ⟨rs, rfl, hr6, hb6⟩
   have hq := hr6.both
   have HB6 := Hd (HB5.out.drew.trans (hb6.mono HB5.out.drew.size))
   generalize hu : stdT tl = u at hq
   have HUE := Hd hu
   obtain ⟨k7, s7, n7, ps7, fs7, vs7⟩ := u
   obtain ⟨A7, c7, B7, d7, C7, e7, rfl, -⟩ := hq.inv
   simp only [cells6T] at hq ⊢
   have HQ := Hd hq
   clear hr6 hb6 hq hu
   go_wp2_with fail
   refine hK.out _ _ (HSB.out _ HB6.out) (fun hHeld => ?_)
   clear hK Kx
   try simp only [Act.put, pz1, pz2, pz3]
   refine Plan.start [5] ?_
   refine Plan.tk (so rfl) hHeld ?_
   try simp only [Act.put, pz1, pz2, pz3]
   refine Plan.done ?_
   refine wpAnyH_ready (rs := [6]) (by kernel_rfl) (by simp) ?_
   refine AllReadyH.cons (sd (some 31) rfl) (fun Kx hK => ?_) AllReadyH.nil
   go_simp
   generalize hW : w6.alloc (.cells #[.string nm, .int .i64 k7, .string s7, .int .i64 n7, .slice A7 ps7.length c7, .slice B7 fs7.length d7, .slice C7 vs7.length e7] 37) = w7
   have hb : Below w6.heap.size w6 w7 := by rw [← hW]; exact (Below.refl _ _).alloc (Nat.le_refl _) _
   have rs : w7.heap[w6.heap.size]? = some (.cells #[.string nm, .int .i64 k7, .string s7, .int .i64 n7, .slice A7 ps7.length c7, .slice B7 fs7.length d7, .slice C7 vs7.length e7] 37 (0, 0)) := by rw [← hW]; exact heap_alloc_new w6 _
   have HB7 := Hd (HB6.out.trans (hb.mono HB6.out.size))
   have HX7 := Hd rs
   have HQ7 := Hd (HQ.out.later hb)
   have H67 := Hd hb
   clear hW hb rs
   refine hK.out _ _ (HSB.out _ HB7.out) (fun hHeld => ?_)
   clear hK Kx
   try simp only [Act.put, pz1, pz2, pz3]
   refine wpAnyH_ready (rs := [7]) (by kernel_rfl) (by simp) ?_
   refine AllReadyH.cons (sd (some 32) rfl) (fun Kx hK => ?_) AllReadyH.nil
   rw [if_pos (by rfl)]
   refine wp_append_own_at _ _ 29 rfl w4.heap.size 37 i0 _ 7 120 Tryz.underlying29 hi0 hz0 hz1 hz2 (by decide) (by decide) _ _ _ rfl (ownsRow_keep HOWN.out fun b e => HB7.out.block b (HOLT.out b e)) ⟨w6.heap.size, 0, none⟩ 1 1 [.string nm, .int .i64 k7, .string s7, .int .i64 n7, .slice A7 ps7.length c7, .slice B7 fs7.length d7, .slice C7 vs7.length e7] rfl rfl ?_ ?_ ?_ ?_ (Nat.le_trans HBA.out.size HB7.out.size) ?_
   ·intro j u hj
    rw [add_zero']
    exact row_cell HX7.out hj
   ·intro u hu
    rcases List.mem_cons.1 hu with rfl | hu
    ·rfl
    ·exact one_cells HQ.out u hu
   ·have h1 := HTL.out; have h2 := HIn.out; have h3 := HNN.out; unfold maxLen; omega
   ·have h1 := HTL.out; have h2 := HIn.out; have h3 := HNN.out; omega
   intro v8 w8 hown8 hg8 _ hob8
   have hrs8 : RepT (fun b => b < w7.heap.size ∧ lx.ownBlock ≠ some b) w7 (stdT tl) [.int .i64 k7, .string s7, .int .i64 n7, .slice A7 ps7.length c7, .slice B7 fs7.length d7, .slice C7 vs7.length e7] := by
    rw [HUE.out]
    refine HQ7.out.weak fun b hb => ?_
    have h2 := HB6.out.size
    have h3 := H67.out.size
    refine ⟨by omega, fun e => ?_⟩
    have h4 := HOLO.out b e
    have h5 := HOLT.out b e
    rcases hb.1 with h | h
    ·omega
    ·have h7 : w5.heap.size ≤ b := h
     omega
   have HF8 := Hd (HFIN.out w7 w8 v8 [.int .i64 k7, .string s7, .int .i64 n7, .slice A7 ps7.length c7, .slice B7 fs7.length d7, .slice C7 vs7.length e7] HB7.out hrs8 (by first | exact hown8 | (rw [HTL.out]; exact hown8)) hg8 hob8)
   clear hrs8
   have HB8 := Hd (below_grown8 HB7.out hg8 HBA.out HOLO.out)
   have HS8 : Hid (w8.cell? ⟨wo.heap.size, 0, none⟩ = some (.string nm) ∧ w8.cell? ⟨wo.heap.size, 1, none⟩ = some (.slice Ar tl.length cr)) := Hd (by
    have h := HSB.out _ HB7.out
    have hn : ∀ o' u', w7.cell? ⟨wo.heap.size, o', none⟩ = some u' → w8.cell? ⟨wo.heap.size, o', none⟩ = some u' := fun o' u' hc => (World.cell?_of_block (hg8.block _ (World.block_lt_of_cell? _ _ hc) fun e => by have h1 : wo.heap.size < wo.heap.size := HOLW.out _ e.symm; omega)).trans hc
    exact ⟨hn _ _ h.1, hn _ _ h.2⟩)
   clear hown8 hg8 hob8 HFIN
   refine hK.out _ _ (HS8.out) (fun hHeld => ?_)
   clear hK Kx
   try simp only [Act.put, pz1, pz2, pz3]
   refine Plan.start [8] ?_
   refine Plan.tk (so rfl) hHeld ?_
   try simp only [Act.put, pz1, pz2, pz3]
   refine Plan.done ?_
   refine wpAnyH_done (by kernel_rfl) ?_ _
   clear hHeld
   go_wp2_with fail
   refine ⟨⟨i + 1, v8, w8, by first | rfl | trivial, by first | rfl | trivial, HIn.out, by first | rfl | rw [wr2], by rw [HTK.out]; exact HF8.out.1, HB8.out⟩, ?_⟩
   first | exact HM.out | (rw [wr2]; exact HM.out)
  ·have t1 : decide ((i : Int) < (L.length : Int)) = false := by simp; omega
   have HE : Hid (OwnE FdE 37 7 w4.heap.size wo lx (L.map (stdF G))) := Hd (by have h := HRO.out; rw [List.take_of_length_le (by omega)] at h; exact h)
   clear hi
   go_wp2_with fail
   refine bodyPost_ret (v := .tuple #[lx, .int .i64 0]) (by simp [results, Tryz.results7, go_sem]) rfl ?_
   exact ⟨lx, rfl, HE.out.base (Nat.le_trans HB1.out.size HB4.out.size), HB1.out.trans ((HB4.out.trans (HBO.out.mono HB4.out.size)).mono HB1.out.size)⟩
end Go.Proofs.YtjbccjmpebgdjaaGreatDoor
