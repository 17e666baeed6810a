import Derived.Test.YtlooadichhpgeaaGreatDoorMe42
namespace Go.Proofs.YtlooadichhpgeaaGreatDoor
open Go.RowKit
theorem infoGa : (Tryz.prog.info? 51).map (fun i => (i.zero, i.size, i.bytes)) = some (some (.agg #[.string ⟨#[]⟩, .slice none 0 0]), 2, 40) := by kernel_rfl
theorem row_list {w0 w : World} {m : Nat} {F : ByteArray → Option Rw} {G : List (ByteArray × Ty)} (h : GI w0 w m F G) (s : ByteArray) (hl : G.length ≤ 1000000000) : ∃ A c, rwV (rowOf F s) = .slice A (gatN s G).length c ∧ ListT (fun b => b < w.heap.size) w (gatN s G) A c := by
 have hgl : (gatN s G).length ≤ G.length := by unfold gatN; rw [List.length_map]; exact List.length_filter_le _ _
 obtain ⟨vs, hown, hr⟩ := h.rows s
 generalize gatN s G = ts at hown hr hgl ⊢
 rcases hown.2 with ⟨hv, hn⟩ | ⟨g, cap, cur, hv, hg, hh, hle, hmax, hsz, htk⟩
 ·refine ⟨none, 0, by rw [hv, hn], ⟨⟨0, 0, ⟨by omega, by omega, fun _ => rfl, (fun hp => by omega)⟩, (fun i hi => by omega)⟩⟩⟩
 ·refine ⟨some ⟨g, 0, none⟩, cap, hv, ⟨⟨g, 0, ⟨hle, by omega, (fun e => by cases e), fun _ => ⟨rfl, (Array.getElem?_eq_some_iff.1 hh).1⟩⟩, fun i hi => ?_⟩⟩⟩
  obtain ⟨cs, hcs, hc⟩ := hr i hi
  refine ⟨cs, fun j u hj => ?_, hcs.weak fun b hb => hb.1⟩
  have h1 := hc j u hj
  rw [← htk, List.getElem?_take] at h1
  split at h1
  ·rw [Nat.zero_add, Lib.cell_of_heap hh]
   simpa using h1
  ·cases h1
theorem gi_start (w0 : World) : GI w0 (w0.alloc (.map #[] 0)) w0.heap.size (fun _ => none) [] :=
 ⟨MapIs.new rowMK w0, Nat.le_refl _, fun _ => ⟨[], ⟨rfl, .inl ⟨rfl, rfl⟩⟩, (fun _ h => by simp [gatN_nil] at h)⟩, (fun _ _ _ h => by cases h), (fun _ h => by cases h)⟩
theorem rowB_start {m x : Nat} (h : rowB m (fun _ => none) x) : x = m := by
 rcases h with h | ⟨s, h⟩
 ·exact h
 ·cases h
def GthP (w : World) (l : List ByteArray) (G : List (ByteArray × Ty)) : Ending → World → Prop := fun e w' => Below w.heap.size w w' ∧ ((l = [] ∧ e = .returned (.slice none 0 0)) ∨ ∃ s g c A c', l = [s] ∧ e = .returned (.slice (some ⟨g, 0, none⟩) 1 c) ∧ w'.cell? ⟨g, 0, none⟩ = some (.string s) ∧ w'.cell? ⟨g, 1, none⟩ = some (.slice A (gatN s G).length c') ∧ ListT (fun b => b < w'.heap.size) w' (gatN s G) A c')
theorem gath_row {w4 W5 w6 : World} {v : Value} {nm : ByteArray} {x : Value} (h : w6.ownsRow w4.heap.size 51 2 v (0 + 1) ([] ++ [.string nm, x])) (hb : Below w4.heap.size w4 W5) (hg : W5.grownBy w6 none) : ∃ g c, v = .slice (some ⟨g, 0, none⟩) 1 c ∧ Below w4.heap.size w4 w6 ∧ w6.cell? ⟨g, 0, none⟩ = some (.string nm) ∧ w6.cell? ⟨g, 1, none⟩ = some x := by
 rcases h.2 with ⟨_, h2⟩ | ⟨g, cap, cur, hv, hge, hh, hle, _, hsz, htk⟩
 ·simp at h2
 ·have hc : ∀ j u, ([.string nm, x] : List Value)[j]? = some u → w6.cell? ⟨g, j, none⟩ = some u := fun j u hj => by
   rw [List.nil_append] at htk
   rw [← htk, List.getElem?_take] at hj
   split at hj
   ·rw [Lib.cell_of_heap hh]; simpa using hj
   ·cases hj
  exact ⟨g, cap, hv, hb.grown hg hb.size (fun k hk => by cases hk), hc 0 _ rfl, hc 1 _ rfl⟩
set_option maxRecDepth 100000 in
set_option maxHeartbeats 16000000 in
theorem gather_few {K K' : Nat → Prop} {w : World} {t p : Ty} {cs ds : List Value} (hr : RepT K w t cs) (hp : RepT K' w p ds) (hlo : ∀ b, K b → b < w.heap.size) (hlo' : ∀ b, K' b → b < w.heap.size) (hft : formT t = true) (hfp : formT p = true) (hold : HoldP p t) (hcnt : cntT p + cntT t ≤ 1000000) (hlen : (gathT p t).length ≤ 1000000000) (hn : (namesI p).length ≤ 1) (hnm : ∀ x ∈ namesI p, x.size ≤ maxLen) :
  Calls Tryz.prog 21 #[.agg cs.toArray, .agg ds.toArray] w (GthP w (namesI p) (gathT p t)) := by
 have kinf := fun (K1 : Nat → Prop) (wx : World) (es : List Value) (he : RepT K1 wx p es) => infers_few he hfp hn
 obtain ⟨k, s, n, ps, fs, vs⟩ := t
 obtain ⟨k2, s2, n2, ps2, fs2, vs2⟩ := p
 obtain ⟨A, c, B, d, C, e0, rfl, -⟩ := hr.inv
 obtain ⟨A2, c2, B2, d2, C2, e2, rfl, -⟩ := hp.inv
 simp only [cells6T] at hr hp ⊢
 obtain ⟨wa, hwa⟩ : ∃ x, x = w.alloc (.cells #[.int .i64 k, .string s, .int .i64 n, .slice A ps.length c, .slice B fs.length d, .slice C vs.length e0] 26) := ⟨_, rfl⟩
 obtain ⟨w0, hw0⟩ : ∃ x, x = wa.alloc (.cells #[.int .i64 k2, .string s2, .int .i64 n2, .slice A2 ps2.length c2, .slice B2 fs2.length d2, .slice C2 vs2.length e2] 26) := ⟨_, rfl⟩
 obtain ⟨w2, hw2⟩ : ∃ x, x = w0.alloc (.map #[] 0) := ⟨_, rfl⟩
 have hba : Below w.heap.size w wa := by rw [hwa]; exact (Below.refl _ _).alloc (Nat.le_refl _) _
 have hb0 : Below wa.heap.size wa w0 := by rw [hw0]; exact (Below.refl _ _).alloc (Nat.le_refl _) _
 have hb2 : Below w0.heap.size w0 w2 := by rw [hw2]; exact (Below.refl _ _).alloc (Nat.le_refl _) _
 have hsa : wa.heap.size = w.heap.size + 1 := by rw [hwa]; simp
 have hs0 : w0.heap.size = w.heap.size + 2 := by rw [hw0]; simp [hsa]
 have hs2 : w2.heap.size = w.heap.size + 3 := by rw [hw2]; simp [hs0]
 have hta : AtT K wa (.mk k s n ps fs vs) w.heap.size 0 := by rw [hwa]; exact AtT.box 26 hr
 have hpa : AtT K' w0 (.mk k2 s2 n2 ps2 fs2 vs2) (w.heap.size + 1) 0 := by
  have h := AtT.box 26 (hp.later hba)
  rw [hsa] at h
  rw [hw0]
  exact h
 have hb02 : Below w.heap.size w w2 := hba.trans ((hb0.trans (hb2.mono hb0.size)).mono hba.size)
 have hx : w0.heap[w.heap.size + 1]? = some (.cells #[.int .i64 k2, .string s2, .int .i64 n2, .slice A2 ps2.length c2, .slice B2 fs2.length d2, .slice C2 vs2.length e2] 26 (0, 0)) := by
  have h := heap_alloc_new wa (.cells #[.int .i64 k2, .string s2, .int .i64 n2, .slice A2 ps2.length c2, .slice B2 fs2.length d2, .slice C2 vs2.length e2] 26)
  rw [hsa] at h
  rw [hw0]
  exact h
 have hgi : GI w0 w2 w0.heap.size (fun _ => none) [] := by rw [hw2]; exact gi_start w0
 have KH := Lib.hid (hold K K' w0 w2 w0.heap.size (fun _ => none) [] w.heap.size 0 (w.heap.size + 1) 0 (hta.later (hb0.trans (hb2.mono hb0.size))) (hpa.later hb2)
  (fun x hx => ⟨by rcases hx with h | rfl; (have := hlo x h; omega); omega, fun e => by have := rowB_start e; rcases hx with h | rfl; (have := hlo x h; omega); omega⟩)
  (fun x hx => ⟨by rcases hx with h | rfl; (have := hlo' x h; omega); omega, fun e => by have := rowB_start e; rcases hx with h | rfl; (have := hlo' x h; omega); omega⟩)
  hgi hb2.size hfp hft hcnt (by rw [List.length_nil]; omega))
 have HPR := Lib.hid (hp.later hb02)
 have HLO := Lib.hid hlo'
 have HXP := Lib.hid (box_up hb2 (Array.getElem?_eq_some_iff.1 hx).1 hx)
 have HB02 := Lib.hid hb02
 have HKI := Lib.hid kinf
 have HWA := Lib.hid hwa
 have HW0 := Lib.hid hw0
 have HW2 := Lib.hid hw2
 have HS0 := Lib.hid hs0
 have HLEN := Lib.hid hlen
 have HNM0 := Lib.hid hnm
 clear hnm kinf hr hp hlo hlo' hft hfp hold hcnt hlen hba hb0 hb2 hsa hs0 hs2 hta hpa hb02 hx hgi hwa hw0 hw2
 rw [List.nil_append] at KH
 generalize gathT (.mk k2 s2 n2 ps2 fs2 vs2) (.mk k s n ps fs vs) = G at KH HLEN ⊢
 generalize namesI (.mk k2 s2 n2 ps2 fs2 vs2) = l at hn HKI HNM0 ⊢
 go_enter Tryz.func21, Tryz.ntmps21
 go_upto_region 1 with fail
 rw [← HWA.out, ← HW0.out]
 have hmm := @run_makeMap Tryz.prog
 go_upto_region 2 with fail
 clear hmm
 rw [← HW2.out]
 go_wp2_with fail
 refine KH.out.mono ?_
 rintro e w3 ⟨rfl, F', hG, hbut, hf⟩
 have hnr : ¬ rowB w0.heap.size (fun _ => none) (w.heap.size + 1) := fun e => by have h1 := rowB_start e; have h2 := HS0.out; omega
 have HG := Lib.hid hG
 have HB3 : Hid (Below w.heap.size w w3) := Lib.hid (HB02.out.trans ((hbut.below (B := w.heap.size) HB02.out.size fun x hx => by have h1 := rowB_start hx; have h2 := HS0.out; omega)))
 have hxp := (hbut.block _ (Array.getElem?_eq_some_iff.1 HXP.out).1 hnr).trans HXP.out
 have HPR3 := Lib.hid (HPR.out.but (K' := fun _ => True) hbut fun x hx => ⟨fun e => by have h1 := rowB_start e; have h2 := HS0.out; have h3 := HLO.out x hx; omega, trivial⟩)
 obtain ⟨x0, x1, x2, x3, x4, x5⟩ : w3.cell? ⟨w.heap.size + 1, 0, none⟩ = some (.int .i64 k2) ∧ w3.cell? ⟨w.heap.size + 1, 1, none⟩ = some (.string s2) ∧ w3.cell? ⟨w.heap.size + 1, 2, none⟩ = some (.int .i64 n2) ∧ w3.cell? ⟨w.heap.size + 1, 3, none⟩ = some (.slice A2 ps2.length c2) ∧ w3.cell? ⟨w.heap.size + 1, 4, none⟩ = some (.slice B2 fs2.length d2) ∧ w3.cell? ⟨w.heap.size + 1, 5, none⟩ = some (.slice C2 vs2.length e2) := ⟨Lib.cell_of_heap hxp 0, Lib.cell_of_heap hxp 1, Lib.cell_of_heap hxp 2, Lib.cell_of_heap hxp 3, Lib.cell_of_heap hxp 4, Lib.cell_of_heap hxp 5⟩
 clear hG hbut hf hnr hxp
 go_wp2_with fail
 refine (HKI.out _ _ _ HPR3.out).mono ?_
 rintro e w4 ⟨Ax, cx, rfl, hls, hb4⟩
 have HG4 := Lib.hid (HG.out.later hb4)
 have HB4 := Lib.hid (HB3.out.trans (hb4.mono HB3.out.size))
 have HLS := Lib.hid hls
 clear hls hb4 x0 x1 x2 x3 x4 x5
 rcases l with _ | ⟨nm, _ | ⟨y, l⟩⟩
 ·simp only [List.length_nil]
  go_wp2_with fail
  go_loopw [15, 6] (fun v l wr => v = .int .i64 0 ∧ l = .slice none 0 0 ∧ wr = w4) (fun _ _ _ => 0)
  case atStart => exact ⟨rfl, rfl, rfl⟩
  case round =>
   obtain ⟨rfl, rfl, rfl⟩ := hrel
   go_wp2_with fail
   go_ret
   exact ⟨HB4.out, .inl ⟨rfl, rfl⟩⟩
 ·simp only [List.length_cons, List.length_nil, Nat.zero_add]
  obtain ⟨Ar, cr, hrw, hlist⟩ := row_list HG4.out nm HLEN.out
  obtain ⟨bb, oo, hAx, hll, hat⟩ := HLS.out.ex
  have hAx := hAx (by simp)
  subst hAx
  have hn0 := hat 0 (by simp)
  simp only [Nat.add_zero, List.getElem_cons_zero] at hn0
  have lk : (Instr.lookup 75 (.map (some w0.heap.size)) (.string nm) false).run Tryz.prog w4 = .ok (.slice Ar (gatN nm G).length cr) w4 := by
   have h := HG4.out.map.look1 nm (HNM0.out nm (by simp))
   rw [show rowMK.val ((F' nm).getD rowMK.zero) = rwV (rowOf F' nm) from rfl, hrw] at h
   exact h
  have HLK := Lib.hid lk
  have HLI := Lib.hid hlist
  obtain ⟨W5, hW5⟩ : ∃ x, x = w4.alloc (.cells #[.string nm, .slice Ar (gatN nm G).length cr] 51) := ⟨_, rfl⟩
  have hb5 : Below w4.heap.size w4 W5 := by rw [hW5]; exact (Below.refl _ _).alloc (Nat.le_refl _) _
  have HB5 := Lib.hid hb5
  have HX5 : Hid (W5.heap[w4.heap.size]? = some (.cells #[.string nm, .slice Ar (gatN nm G).length cr] 51 (0, 0))) := Lib.hid (by rw [hW5]; exact heap_alloc_new w4 _)
  have HW5 := Lib.hid hW5
  have HN0 := Lib.hid hn0
  clear lk hlist hW5 hb5 hll hat hrw hn0 hn
  go_wp2_with fail
  go_loopw [15, 6] (fun v l wr => (v = .int .i64 0 ∧ l = .slice none 0 0 ∧ wr = w4) ∨ (v = .int .i64 1 ∧ ∃ g c, l = .slice (some ⟨g, 0, none⟩) 1 c ∧ Below w4.heap.size w4 wr ∧ wr.cell? ⟨g, 0, none⟩ = some (.string nm) ∧ wr.cell? ⟨g, 1, none⟩ = some (.slice Ar (gatN nm G).length cr))) (fun v _ _ => 1 - (intOf v).toNat)
  case atStart => exact .inl ⟨rfl, rfl, rfl⟩
  case round =>
   rcases hrel with ⟨rfl, rfl, rfl⟩ | ⟨rfl, g, c, rfl, hb, h0, h1⟩
   ·have n0 := HN0.out
    have lk := HLK.out
    obtain ⟨i0, hi0, hz0, hz1, hz2⟩ := partsT infoGa
    go_wp2_with (at_builtin; refine wpList_plain rfl fun Kx hK => ?_; rw [← HW5.out]; go_loud (refine wp_append_own_at _ _ 48 rfl wr.heap.size 51 i0 _ 2 40 Tryz.underlying48 hi0 hz0 hz1 hz2 (by decide) (by decide) (.slice none 0 0) 0 [] rfl ⟨rfl, .inl ⟨rfl, rfl⟩⟩ ⟨wr.heap.size, 0, none⟩ 1 1 [.string nm, .slice Ar (gatN nm G).length cr] rfl rfl ?_ ?_ (by decide) (by decide) HB5.out.size ?_))
    ·intro j u hj
     rw [add_zero']
     exact row_cell HX5.out hj
    ·intro u hu
     simp only [List.mem_cons, List.not_mem_nil, or_false] at hu
     rcases hu with rfl | rfl <;> rfl
    intro v6 w6 hown hg6 _ _
    refine hK _ _ ?_
    clear hK Kx
    have HFIN := Lib.hid (gath_row hown HB5.out hg6)
    clear hown hg6 n0 lk
    obtain ⟨g6, c6, rfl, hb6, h60, h61⟩ := HFIN.out
    have HF6 := Lib.hid (And.intro hb6 (And.intro h60 h61))
    clear HFIN hb6 h60 h61
    go_wp2_with fail
    refine ⟨.inr ⟨by first | rfl | simp, g6, c6, by first | rfl | simp, HF6.out.1, HF6.out.2.1, HF6.out.2.2⟩, ?_⟩
    first | decide | simp [intOf]
   ·have HF := Lib.hid (And.intro hb (And.intro h0 h1))
    clear hb h0 h1
    go_wp2_with fail
    go_ret
    exact ⟨HB4.out.trans (HF.out.1.mono HB4.out.size), .inr ⟨nm, g, c, Ar, cr, rfl, rfl, HF.out.2.1, HF.out.2.2, (HLI.out.later HF.out.1).weak fun b hb => Nat.lt_of_lt_of_le hb HF.out.1.size⟩⟩
 ·simp at hn
set_option maxRecDepth 100000 in
set_option maxHeartbeats 16000000 in
theorem formed_ref {K : Nat → Prop} {w : World} {t : Ty} {cs : List Value} (hr : RepT K w t cs) :
  Calls Tryz.prog 8 #[.agg cs.toArray] w fun e w' => e = .returned (.bool (formedT t)) ∧ Below w.heap.size w w' := by
 have hN := nod_any t
 have hFo := form_ref t
 have hsp : formedT t = (decide (cntT t ≤ 4096) && formT t) := rfl
 generalize hft : formT t = r at hsp
 obtain ⟨k, s, n, ps, fs, vs⟩ := t
 have KN := Lib.hid fun wx (hx : Below w.heap.size w wx) => hN K wx cs (hr.later hx)
 have KF := Lib.hid fun wx (hx : Below w.heap.size w wx) h => hFo K wx cs (hr.later hx) h
 obtain ⟨A, c, A', c', A'', c'', rfl, -⟩ := hr.inv
 simp only [cells6T] at KN KF ⊢
 rw [hft] at KF
 obtain ⟨w1, hw1⟩ : ∃ x, x = w.alloc (.cells #[.int .i64 k, .string s, .int .i64 n, .slice A ps.length c, .slice A' fs.length c', .slice A'' vs.length c''] 26) := ⟨_, rfl⟩
 have hb1 : Below w.heap.size w w1 := by rw [hw1]; exact (Below.refl _ _).alloc (Nat.le_refl _) _
 have hs1 : w1.heap.size = w.heap.size + 1 := by rw [hw1]; simp
 have hx0 : w1.heap[w.heap.size]? = some (.cells #[.int .i64 k, .string s, .int .i64 n, .slice A ps.length c, .slice A' fs.length c', .slice A'' vs.length c''] 26 (0, 0)) := by rw [hw1]; exact heap_alloc_new w _
 have HB1 := Lib.hid hb1
 have HS1 := Lib.hid hs1
 have HX0 := Lib.hid hx0
 have HW1 := Lib.hid hw1
 have HSP := Lib.hid hsp
 generalize cntT (.mk k s n ps fs vs) = q at KN KF HSP
 clear hr hN hFo hb1 hs1 hx0 hw1 hsp hft
 go_enter Tryz.func8, Tryz.ntmps8
 go_upto_region 1 with fail
 rw [← HW1.out]
 obtain ⟨x0, x1, x2, x3, x4, x5⟩ := cz6 HX0.out
 go_wp2_with fail
 refine (KN.out _ HB1.out).mono ?_
 rintro e w2 ⟨rfl, hg⟩
 have HB2 := Lib.hid (HB1.out.trans (hg.below.mono HB1.out.size))
 have h2 := box_up hg.below (by have := HS1.out; omega) HX0.out
 clear x0 x1 x2 x3 x4 x5 hg KN
 obtain ⟨x0, x1, x2, x3, x4, x5⟩ := cz6 h2
 clear h2
 by_cases hq : q ≤ 4096
 ·have t1 : decide ((capN q : Int) ≤ 4096) = true := decide_eq_true (by unfold capN; omega)
  have t2 : decide (capN q ≤ 4096) = true := decide_eq_true (by unfold capN; omega)
  have KF2 := Lib.hid (KF.out _ HB2.out (by omega))
  have HV : Hid (formedT (.mk k s n ps fs vs) = r) := Lib.hid (by rw [HSP.out, decide_eq_true hq]; rfl)
  clear hq KF
  go_wp2_with fail
  refine KF2.out.mono ?_
  rintro e w3 ⟨rfl, hb3⟩
  have HB3 := Lib.hid (HB2.out.trans (hb3.mono HB2.out.size))
  clear hb3 KF2
  go_wp2_with fail
  go_ret
  exact ⟨by rw [HV.out]; rfl, HB3.out⟩
 ·have t1 : decide ((capN q : Int) ≤ 4096) = false := decide_eq_false (by unfold capN; omega)
  have t2 : decide (capN q ≤ 4096) = false := decide_eq_false (by unfold capN; omega)
  have HV : Hid (formedT (.mk k s n ps fs vs) = false) := Lib.hid (by rw [HSP.out, decide_eq_false hq]; rfl)
  clear hq KF
  go_wp2_with fail
  go_ret
  exact ⟨by rw [HV.out]; rfl, HB2.out⟩
def stdT (l : List Ty) : Ty := if l = [] then tyK 2 else unionT l
set_option maxRecDepth 100000 in
set_option maxHeartbeats 16000000 in
theorem stands_any {K : Nat → Prop} {w : World} {l : List Ty} {A : Option Addr} {c : Nat} (s : ByteArray) (hL : ListT K w l A c) (hlo : ∀ b, K b → b < w.heap.size) (hn : (flatU l).length ≤ 1099511627776) :
  Calls Tryz.prog 22 #[.agg #[.string s, .slice A l.length c]] w fun e w' => ∃ rs, e = .returned (.agg rs.toArray) ∧ RepT (fun b => K b ∨ w.heap.size ≤ b) w' (stdT l) rs ∧ Below w.heap.size w w' := by
 obtain ⟨w1, hw1⟩ : ∃ x, x = (w.alloc (.cells #[.string s, .slice A l.length c] 51)).alloc (.cells #[.int .i64 0, .string ⟨#[]⟩, .int .i64 0, .slice none 0 0, .slice none 0 0, .slice none 0 0] 26) := ⟨_, rfl⟩
 have hb1 : Below w.heap.size w w1 := by rw [hw1]; exact ((Below.refl _ _).alloc (Nat.le_refl _) _).alloc (by simp) _
 have hs1 : w1.heap.size = w.heap.size + 2 := by rw [hw1]; simp
 have hx0 : w1.heap[w.heap.size]? = some (.cells #[.string s, .slice A l.length c] 51 (0, 0)) := by rw [hw1, Below.heap_alloc _ _ _ (by simp)]; exact heap_alloc_new w _
 have hx1 : w1.heap[w.heap.size + 1]? = some (.cells #[.int .i64 0, .string ⟨#[]⟩, .int .i64 0, .slice none 0 0, .slice none 0 0, .slice none 0 0] 26 (0, 0)) := by
  rw [hw1]
  have h := heap_alloc_new (w.alloc (.cells #[.string s, .slice A l.length c] 51)) (.cells #[.int .i64 0, .string ⟨#[]⟩, .int .i64 0, .slice none 0 0, .slice none 0 0, .slice none 0 0] 26)
  rw [World.size_alloc] at h
  exact h
 have KU := Lib.hid (union_p K w1 l A c (hL.later hb1) hn (fun b hb => Nat.lt_of_lt_of_le (hlo b hb) hb1.size))
 have HLO := Lib.hid hlo
 have HB1 := Lib.hid hb1
 have HS1 := Lib.hid hs1
 have HX1 := Lib.hid hx1
 have HW1 := Lib.hid hw1
 obtain ⟨g, hg⟩ : ∃ g, g = w.heap.size + 1 := ⟨_, rfl⟩
 have HG := Lib.hid hg
 have x1 : w1.cell? ⟨w.heap.size, 1, none⟩ = some (.slice A l.length c) := Lib.cell_of_heap hx0 1
 clear hL hlo hb1 hs1 hx0 hx1 hw1 hg hn
 by_cases hl : l = []
 ·have hst : stdT l = tyK 2 := if_pos hl
  rw [hst]
  subst hl
  simp only [List.length_nil] at *
  go_enter Tryz.func22, Tryz.ntmps22
  go_upto_region 1 with fail
  rw [← HW1.out, ← HG.out]
  clear HW1
  go_upto_region 2 with fail
  have rb := HX1.out
  rw [← HG.out] at rb
  clear x1
  obtain ⟨q0, q1, q2, q3, q4, q5, z0, z1, z2, z3, z4, z5⟩ := qz6 rb
  have RBX := Lib.hid rb
  clear rb
  go_wp2_with fail
  have rs := six_set RBX.out (.int .i64 2) (.string ⟨#[]⟩) (.int .i64 0) (.slice none 0 0) (.slice none 0 0) (.slice none 0 0)
  obtain ⟨r0, r1, r2, r3, r4, r5⟩ := cz6 rs
  clear q0 q1 q2 q3 q4 q5 z0 z1 z2 z3 z4 z5 RBX rs
  refine bodyPost_ret (v := .agg #[.int .i64 2, .string ⟨#[]⟩, .int .i64 0, .slice none 0 0, .slice none 0 0, .slice none 0 0]) (by simp [results, Tryz.results22, go_sem, r0, r1, r2, r3, r4, r5]) rfl ?_
  clear r0 r1 r2 r3 r4 r5
  exact ⟨_, rfl, rep_k _ _ 2, set_six_below HB1.out (by have := HG.out; omega) _ _ _ _ _ _⟩
 ·have hst : stdT l = unionT l := if_neg hl
  rw [hst]
  have hpos : 0 < l.length := List.length_pos_iff.2 hl
  have b0 : (((l.length : Nat) : Int) == 0) = false := beq_eq_false_iff_ne.2 (by omega)
  have d0 : decide (((l.length : Nat) : Int) = 0) = false := decide_eq_false (by omega)
  have d1 : decide (l.length = 0) = false := decide_eq_false (by omega)
  generalize hu : unionT l = u at KU ⊢
  obtain ⟨k2, s2, n2, ps2, fs2, vs2⟩ := u
  clear hst hu hpos hl
  go_enter Tryz.func22, Tryz.ntmps22
  go_upto_region 1 with fail
  rw [← HW1.out, ← HG.out]
  clear HW1
  go_wp2_with fail
  refine KU.out.mono ?_
  rintro e w4 ⟨rs, rfl, hr4, hb4⟩
  have HBE := Lib.hid (HB1.out.trans (hb4.mono HB1.out.size))
  have rb := (hb4.block (w.heap.size + 1) (by have := HS1.out; omega)).trans HX1.out
  rw [← HG.out] at rb
  have hr' : RepT (fun b => K b ∨ g < b) w4 (.mk k2 s2 n2 ps2 fs2 vs2) rs := hr4.weak fun b h => by
   rcases h with h | h
   ·exact .inl h
   ·exact .inr (by have := HS1.out; have := HG.out; omega)
  clear hr4 hb4 KU x1
  obtain ⟨Aq, cq, Ag, cg, Ah, ch, rfl, -⟩ := hr'.inv
  have HR4 := Lib.hid hr'
  simp only [cells6T] at HR4 ⊢
  clear hr'
  obtain ⟨q0, q1, q2, q3, q4, q5, z0, z1, z2, z3, z4, z5⟩ := qz6 rb
  have RBX := Lib.hid rb
  clear rb
  go_wp2_with fail
  have rs := six_set RBX.out (.int .i64 k2) (.string s2) (.int .i64 n2) (.slice Aq ps2.length cq) (.slice Ag fs2.length cg) (.slice Ah vs2.length ch)
  obtain ⟨r0, r1, r2, r3, r4, r5⟩ := cz6 rs
  clear q0 q1 q2 q3 q4 q5 z0 z1 z2 z3 z4 z5 RBX rs
  refine bodyPost_ret (v := .agg #[.int .i64 k2, .string s2, .int .i64 n2, .slice Aq ps2.length cq, .slice Ag fs2.length cg, .slice Ah vs2.length ch]) (by simp [results, Tryz.results22, go_sem, r0, r1, r2, r3, r4, r5]) rfl ?_
  clear r0 r1 r2 r3 r4 r5
  exact ⟨[.int .i64 k2, .string s2, .int .i64 n2, .slice Aq ps2.length cq, .slice Ag fs2.length cg, .slice Ah vs2.length ch], rfl, ret_box HR4.out (fun b h => by have := HLO.out b h; have := HG.out; omega) (by have := HG.out; omega) _ _ _ _ _ _, set_six_below HBE.out (by have := HG.out; omega) _ _ _ _ _ _⟩
theorem infoFo : (Tryz.prog.info? 37).map (fun i => (i.zero, i.size, i.bytes)) = some (some (.agg #[.string ⟨#[]⟩, .int .i64 0, .string ⟨#[]⟩, .int .i64 0, .slice none 0 0, .slice none 0 0, .slice none 0 0]), 7, 120) := by kernel_rfl
def CgP (w : World) (l : List ByteArray) (G : List (ByteArray × Ty)) : Ending → World → Prop := fun e w' => Below w.heap.size w w' ∧ ((l = [] ∧ e = .returned (.tuple #[.slice none 0 0, .int .i64 0])) ∨ ∃ s g c rs, l = [s] ∧ e = .returned (.tuple #[.slice (some ⟨g, 0, none⟩) 1 c, .int .i64 0]) ∧ (∀ j u, (Value.string s :: rs)[j]? = some u → w'.cell? ⟨g, j, none⟩ = some u) ∧ RepT (fun b => b < w'.heap.size) w' (stdT (gatN s G)) rs)
theorem found_row {w4 W5 w6 : World} {v : Value} {T : TypeId} {vs : List Value} {z : Nat} (_ : vs.length = z) (_ : 0 < z) (h : w6.ownsRow w4.heap.size T z v (0 + 1) ([] ++ vs)) (hb : Below w4.heap.size w4 W5) (hg : W5.grownBy w6 none) : ∃ g c, v = .slice (some ⟨g, 0, none⟩) 1 c ∧ Below w4.heap.size w4 w6 ∧ ∀ j u, vs[j]? = some u → w6.cell? ⟨g, j, none⟩ = some u := by
 rcases h.2 with ⟨_, h2⟩ | ⟨g, cap, cur, hv, hge, hh, hle, _, hsz, htk⟩
 ·simp at h2
 ·refine ⟨g, cap, hv, hb.grown hg hb.size (fun k hk => by cases hk), fun j u hj => ?_⟩
  rw [List.nil_append] at htk
  rw [← htk, List.getElem?_take] at hj
  split at hj
  ·rw [Lib.cell_of_heap hh]; simpa using hj
  ·cases hj
theorem formed_form {t : Ty} (h : formedT t = true) : formT t = true := by unfold formedT at h; rw [Bool.and_eq_true] at h; exact h.2
set_option maxRecDepth 100000 in
set_option maxHeartbeats 16000000 in
theorem cgather_few {K K' : Nat → Prop} {w : World} {t p : Ty} {cs ds : List Value} (hr : RepT K w t cs) (hp : RepT K' w p ds) (hlo : ∀ b, K b → b < w.heap.size) (hlo' : ∀ b, K' b → b < w.heap.size) (hft : formedT t = true) (hfp : formedT p = true) (hold : HoldP p t) (hcnt : cntT p + cntT t ≤ 1000000) (hlen : (gathT p t).length ≤ 1000000000) (hn : (namesI p).length ≤ 1) (hnm : ∀ x ∈ namesI p, x.size ≤ maxLen) (hflt : ∀ s, (flatU (gatN s (gathT p t))).length ≤ 1099511627776) :
  Calls Tryz.prog 10 #[.agg cs.toArray, .agg ds.toArray] w (CgP w (namesI p) (gathT p t)) := by
 have kft := Formed_any hr
 have kgf := fun (wx : World) (hx : Below w.heap.size w wx) => gather_few (hr.later hx) (hp.later hx) (fun b hb => Nat.lt_of_lt_of_le (hlo b hb) hx.size) (fun b hb => Nat.lt_of_lt_of_le (hlo' b hb) hx.size) (formed_form hft) (formed_form hfp) hold hcnt hlen hn hnm
 have kf1 := fun (wx : World) (hx : Below w.heap.size w wx) => Formed_any (hr.later hx)
 have kf2 := fun (wx : World) (hx : Below w.heap.size w wx) => Formed_any (hp.later hx)
 rw [hft] at kf1
 rw [hfp] at kf2
 obtain ⟨k, s, n, ps, fs, vs⟩ := t
 obtain ⟨k2, s2, n2, ps2, fs2, vs2⟩ := p
 obtain ⟨A, c, B, d, C, e0, rfl, -⟩ := hr.inv
 obtain ⟨A2, c2, B2, d2, C2, e2, rfl, -⟩ := hp.inv
 simp only [cells6T] at hr hp kgf kf1 kf2 ⊢
 obtain ⟨wa, hwa⟩ : ∃ x, x = w.alloc (.cells #[.int .i64 k, .string s, .int .i64 n, .slice A ps.length c, .slice B fs.length d, .slice C vs.length e0] 26) := ⟨_, rfl⟩
 obtain ⟨w0, hw0⟩ : ∃ x, x = wa.alloc (.cells #[.int .i64 k2, .string s2, .int .i64 n2, .slice A2 ps2.length c2, .slice B2 fs2.length d2, .slice C2 vs2.length e2] 26) := ⟨_, rfl⟩
 have hba : Below w.heap.size w wa := by rw [hwa]; exact (Below.refl _ _).alloc (Nat.le_refl _) _
 have hb0 : Below wa.heap.size wa w0 := by rw [hw0]; exact (Below.refl _ _).alloc (Nat.le_refl _) _
 have hsa : wa.heap.size = w.heap.size + 1 := by rw [hwa]; simp
 have hy0 : wa.heap[w.heap.size]? = some (.cells #[.int .i64 k, .string s, .int .i64 n, .slice A ps.length c, .slice B fs.length d, .slice C vs.length e0] 26 (0, 0)) := by rw [hwa]; exact heap_alloc_new w _
 have hx0 : w0.heap[w.heap.size + 1]? = some (.cells #[.int .i64 k2, .string s2, .int .i64 n2, .slice A2 ps2.length c2, .slice B2 fs2.length d2, .slice C2 vs2.length e2] 26 (0, 0)) := by
  have h := heap_alloc_new wa (.cells #[.int .i64 k2, .string s2, .int .i64 n2, .slice A2 ps2.length c2, .slice B2 fs2.length d2, .slice C2 vs2.length e2] 26)
  rw [hsa] at h
  rw [hw0]
  exact h
 have HBX : Hid (∀ wx, Below w0.heap.size w0 wx → (wx.cell? ⟨w.heap.size, 0, none⟩ = some (.int .i64 k) ∧ wx.cell? ⟨w.heap.size, 1, none⟩ = some (.string s) ∧ wx.cell? ⟨w.heap.size, 2, none⟩ = some (.int .i64 n) ∧ wx.cell? ⟨w.heap.size, 3, none⟩ = some (.slice A ps.length c) ∧ wx.cell? ⟨w.heap.size, 4, none⟩ = some (.slice B fs.length d) ∧ wx.cell? ⟨w.heap.size, 5, none⟩ = some (.slice C vs.length e0)) ∧ (wx.cell? ⟨w.heap.size + 1, 0, none⟩ = some (.int .i64 k2) ∧ wx.cell? ⟨w.heap.size + 1, 1, none⟩ = some (.string s2) ∧ wx.cell? ⟨w.heap.size + 1, 2, none⟩ = some (.int .i64 n2) ∧ wx.cell? ⟨w.heap.size + 1, 3, none⟩ = some (.slice A2 ps2.length c2) ∧ wx.cell? ⟨w.heap.size + 1, 4, none⟩ = some (.slice B2 fs2.length d2) ∧ wx.cell? ⟨w.heap.size + 1, 5, none⟩ = some (.slice C2 vs2.length e2))) := Lib.hid fun wx hx => by
  have h1 := box_up (hb0.trans (hx.mono hb0.size)) (Array.getElem?_eq_some_iff.1 hy0).1 hy0
  have h2 := box_up hx (Array.getElem?_eq_some_iff.1 hx0).1 hx0
  exact ⟨⟨Lib.cell_of_heap h1 0, Lib.cell_of_heap h1 1, Lib.cell_of_heap h1 2, Lib.cell_of_heap h1 3, Lib.cell_of_heap h1 4, Lib.cell_of_heap h1 5⟩, Lib.cell_of_heap h2 0, Lib.cell_of_heap h2 1, Lib.cell_of_heap h2 2, Lib.cell_of_heap h2 3, Lib.cell_of_heap h2 4, Lib.cell_of_heap h2 5⟩
 have HB0 := Lib.hid (hba.trans (hb0.mono hba.size))
 have HKG := Lib.hid kgf
 have HF1 := Lib.hid kf1
 have HF2 := Lib.hid kf2
 have HWA := Lib.hid hwa
 have HW0 := Lib.hid hw0
 have HFLT := Lib.hid hflt
 clear kft kgf kf1 kf2 hr hp hlo hlo' hft hfp hold hcnt hlen hnm hba hb0 hsa hy0 hx0 hwa hw0 hflt
 generalize gathT (.mk k2 s2 n2 ps2 fs2 vs2) (.mk k s n ps fs vs) = G at HKG HFLT ⊢
 generalize namesI (.mk k2 s2 n2 ps2 fs2 vs2) = l at hn HKG ⊢
 go_enter Tryz.func10, Tryz.ntmps10
 go_upto_region 1 with fail
 rw [← HWA.out, ← HW0.out]
 obtain ⟨⟨x0, x1, x2, x3, x4, x5⟩, ⟨y0, y1, y2, y3, y4, y5⟩⟩ := HBX.out _ (Below.refl _ _)
 go_wp2_with fail
 refine (HF1.out _ HB0.out).mono ?_
 rintro e wb ⟨rfl, hbb⟩
 have HBb := Lib.hid hbb
 have HB1 := Lib.hid (HB0.out.trans (hbb.mono HB0.out.size))
 clear hbb x0 x1 x2 x3 x4 x5 y0 y1 y2 y3 y4 y5
 obtain ⟨⟨x0, x1, x2, x3, x4, x5⟩, ⟨y0, y1, y2, y3, y4, y5⟩⟩ := HBX.out _ HBb.out
 go_wp2_with fail
 refine (HF2.out _ HB1.out).mono ?_
 rintro e wc ⟨rfl, hbb⟩
 have HBc := Lib.hid (HBb.out.trans (hbb.mono HBb.out.size))
 have HB2 := Lib.hid (HB1.out.trans (hbb.mono HB1.out.size))
 clear hbb x0 x1 x2 x3 x4 x5 y0 y1 y2 y3 y4 y5
 obtain ⟨⟨x0, x1, x2, x3, x4, x5⟩, ⟨y0, y1, y2, y3, y4, y5⟩⟩ := HBX.out _ HBc.out
 go_wp2_with fail
 refine (HKG.out _ HB2.out).mono ?_
 rintro e w4 ⟨hb4, hres⟩
 have HB4 := Lib.hid (HB2.out.trans (hb4.mono HB2.out.size))
 clear hb4 x0 x1 x2 x3 x4 x5 y0 y1 y2 y3 y4 y5
 rcases hres with ⟨rfl, rfl⟩ | ⟨nm, g, cg, Ar, cr, rfl, rfl, h0, h1, hlist⟩
 ·go_wp2_with fail
  go_loopw [21, 6] (fun v l wr => v = .int .i64 0 ∧ l = .slice none 0 0 ∧ wr = w4) (fun _ _ _ => 0)
  case atStart => exact ⟨rfl, rfl, rfl⟩
  case round =>
   obtain ⟨rfl, rfl, rfl⟩ := hrel
   go_wp2_with fail
   refine bodyPost_ret (v := .tuple #[.slice none 0 0, .int .i64 0]) (by simp [results, Tryz.results10, go_sem]) rfl ?_
   exact ⟨HB4.out, .inl ⟨rfl, rfl⟩⟩
 ·have hgl := hlist
  have HH0 := Lib.hid h0
  have HH1 := Lib.hid h1
  have HLI := Lib.hid hlist
  clear h0 h1 hlist hgl hn
  go_wp2_with fail
  go_loopw [21, 6] (fun v l wr => (v = .int .i64 0 ∧ l = .slice none 0 0 ∧ wr = w4) ∨ (v = .int .i64 1 ∧ ∃ g c rs, l = .slice (some ⟨g, 0, none⟩) 1 c ∧ Below w4.heap.size w4 wr ∧ (∀ j u, (Value.string nm :: rs)[j]? = some u → wr.cell? ⟨g, j, none⟩ = some u) ∧ RepT (fun b => b < wr.heap.size) wr (stdT (gatN nm G)) rs)) (fun v _ _ => 1 - (intOf v).toNat)
  case atStart => exact .inl ⟨rfl, rfl, rfl⟩
  case round =>
   rcases hrel with ⟨rfl, rfl, rfl⟩ | ⟨rfl, gg, cc, rs, rfl, hb, hc, hrr⟩
   ·have n0 := HH0.out
    have n1 := HH1.out
    obtain ⟨i0, hi0, hz0, hz1, hz2⟩ := partsT infoFo
    obtain ⟨w5, hw5⟩ : ∃ x, x = wr.alloc (.cells #[.string nm, .slice Ar (gatN nm G).length cr] 51) := ⟨_, rfl⟩
    have hb5 : Below wr.heap.size wr w5 := by rw [hw5]; exact (Below.refl _ _).alloc (Nat.le_refl _) _
    have hx5 : w5.heap[wr.heap.size]? = some (.cells #[.string nm, .slice Ar (gatN nm G).length cr] 51 (0, 0)) := by rw [hw5]; exact heap_alloc_new wr _
    have HBW := Lib.hid hb5
    have HB5 := Lib.hid (Below.refl w5.heap.size w5)
    have HX0 : Hid (w5.cell? ⟨wr.heap.size, 0, none⟩ = some (.string nm)) := Lib.hid (Lib.cell_of_heap hx5 0)
    have HX1 : Hid (w5.cell? ⟨wr.heap.size, 1, none⟩ = some (.slice Ar (gatN nm G).length cr)) := Lib.hid (Lib.cell_of_heap hx5 1)
    have HBB : Hid (∀ wx, Below w5.heap.size w5 wx → Below w5.heap.size w5 wx) := Lib.hid fun _ h => h
    have HST := Lib.hid fun (wx : World) (hx : Below w5.heap.size w5 wx) => stands_any nm ((HLI.out.later (hb5.trans (hx.mono hb5.size)))) (fun b hb => Nat.lt_of_lt_of_le hb (Nat.le_trans hb5.size hx.size)) (HFLT.out nm)
    have HW5 := Lib.hid hw5
    clear hb5 hx5 hw5
    go_upto_region 7 with fail
    rw [← HW5.out]
    clear n0 n1 HW5
    refine wp_region_held_drew (S := (fun w' => w'.cell? ⟨wr.heap.size, 0, none⟩ = some (.string nm) ∧ w'.cell? ⟨wr.heap.size, 1, none⟩ = some (.slice Ar (gatN nm G).length cr))) (by kernel_rfl) ⟨HX0.out, HX1.out⟩ (fun hHeld => ?_)
    refine Plan.start [0, 1, 2, 3] ?_
    iterate 4 ((refine Plan.take (v := ?_) (so rfl) (by kernel_rfl) (by kernel_rfl) (by kernel_rfl) (fun _ _ _ h => h) (Or.inl ⟨by rfl, ?_⟩) hHeld ?_; rotate_left; focus (intro w' hSw; (try dsimp only at hSw); go_simp; try with_reducible rfl)); try simp only [Act.put, List.setIfInBounds_toArray, List.set_cons_zero, List.set_cons_succ])
    refine Plan.done ?_
    refine wpAnyH_ready (rs := [4]) (by kernel_rfl) (by simp) ?_
    refine AllReadyH.cons (sd (some 29) rfl) (fun Kx hK => ?_) AllReadyH.nil
    go_simp
    refine (HST.out _ HB5.out.drew).mono ?_
    rintro e w6 ⟨rs, rfl, hr6, hb6⟩
    have hq := hr6.both
    obtain ⟨k7, s7, n7, ps7, fs7, vs7, he7⟩ : ∃ a b c d e f, stdT (gatN nm G) = .mk a b c d e f := by
     cases stdT (gatN nm G) with
     | mk a b c d e f => exact ⟨a, b, c, d, e, f, rfl⟩
    rw [he7] at hq
    have HE7 := Lib.hid he7
    obtain ⟨A7, c7, B7, d7, C7, e7, rfl, -⟩ := hq.inv
    simp only [cells6T] at hq ⊢
    have HB6 := Lib.hid (HB5.out.drew.trans (hb6.mono HB5.out.drew.size))
    have HQ := Lib.hid hq
    clear hr6 hb6 hq he7
    go_wp2_with fail
    refine hK.out _ _ (⟨cell_stays (below_then (Below.refl _ _) (HBB.out _ HB6.out)) HX0.out, cell_stays (below_then (Below.refl _ _) (HBB.out _ HB6.out)) HX1.out⟩) (fun hHeld => ?_)
    clear hK Kx
    try simp only [Act.put, List.setIfInBounds_toArray, List.set_cons_zero, List.set_cons_succ]
    refine wpAnyH_take (i := 5) (v := ?_) (sd (some 30) rfl) (by kernel_rfl) (by kernel_rfl) (by kernel_rfl) (fun _ _ _ h => h) (Or.inl ⟨by rfl, ?_⟩) hHeld ?_
    rotate_left
    ·intro w' hSw
     (try dsimp only at hSw)
     go_simp
     try with_reducible rfl
    try simp only [Act.put, List.setIfInBounds_toArray, List.set_cons_zero, List.set_cons_succ]
    refine wpAnyH_ready (rs := [6]) (by kernel_rfl) (by simp) ?_
    refine AllReadyH.cons (sd (some 31) rfl) (fun Kx hK => ?_) AllReadyH.nil
    go_simp
    generalize hW : w6.alloc (.cells #[.string nm, .int .i64 k7, .string s7, .int .i64 n7, .slice A7 ps7.length c7, .slice B7 fs7.length d7, .slice C7 vs7.length e7] 37) = w7
    have hb : Below w6.heap.size w6 w7 := by rw [← hW]; exact (Below.refl _ _).alloc (Nat.le_refl _) _
    have rs : w7.heap[w6.heap.size]? = some (.cells #[.string nm, .int .i64 k7, .string s7, .int .i64 n7, .slice A7 ps7.length c7, .slice B7 fs7.length d7, .slice C7 vs7.length e7] 37 (0, 0)) := by rw [← hW]; exact heap_alloc_new w6 _
    have HB7 := Lib.hid (HB6.out.trans (hb.mono HB6.out.size))
    have HX7 := Lib.hid rs
    have HQ7 := Lib.hid (HQ.out.later hb)
    have H67 := Lib.hid hb.size
    clear hW hb rs
    refine hK.out _ _ (⟨cell_stays (below_then (Below.refl _ _) (HBB.out _ HB7.out)) HX0.out, cell_stays (below_then (Below.refl _ _) (HBB.out _ HB7.out)) HX1.out⟩) (fun hHeld => ?_)
    clear hK Kx
    try simp only [Act.put, List.setIfInBounds_toArray, List.set_cons_zero, List.set_cons_succ]
    refine wpAnyH_ready (rs := [7]) (by kernel_rfl) (by simp) ?_
    refine AllReadyH.cons (sd (some 32) rfl) (fun Kx hK => ?_) AllReadyH.nil
    rw [if_pos (by rfl)]
    refine wp_append_own_at _ _ 31 rfl wr.heap.size 37 i0 _ 7 120 Tryz.underlying31 hi0 hz0 hz1 hz2 (by decide) (by decide) (.slice none 0 0) 0 [] rfl ⟨rfl, .inl ⟨rfl, rfl⟩⟩ ⟨w6.heap.size, 0, none⟩ 1 1 [.string nm, .int .i64 k7, .string s7, .int .i64 n7, .slice A7 ps7.length c7, .slice B7 fs7.length d7, .slice C7 vs7.length e7] rfl rfl ?_ ?_ (by decide) (by decide) (Nat.le_trans HBW.out.size HB7.out.size) ?_
    ·intro j u hj
     rw [add_zero']
     exact row_cell HX7.out hj
    ·intro u hu
     rcases List.mem_cons.1 hu with rfl | hu
     ·rfl
     ·exact one_cells HQ.out u hu
    intro v8 w8 hown hg8 _ _
    have HFIN := Lib.hid (found_row rfl (by simp) hown (HBW.out.trans (HB7.out.mono HBW.out.size)) hg8)
    have HB8 := Lib.hid (HB7.out.grown hg8 HB7.out.size (fun k hk => by cases hk))
    have h78 := (Below.refl w7.heap.size w7).grown hg8 (Nat.le_refl _) (fun k hk => by cases hk)
    have HQ8 := Lib.hid ((HQ7.out.later h78).weak (K' := fun b => b < w8.heap.size) fun b hb => Nat.lt_of_lt_of_le hb.2 (Nat.le_trans H67.out h78.size))
    clear hown hg8 h78
    refine hK.out _ _ (⟨cell_stays (below_then (Below.refl _ _) (HBB.out _ HB8.out)) HX0.out, cell_stays (below_then (Below.refl _ _) (HBB.out _ HB8.out)) HX1.out⟩) (fun hHeld => ?_)
    clear hK Kx
    try simp only [Act.put, List.setIfInBounds_toArray, List.set_cons_zero, List.set_cons_succ]
    refine wpAnyH_take (i := 8) (v := ?_) (sd (some 6) rfl) (by kernel_rfl) (by kernel_rfl) (by kernel_rfl) (fun _ _ _ h => h) (Or.inl ⟨by rfl, ?_⟩) hHeld ?_
    rotate_left
    ·intro w' hSw
     (try dsimp only at hSw)
     go_simp
     try with_reducible rfl
    try simp only [Act.put, List.setIfInBounds_toArray, List.set_cons_zero, List.set_cons_succ]
    refine wpAnyH_done (by kernel_rfl) ?_ _
    clear hHeld
    obtain ⟨g8, c8, hv8, hb8, hc8⟩ := HFIN.out
    subst hv8
    have HC8 := Lib.hid hc8
    have HBR := Lib.hid hb8
    have HRF : Hid (RepT (fun b => b < w8.heap.size) w8 (stdT (gatN nm G)) [.int .i64 k7, .string s7, .int .i64 n7, .slice A7 ps7.length c7, .slice B7 fs7.length d7, .slice C7 vs7.length e7]) := Lib.hid (by rw [HE7.out]; exact HQ8.out)
    clear HFIN hb8 hc8
    go_wp2_with fail
    refine ⟨.inr ⟨by first | rfl | simp, g8, c8, _, by first | rfl | simp, HBR.out, HC8.out, HRF.out⟩, ?_⟩
    first | decide | simp [intOf]
   ·have HF := Lib.hid (And.intro hb (And.intro hc hrr))
    clear hb hc hrr
    go_wp2_with fail
    refine bodyPost_ret (v := .tuple #[.slice (some ⟨gg, 0, none⟩) 1 cc, .int .i64 0]) (by simp [results, Tryz.results10, go_sem]) rfl ?_
    exact ⟨HB4.out.trans (HF.out.1.mono HB4.out.size), .inr ⟨nm, gg, cc, rs, rfl, rfl, HF.out.2.1, HF.out.2.2⟩⟩
end Go.Proofs.YtlooadichhpgeaaGreatDoor
