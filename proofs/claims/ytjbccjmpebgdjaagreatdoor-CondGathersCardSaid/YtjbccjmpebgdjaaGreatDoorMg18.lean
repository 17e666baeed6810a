import Derived.Test.YtjbccjmpebgdjaaGreatDoorMg14
import Derived.Test.YtjbccjmpebgdjaaGreatDoorMg17
namespace Go.Proofs.YtjbccjmpebgdjaaGreatDoor
set_option maxRecDepth 100000
set_option maxHeartbeats 64000000
open Go.RowKit
theorem sgnZ (x y : Int) : sgn (decide (x < y)) (decide (y < x)) = cmpZ x y := by
 rcases cmpZ_cases x y with ⟨a, b, e⟩ | ⟨a, b, e⟩ | ⟨a, b, e⟩ <;> rw [e, sgn] <;> simp [a, b]
theorem sgnB (x y : ByteArray) : sgn (Op.bytesLess x.toList y.toList) (!Op.bytesLess x.toList y.toList && !(x.toList == y.toList)) = cmpB x y := by
 rcases cmpB_cases x y with ⟨a, b, e⟩ | ⟨a, b, e⟩ | ⟨a, b, e⟩ <;> rw [e, sgn, a, b] <;> rfl
theorem ordr_step (k : Int) (t : ByteArray) (n : Int) (ps : List Ty) (fs : FsT) (vs : VsT) (hp : ∀ p ∈ ps, OrdR p) (hf : ∀ f ∈ fs, OrdR f.2.2) (hv : ∀ v ∈ vs, ∀ b ∈ v.2, OrdR b) : OrdR (.mk k t n ps fs vs) := by
 intro K K' t' w cs cs' h h'
 obtain ⟨k', s', n', ps', fs', vs'⟩ := t'
 have hb2 : Gw w ((w.alloc (.cells cs.toArray 26)).alloc (.cells cs'.toArray 26)) := ((Gw.refl w).alloc _).alloc _
 have a1 := (AtT.box 26 h).later ((Below.refl _ _).alloc (Nat.le_refl _) (.cells cs'.toArray 26))
 have a2 : AtT K' ((w.alloc (.cells cs.toArray 26)).alloc (.cells cs'.toArray 26)) (.mk k' s' n' ps' fs' vs') (w.heap.size + 1) 0 := by
  have := AtT.box (w := w.alloc (.cells cs.toArray 26)) 26 (h'.later ((Below.refl _ _).alloc (Nat.le_refl _) _))
  rw [World.size_alloc] at this
  exact this
 have HB2 := Hd hb2
 obtain ⟨A, c, A2, c2, A3, c3, rfl, -⟩ := h.inv
 obtain ⟨B, d, B2, d2, B3, d3, rfl, -⟩ := h'.inv
 simp only [cells6T] at a1 a2 HB2 ⊢
 generalize hw2 : (w.alloc (.cells #[.int .i64 k, .string t, .int .i64 n, .slice A ps.length c, .slice A2 fs.length c2, .slice A3 vs.length c3] 26)).alloc (.cells #[.int .i64 k', .string s', .int .i64 n', .slice B ps'.length d, .slice B2 fs'.length d2, .slice B3 vs'.length d3] 26) = w2 at a1 a2 HB2
 have HE2 := Hd hw2
 obtain ⟨A', c', A2', c2', A3', c3', ⟨x0, x1, x2, x3, x4, x5⟩, -, hP, hF, hV⟩ := a1.six
 obtain ⟨B', d', B2', d2', B3', d3', ⟨y0, y1, y2, y3, y4, y5⟩, -, hP', hF', hV'⟩ := a2.six
 rw [Nat.zero_add] at x1 x2 x3 x4 x5 y1 y2 y3 y4 y5
 have HX : Hid (∀ wx, Gw w2 wx → (wx.cell? ⟨w.heap.size, 3, none⟩ = some (.slice A' ps.length c') ∧ wx.cell? ⟨w.heap.size, 4, none⟩ = some (.slice A2' fs.length c2') ∧ wx.cell? ⟨w.heap.size, 5, none⟩ = some (.slice A3' vs.length c3')) ∧ wx.cell? ⟨w.heap.size + 1, 3, none⟩ = some (.slice B' ps'.length d') ∧ wx.cell? ⟨w.heap.size + 1, 4, none⟩ = some (.slice B2' fs'.length d2') ∧ wx.cell? ⟨w.heap.size + 1, 5, none⟩ = some (.slice B3' vs'.length d3')) := Hd fun wx hx => ⟨⟨cell_stays hx.below x3, cell_stays hx.below x4, cell_stays hx.below x5⟩, cell_stays hx.below y3, cell_stays hx.below y4, cell_stays hx.below y5⟩
 have K3 : Hid (∀ wx, Gw w2 wx → Calls Tryz.prog 33 #[.slice A' ps.length c', .slice B' ps'.length d'] wx fun e w' => e = .returned (.int .i64 (lexC (flatL ps) (flatL ps'))) ∧ Gw wx w') := Hd fun wx hx => list_ref ps ps' hp (hP.later hx.below) (hP'.later hx.below)
 have K4 : Hid (∀ wx, Gw w2 wx → Calls Tryz.prog 34 #[.slice A2' fs.length c2', .slice B2' fs'.length d2'] wx fun e w' => e = .returned (.int .i64 (lexC (flatF fs) (flatF fs'))) ∧ Gw wx w') := Hd fun wx hx => fields_ref fs fs' hf (hF.later hx.below) (hF'.later hx.below)
 have K5 : Hid (∀ wx, Gw w2 wx → Calls Tryz.prog 35 #[.slice A3' vs.length c3', .slice B3' vs'.length d3'] wx fun e w' => e = .returned (.int .i64 (lexC (flatV vs) (flatV vs'))) ∧ Gw wx w') := Hd fun wx hx => vars_ref vs vs' hv (hV.later hx.below) (hV'.later hx.below)
 have HO := Hd (ord_steps k t n ps fs vs k' s' n' ps' fs' vs')
 have Z0 := Hd (sgnZ k k')
 have Z1 := Hd (sgnB t s')
 have Z2 := Hd (sgnZ n n')
 generalize ordT (.mk k t n ps fs vs) (.mk k' s' n' ps' fs' vs') = oo at HO ⊢
 generalize cmpZ k k' = q0 at HO Z0
 generalize cmpB t s' = q1 at HO Z1
 generalize cmpZ n n' = q2 at HO Z2
 generalize lexC (flatL ps) (flatL ps') = q3 at HO K3
 generalize lexC (flatF fs) (flatF fs') = q4 at HO K4
 generalize lexC (flatV vs) (flatV vs') = q5 at HO K5
 clear h h' hb2 a1 a2 hP hF hV hP' hF' hV' hp hf hv hw2 x3 x4 x5 y3 y4 y5
 go_enter Tryz.func20, Tryz.ntmps20
 go_wp2_with fail
 rw [HE2.out]
 refine (sign_any _ _ _).mono ?_
 rintro e w3 ⟨rfl, rfl⟩
 rw [Z0.out]
 by_cases z0 : q0 = 0
 ·have e0 : (q0 == 0) = true := by simpa using z0
  have Q0 := Hd z0
  clear z0
  go_wp2_with fail
  refine (sign_any _ _ _).mono ?_
  rintro e w3 ⟨rfl, rfl⟩
  rw [Z1.out]
  by_cases z1 : q1 = 0
  ·have e1 : (q1 == 0) = true := by simpa using z1
   have Q1 := Hd z1
   clear z1
   go_wp2_with fail
   refine (sign_any _ _ _).mono ?_
   rintro e w3 ⟨rfl, rfl⟩
   rw [Z2.out]
   by_cases z2 : q2 = 0
   ·have e2 : (q2 == 0) = true := by simpa using z2
    have Q2 := Hd z2
    clear z2
    obtain ⟨⟨x3, x4, x5⟩, y3, y4, y5⟩ := HX.out _ (Gw.refl _)
    go_wp2_with fail
    clear x3 x4 x5 y3 y4 y5
    refine (K3.out _ (Gw.refl _)).mono ?_
    rintro e w3 ⟨rfl, hg⟩
    have HG3 := Hd (hg)
    clear hg
    by_cases z3 : q3 = 0
    ·have e3 : (q3 == 0) = true := by simpa using z3
     have Q3 := Hd z3
     clear z3
     obtain ⟨⟨x3, x4, x5⟩, y3, y4, y5⟩ := HX.out _ HG3.out
     go_wp2_with fail
     clear x3 x4 x5 y3 y4 y5
     refine (K4.out _ HG3.out).mono ?_
     rintro e w4 ⟨rfl, hg⟩
     have HG4 := Hd (HG3.out.trans hg)
     clear hg
     by_cases z4 : q4 = 0
     ·have e4 : (q4 == 0) = true := by simpa using z4
      have Q4 := Hd z4
      clear z4
      obtain ⟨⟨x3, x4, x5⟩, y3, y4, y5⟩ := HX.out _ HG4.out
      go_wp2_with fail
      clear x3 x4 x5 y3 y4 y5
      refine (K5.out _ HG4.out).mono ?_
      rintro e w5 ⟨rfl, hg⟩
      have HG5 := Hd (HG4.out.trans hg)
      clear hg
      go_wp2_with fail
      go_ret
      exact ⟨by rw [HO.out, Q0.out, or2_zero, Q1.out, or2_zero, Q2.out, or2_zero, Q3.out, or2_zero, Q4.out, or2_zero]; rfl, HB2.out.trans HG5.out⟩
     ·have e4 : (q4 == 0) = false := by simpa using z4
      have Q4 := Hd z4
      clear z4
      go_wp2_with fail
      go_ret
      exact ⟨by rw [HO.out, Q0.out, or2_zero, Q1.out, or2_zero, Q2.out, or2_zero, Q3.out, or2_zero, or2_ne Q4.out]; rfl, HB2.out.trans HG4.out⟩
    ·have e3 : (q3 == 0) = false := by simpa using z3
     have Q3 := Hd z3
     clear z3
     go_wp2_with fail
     go_ret
     exact ⟨by rw [HO.out, Q0.out, or2_zero, Q1.out, or2_zero, Q2.out, or2_zero, or2_ne Q3.out]; rfl, HB2.out.trans HG3.out⟩
   ·have e2 : (q2 == 0) = false := by simpa using z2
    have Q2 := Hd z2
    clear z2
    go_wp2_with fail
    go_ret
    exact ⟨by rw [HO.out, Q0.out, or2_zero, Q1.out, or2_zero, or2_ne Q2.out]; rfl, HB2.out⟩
  ·have e1 : (q1 == 0) = false := by simpa using z1
   have Q1 := Hd z1
   clear z1
   go_wp2_with fail
   go_ret
   exact ⟨by rw [HO.out, Q0.out, or2_zero, or2_ne Q1.out]; rfl, HB2.out⟩
 ·have e0 : (q0 == 0) = false := by simpa using z0
  have Q0 := Hd z0
  clear z0
  go_wp2_with fail
  go_ret
  exact ⟨by rw [HO.out, or2_ne Q0.out]; rfl, HB2.out⟩
theorem order_ref (t : Ty) : OrdR t := Ty.ind (C := OrdR) (fun k t n ps fs vs hp hf hv => ordr_step k t n ps fs vs hp hf hv) t
theorem list_lit {K : Nat → Prop} {w W : World} {t : Ty} {cs : List Value} {g : Nat} (ht : RepT K w t cs) (hb : Below w.heap.size w W) (hlo : ∀ b, K b → b < w.heap.size) (hh : W.heap[g]? = some (.cells cs.toArray 26 (0, 0))) : ListT (fun b => K b ∨ b = g) W [t] (some ⟨g, 0, none⟩) 1 := by
 refine ⟨g, 0, ⟨by simp, by simp, (fun h => by cases h), fun _ => ⟨rfl, .inr rfl⟩⟩, fun i hi => ?_⟩
 have : i = 0 := by simpa using hi
 subst this
 refine ⟨cs, fun j u hj => ?_, RepT.keep (fun _ h => .inl h) (fun b o v hk hc => (World.cell?_of_block (hb.block b (hlo b hk))).trans hc) _ _ ht⟩
 rw [Ch hh]; simpa using hj
theorem held_any (hU : UnionP) {K : Nat → Prop} {w : World} {nm : ByteArray} {fl : Int} {t : Ty} {cs : List Value} (hr : RepT K w t cs) (hlo : ∀ b, K b → b < w.heap.size) (hfl : fl = 0 ∨ fl = 1 ∨ fl = 2 ∨ fl = 3) (hn : (flatU [tyK 4, t]).length ≤ 1099511627776) :
  Calls Tryz.prog 77 #[.agg (.string nm :: .int .i64 fl :: cs).toArray] w (TyPost K w (heldT (nm, fl, t))) := by
 obtain ⟨k, s, n, ps, fs, vs⟩ := t
 obtain ⟨A, c, A', c', A'', c'', rfl, -⟩ := hr.inv
 simp only [cells6T] at hr ⊢
 obtain ⟨w1, hw1⟩ : ∃ x, x = (w.alloc (.cells #[.string nm, .int .i64 fl, .int .i64 k, .string s, .int .i64 n, .slice A ps.length c, .slice A' fs.length c', .slice A'' vs.length c''] 55)).alloc (.cells #[.int .i64 0, .string ⟨#[]⟩, .int .i64 0, .slice none 0 0, .slice none 0 0, .slice none 0 0] 26) := ⟨_, rfl⟩
 have hb1 : Below w.heap.size w w1 := by rw [hw1]; exact ((Below.refl _ _).alloc (Nat.le_refl _) _).alloc (by simp) _
 have hs1 : w1.heap.size = w.heap.size + 2 := by rw [hw1]; simp
 have hx0 : w1.heap[w.heap.size]? = some (.cells #[.string nm, .int .i64 fl, .int .i64 k, .string s, .int .i64 n, .slice A ps.length c, .slice A' fs.length c', .slice A'' vs.length c''] 55 (0, 0)) := by rw [hw1, Below.heap_alloc _ _ _ (by simp)]; exact heap_alloc_new w _
 have hx1 : w1.heap[w.heap.size + 1]? = some (.cells #[.int .i64 0, .string ⟨#[]⟩, .int .i64 0, .slice none 0 0, .slice none 0 0, .slice none 0 0] 26 (0, 0)) := by
  rw [hw1]
  have h := heap_alloc_new (w.alloc (.cells #[.string nm, .int .i64 fl, .int .i64 k, .string s, .int .i64 n, .slice A ps.length c, .slice A' fs.length c', .slice A'' vs.length c''] 55)) (.cells #[.int .i64 0, .string ⟨#[]⟩, .int .i64 0, .slice none 0 0, .slice none 0 0, .slice none 0 0] 26)
  rw [World.size_alloc] at h
  exact h
 have HLO := Hd hlo
 have HR := Hd hr
 have HB1 := Hd hb1
 have HS1 := Hd hs1
 have HX1 := Hd hx1
 have HW1 := Hd hw1
 obtain ⟨g, hg⟩ : ∃ g, g = w.heap.size + 1 := ⟨_, rfl⟩
 have HG := Hd hg
 have HL : Hid (ListT (fun b => K b ∨ b = w.heap.size + 2) (w1.alloc (.cells #[.int .i64 k, .string s, .int .i64 n, .slice A ps.length c, .slice A' fs.length c', .slice A'' vs.length c''] 26)) [.mk k s n ps fs vs] (some ⟨w.heap.size + 2, 0, none⟩) 1) := Hd (list_lit hr (hb1.alloc hb1.size _) hlo (by rw [← hs1]; exact heap_alloc_new w1 _))
 have kn := ornull_any hU HL.out.both (fun b h => h.2) hn (by simp)
 simp only [List.length_singleton] at kn
 have KN := Hd kn
 clear kn
 have e2 : (w1.alloc (.cells #[.int .i64 k, .string s, .int .i64 n, .slice A ps.length c, .slice A' fs.length c', .slice A'' vs.length c''] 26)).heap.size = w.heap.size + 3 := by rw [World.size_alloc, hs1]
 have HE2 := Hd e2
 rcases hfl with rfl | rfl | rfl | rfl
 ·rw [show heldT (nm, 0, .mk k s n ps fs vs) = .mk k s n ps fs vs from rfl]
  unfold TyPost
  obtain ⟨x0, x1, x2, x3, x4, x5, x6, x7⟩ := cz8 hx0
  clear hr hlo hb1 hs1 hx0 hx1 e2 hg hw1
  go_enter Tryz.func77, Tryz.ntmps77
  go_upto_region 1 with fail
  rw [← HW1.out, ← HG.out]
  clear HW1
  go_upto_region 3 with fail
  have rb := HX1.out
  rw [← HG.out] at rb
  have HBE := Hd HB1.out
  have hr' : RepT (fun b => K b ∨ g < b) _ (.mk k s n ps fs vs) [.int .i64 k, .string s, .int .i64 n, .slice A ps.length c, .slice A' fs.length c', .slice A'' vs.length c''] := (HR.out.later HB1.out).weak fun b h => Or.inl h
  have HR4 := Hd hr'
  clear hr'
  obtain ⟨q0, q1, q2, q3, q4, q5, z0, z1, z2, z3, z4, z5⟩ := qz6 rb
  have RBX := Hd rb
  clear rb
  go_wp2_with fail
  have rs := six_set RBX.out (.int .i64 k) (.string s) (.int .i64 n) (.slice A ps.length c) (.slice A' fs.length c') (.slice A'' vs.length c'')
  obtain ⟨r0, r1, r2, r3, r4, r5⟩ := cz6 rs
  clear q0 q1 q2 q3 q4 q5 z0 z1 z2 z3 z4 z5 RBX rs
  refine bodyPost_ret (v := .agg #[.int .i64 k, .string s, .int .i64 n, .slice A ps.length c, .slice A' fs.length c', .slice A'' vs.length c'']) (by simp [results, Tryz.results77, go_sem, r0, r1, r2, r3, r4, r5]) rfl ?_
  clear r0 r1 r2 r3 r4 r5
  exact ⟨[.int .i64 k, .string s, .int .i64 n, .slice A ps.length c, .slice A' fs.length c', .slice A'' vs.length c''], rfl, ret_box HR4.out (fun b h => by have := HLO.out b h; have := HG.out; omega) (by have := HG.out; omega) _ _ _ _ _ _, set_six_below HBE.out (by have := HG.out; omega) _ _ _ _ _ _⟩
 ·generalize hu : heldT (nm, 1, .mk k s n ps fs vs) = u
  obtain ⟨k2, s2, n2, ps2, fs2, vs2⟩ := u
  have HUE : Hid (unionT [tyK 4, .mk k s n ps fs vs] = .mk k2 s2 n2 ps2 fs2 vs2) := Hd (by rw [← hu]; rfl)
  unfold TyPost
  clear HW1
  subst hw1
  obtain ⟨x0, x1, x2, x3, x4, x5, x6, x7⟩ := cz8 hx0
  clear hr hlo hb1 hs1 hx0 hx1 e2 hg hu
  go_enter Tryz.func77, Tryz.ntmps77
  go_wp2_with fail
  refine KN.out.mono ?_
  rintro e w4 ⟨rs, rfl, hr4, hb4⟩
  have hbl : Below _ _ w4 := (((Below.refl _ _).alloc (Nat.le_refl _) _).trans (hb4.mono (by simp)))
  have HBE := Hd (HB1.out.trans (hbl.mono HB1.out.size))
  have rb := (hbl.block (w.heap.size + 1) (by have := HS1.out; omega)).trans HX1.out
  have hr' : RepT (fun b => K b ∨ w.heap.size + 1 < b) w4 (unionT [tyK 4, .mk k s n ps fs vs]) rs := hr4.weak fun b h => by
   rcases h with ⟨h | h, -⟩ | h
   ·exact .inl h
   ·exact .inr (by omega)
   ·exact .inr (by have := HE2.out; omega)
  clear hr4 hb4 KN hbl x0 x1 x2 x3 x4 x5 x6 x7
  rw [HUE.out] at hr'
  obtain ⟨Aq, cq, Ag, cg, Ah, ch, rfl, -⟩ := hr'.inv
  have HR4 := Hd hr'
  simp only [cells6T] at HR4 ⊢
  clear hr'
  obtain ⟨q0, q1, q2, q3, q4, q5, z0, z1, z2, z3, z4, z5⟩ := qz6 rb
  have RBX := Hd rb
  clear rb
  go_wp2_with fail
  have rs := six_set RBX.out (.int .i64 k2) (.string s2) (.int .i64 n2) (.slice Aq ps2.length cq) (.slice Ag fs2.length cg) (.slice Ah vs2.length ch)
  obtain ⟨r0, r1, r2, r3, r4, r5⟩ := cz6 rs
  clear q0 q1 q2 q3 q4 q5 z0 z1 z2 z3 z4 z5 RBX rs
  refine bodyPost_ret (v := .agg #[.int .i64 k2, .string s2, .int .i64 n2, .slice Aq ps2.length cq, .slice Ag fs2.length cg, .slice Ah vs2.length ch]) (by simp [results, Tryz.results77, go_sem, r0, r1, r2, r3, r4, r5]) rfl ?_
  clear r0 r1 r2 r3 r4 r5
  exact ⟨[.int .i64 k2, .string s2, .int .i64 n2, .slice Aq ps2.length cq, .slice Ag fs2.length cg, .slice Ah vs2.length ch], rfl, ret_box HR4.out (fun b h => by have := HLO.out b h; omega) (Nat.le_succ _) _ _ _ _ _ _, set_six_below HBE.out (Nat.le_succ _) _ _ _ _ _ _⟩
 ·rw [show heldT (nm, 2, .mk k s n ps fs vs) = .mk k s n ps fs vs from rfl]
  unfold TyPost
  obtain ⟨x0, x1, x2, x3, x4, x5, x6, x7⟩ := cz8 hx0
  clear hr hlo hb1 hs1 hx0 hx1 e2 hg hw1
  go_enter Tryz.func77, Tryz.ntmps77
  go_upto_region 1 with fail
  rw [← HW1.out, ← HG.out]
  clear HW1
  go_upto_region 3 with fail
  have rb := HX1.out
  rw [← HG.out] at rb
  have HBE := Hd HB1.out
  have hr' : RepT (fun b => K b ∨ g < b) _ (.mk k s n ps fs vs) [.int .i64 k, .string s, .int .i64 n, .slice A ps.length c, .slice A' fs.length c', .slice A'' vs.length c''] := (HR.out.later HB1.out).weak fun b h => Or.inl h
  have HR4 := Hd hr'
  clear hr'
  obtain ⟨q0, q1, q2, q3, q4, q5, z0, z1, z2, z3, z4, z5⟩ := qz6 rb
  have RBX := Hd rb
  clear rb
  go_wp2_with fail
  have rs := six_set RBX.out (.int .i64 k) (.string s) (.int .i64 n) (.slice A ps.length c) (.slice A' fs.length c') (.slice A'' vs.length c'')
  obtain ⟨r0, r1, r2, r3, r4, r5⟩ := cz6 rs
  clear q0 q1 q2 q3 q4 q5 z0 z1 z2 z3 z4 z5 RBX rs
  refine bodyPost_ret (v := .agg #[.int .i64 k, .string s, .int .i64 n, .slice A ps.length c, .slice A' fs.length c', .slice A'' vs.length c'']) (by simp [results, Tryz.results77, go_sem, r0, r1, r2, r3, r4, r5]) rfl ?_
  clear r0 r1 r2 r3 r4 r5
  exact ⟨[.int .i64 k, .string s, .int .i64 n, .slice A ps.length c, .slice A' fs.length c', .slice A'' vs.length c''], rfl, ret_box HR4.out (fun b h => by have := HLO.out b h; have := HG.out; omega) (by have := HG.out; omega) _ _ _ _ _ _, set_six_below HBE.out (by have := HG.out; omega) _ _ _ _ _ _⟩
 ·generalize hu : heldT (nm, 3, .mk k s n ps fs vs) = u
  obtain ⟨k2, s2, n2, ps2, fs2, vs2⟩ := u
  have HUE : Hid (unionT [tyK 4, .mk k s n ps fs vs] = .mk k2 s2 n2 ps2 fs2 vs2) := Hd (by rw [← hu]; rfl)
  unfold TyPost
  clear HW1
  subst hw1
  obtain ⟨x0, x1, x2, x3, x4, x5, x6, x7⟩ := cz8 hx0
  clear hr hlo hb1 hs1 hx0 hx1 e2 hg hu
  go_enter Tryz.func77, Tryz.ntmps77
  go_wp2_with fail
  refine KN.out.mono ?_
  rintro e w4 ⟨rs, rfl, hr4, hb4⟩
  have hbl : Below _ _ w4 := (((Below.refl _ _).alloc (Nat.le_refl _) _).trans (hb4.mono (by simp)))
  have HBE := Hd (HB1.out.trans (hbl.mono HB1.out.size))
  have rb := (hbl.block (w.heap.size + 1) (by have := HS1.out; omega)).trans HX1.out
  have hr' : RepT (fun b => K b ∨ w.heap.size + 1 < b) w4 (unionT [tyK 4, .mk k s n ps fs vs]) rs := hr4.weak fun b h => by
   rcases h with ⟨h | h, -⟩ | h
   ·exact .inl h
   ·exact .inr (by omega)
   ·exact .inr (by have := HE2.out; omega)
  clear hr4 hb4 KN hbl x0 x1 x2 x3 x4 x5 x6 x7
  rw [HUE.out] at hr'
  obtain ⟨Aq, cq, Ag, cg, Ah, ch, rfl, -⟩ := hr'.inv
  have HR4 := Hd hr'
  simp only [cells6T] at HR4 ⊢
  clear hr'
  obtain ⟨q0, q1, q2, q3, q4, q5, z0, z1, z2, z3, z4, z5⟩ := qz6 rb
  have RBX := Hd rb
  clear rb
  go_wp2_with fail
  have rs := six_set RBX.out (.int .i64 k2) (.string s2) (.int .i64 n2) (.slice Aq ps2.length cq) (.slice Ag fs2.length cg) (.slice Ah vs2.length ch)
  obtain ⟨r0, r1, r2, r3, r4, r5⟩ := cz6 rs
  clear q0 q1 q2 q3 q4 q5 z0 z1 z2 z3 z4 z5 RBX rs
  refine bodyPost_ret (v := .agg #[.int .i64 k2, .string s2, .int .i64 n2, .slice Aq ps2.length cq, .slice Ag fs2.length cg, .slice Ah vs2.length ch]) (by simp [results, Tryz.results77, go_sem, r0, r1, r2, r3, r4, r5]) rfl ?_
  clear r0 r1 r2 r3 r4 r5
  exact ⟨[.int .i64 k2, .string s2, .int .i64 n2, .slice Aq ps2.length cq, .slice Ag fs2.length cg, .slice Ah vs2.length ch], rfl, ret_box HR4.out (fun b h => by have := HLO.out b h; omega) (Nat.le_succ _) _ _ _ _ _ _, set_six_below HBE.out (Nat.le_succ _) _ _ _ _ _ _⟩
end Go.Proofs.YtjbccjmpebgdjaaGreatDoor
