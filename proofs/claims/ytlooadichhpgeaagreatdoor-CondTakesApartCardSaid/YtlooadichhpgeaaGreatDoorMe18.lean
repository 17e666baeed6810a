import Derived.Test.YtlooadichhpgeaaGreatDoorMe17
namespace Go.Proofs.YtlooadichhpgeaaGreatDoor
open Go.RowKit
theorem list_lit {K : Nat → Prop} {w W : World} {t : Ty} {cs : List Value} {g : Nat} (ht : RepT K w t cs) (hb : Below w.heap.size w W) (hlo : ∀ b, K b → b < w.heap.size) (hh : W.heap[g]? = some (.cells cs.toArray 26 (0, 0))) : ListT (fun b => K b ∨ b = g) W [t] (some ⟨g, 0, none⟩) 1 := by
 refine ⟨g, 0, ⟨by simp, by simp, (fun h => by cases h), fun _ => ⟨rfl, .inr rfl⟩⟩, fun i hi => ?_⟩
 have : i = 0 := by simpa using hi
 subst this
 refine ⟨cs, fun j u hj => ?_, RepT.keep (fun _ h => .inl h) (fun b o v hk hc => (World.cell?_of_block (hb.block b (hlo b hk))).trans hc) _ _ ht⟩
 rw [Lib.cell_of_heap hh]; simpa using hj
set_option maxRecDepth 100000 in
set_option maxHeartbeats 16000000 in
theorem held_any (hU : UnionP) {K : Nat → Prop} {w : World} {nm : ByteArray} {fl : Int} {t : Ty} {cs : List Value} (hr : RepT K w t cs) (hlo : ∀ b, K b → b < w.heap.size) (hfl : fl = 0 ∨ fl = 1 ∨ fl = 2 ∨ fl = 3) (hn : (flatU [tyK 4, t]).length ≤ 1099511627776) :
  Calls Tryz.prog 76 #[.agg (.string nm :: .int .i64 fl :: cs).toArray] w (TyPost K w (heldT (nm, fl, t))) := by
 obtain ⟨k, s, n, ps, fs, vs⟩ := t
 obtain ⟨A, c, A', c', A'', c'', rfl, -⟩ := hr.inv
 simp only [cells6T] at hr ⊢
 obtain ⟨w1, hw1⟩ : ∃ x, x = (w.alloc (.cells #[.string nm, .int .i64 fl, .int .i64 k, .string s, .int .i64 n, .slice A ps.length c, .slice A' fs.length c', .slice A'' vs.length c''] 46)).alloc (.cells #[.int .i64 0, .string ⟨#[]⟩, .int .i64 0, .slice none 0 0, .slice none 0 0, .slice none 0 0] 26) := ⟨_, rfl⟩
 have hb1 : Below w.heap.size w w1 := by rw [hw1]; exact ((Below.refl _ _).alloc (Nat.le_refl _) _).alloc (by simp) _
 have hs1 : w1.heap.size = w.heap.size + 2 := by rw [hw1]; simp
 have hx0 : w1.heap[w.heap.size]? = some (.cells #[.string nm, .int .i64 fl, .int .i64 k, .string s, .int .i64 n, .slice A ps.length c, .slice A' fs.length c', .slice A'' vs.length c''] 46 (0, 0)) := by rw [hw1, Below.heap_alloc _ _ _ (by simp)]; exact heap_alloc_new w _
 have hx1 : w1.heap[w.heap.size + 1]? = some (.cells #[.int .i64 0, .string ⟨#[]⟩, .int .i64 0, .slice none 0 0, .slice none 0 0, .slice none 0 0] 26 (0, 0)) := by
  rw [hw1]
  have h := heap_alloc_new (w.alloc (.cells #[.string nm, .int .i64 fl, .int .i64 k, .string s, .int .i64 n, .slice A ps.length c, .slice A' fs.length c', .slice A'' vs.length c''] 46)) (.cells #[.int .i64 0, .string ⟨#[]⟩, .int .i64 0, .slice none 0 0, .slice none 0 0, .slice none 0 0] 26)
  rw [World.size_alloc] at h
  exact h
 have HLO := Lib.hid hlo
 have HR := Lib.hid hr
 have HB1 := Lib.hid hb1
 have HS1 := Lib.hid hs1
 have HX1 := Lib.hid hx1
 have HW1 := Lib.hid hw1
 obtain ⟨g, hg⟩ : ∃ g, g = w.heap.size + 1 := ⟨_, rfl⟩
 have HG := Lib.hid hg
 have HL : Hid (ListT (fun b => K b ∨ b = w.heap.size + 2) (w1.alloc (.cells #[.int .i64 k, .string s, .int .i64 n, .slice A ps.length c, .slice A' fs.length c', .slice A'' vs.length c''] 26)) [.mk k s n ps fs vs] (some ⟨w.heap.size + 2, 0, none⟩) 1) := Lib.hid (list_lit hr (hb1.alloc hb1.size _) hlo (by rw [← hs1]; exact heap_alloc_new w1 _))
 have kn := ornull_any hU HL.out.both (fun b h => h.2) hn (by simp)
 simp only [List.length_singleton] at kn
 have KN := Lib.hid kn
 clear kn
 have e2 : (w1.alloc (.cells #[.int .i64 k, .string s, .int .i64 n, .slice A ps.length c, .slice A' fs.length c', .slice A'' vs.length c''] 26)).heap.size = w.heap.size + 3 := by rw [World.size_alloc, hs1]
 have HE2 := Lib.hid e2
 rcases hfl with rfl | rfl | rfl | rfl
 ·rw [show heldT (nm, 0, .mk k s n ps fs vs) = .mk k s n ps fs vs from rfl]
  unfold TyPost
  obtain ⟨x0, x1, x2, x3, x4, x5, x6, x7⟩ := cz8 hx0
  clear hr hlo hb1 hs1 hx0 hx1 e2 hg hw1
  go_enter Tryz.func76, Tryz.ntmps76
  go_upto_region 1 with fail
  rw [← HW1.out, ← HG.out]
  clear HW1
  go_upto_region 3 with fail
  have rb := HX1.out
  rw [← HG.out] at rb
  have HBE := Lib.hid HB1.out
  have hr' : RepT (fun b => K b ∨ g < b) _ (.mk k s n ps fs vs) [.int .i64 k, .string s, .int .i64 n, .slice A ps.length c, .slice A' fs.length c', .slice A'' vs.length c''] := (HR.out.later HB1.out).weak fun b h => Or.inl h
  have HR4 := Lib.hid hr'
  clear hr'
  obtain ⟨q0, q1, q2, q3, q4, q5, z0, z1, z2, z3, z4, z5⟩ := qz6 rb
  have RBX := Lib.hid rb
  clear rb
  go_wp2_with fail
  have rs := six_set RBX.out (.int .i64 k) (.string s) (.int .i64 n) (.slice A ps.length c) (.slice A' fs.length c') (.slice A'' vs.length c'')
  obtain ⟨r0, r1, r2, r3, r4, r5⟩ := cz6 rs
  clear q0 q1 q2 q3 q4 q5 z0 z1 z2 z3 z4 z5 RBX rs
  refine bodyPost_ret (v := .agg #[.int .i64 k, .string s, .int .i64 n, .slice A ps.length c, .slice A' fs.length c', .slice A'' vs.length c'']) (by simp [results, Tryz.results76, go_sem, r0, r1, r2, r3, r4, r5]) rfl ?_
  clear r0 r1 r2 r3 r4 r5
  exact ⟨[.int .i64 k, .string s, .int .i64 n, .slice A ps.length c, .slice A' fs.length c', .slice A'' vs.length c''], rfl, ret_box HR4.out (fun b h => by have := HLO.out b h; have := HG.out; omega) (by have := HG.out; omega) _ _ _ _ _ _, set_six_below HBE.out (by have := HG.out; omega) _ _ _ _ _ _⟩
 ·generalize hu : heldT (nm, 1, .mk k s n ps fs vs) = u
  obtain ⟨k2, s2, n2, ps2, fs2, vs2⟩ := u
  have HUE : Hid (unionT [tyK 4, .mk k s n ps fs vs] = .mk k2 s2 n2 ps2 fs2 vs2) := Lib.hid (by rw [← hu]; rfl)
  unfold TyPost
  clear HW1
  subst hw1
  obtain ⟨x0, x1, x2, x3, x4, x5, x6, x7⟩ := cz8 hx0
  clear hr hlo hb1 hs1 hx0 hx1 e2 hg hu
  go_enter Tryz.func76, Tryz.ntmps76
  go_wp2_with fail
  refine KN.out.mono ?_
  rintro e w4 ⟨rs, rfl, hr4, hb4⟩
  have hbl : Below _ _ w4 := (((Below.refl _ _).alloc (Nat.le_refl _) _).trans (hb4.mono (by simp)))
  have HBE := Lib.hid (HB1.out.trans (hbl.mono HB1.out.size))
  have rb := (hbl.block (w.heap.size + 1) (by have := HS1.out; omega)).trans HX1.out
  have hr' : RepT (fun b => K b ∨ w.heap.size + 1 < b) w4 (unionT [tyK 4, .mk k s n ps fs vs]) rs := hr4.weak fun b h => by
   rcases h with ⟨h | h, -⟩ | h
   ·exact .inl h
   ·exact .inr (by omega)
   ·exact .inr (by have := HE2.out; omega)
  clear hr4 hb4 KN hbl x0 x1 x2 x3 x4 x5 x6 x7
  rw [HUE.out] at hr'
  obtain ⟨Aq, cq, Ag, cg, Ah, ch, rfl, -⟩ := hr'.inv
  have HR4 := Lib.hid hr'
  simp only [cells6T] at HR4 ⊢
  clear hr'
  obtain ⟨q0, q1, q2, q3, q4, q5, z0, z1, z2, z3, z4, z5⟩ := qz6 rb
  have RBX := Lib.hid rb
  clear rb
  go_wp2_with fail
  have rs := six_set RBX.out (.int .i64 k2) (.string s2) (.int .i64 n2) (.slice Aq ps2.length cq) (.slice Ag fs2.length cg) (.slice Ah vs2.length ch)
  obtain ⟨r0, r1, r2, r3, r4, r5⟩ := cz6 rs
  clear q0 q1 q2 q3 q4 q5 z0 z1 z2 z3 z4 z5 RBX rs
  refine bodyPost_ret (v := .agg #[.int .i64 k2, .string s2, .int .i64 n2, .slice Aq ps2.length cq, .slice Ag fs2.length cg, .slice Ah vs2.length ch]) (by simp [results, Tryz.results76, go_sem, r0, r1, r2, r3, r4, r5]) rfl ?_
  clear r0 r1 r2 r3 r4 r5
  exact ⟨[.int .i64 k2, .string s2, .int .i64 n2, .slice Aq ps2.length cq, .slice Ag fs2.length cg, .slice Ah vs2.length ch], rfl, ret_box HR4.out (fun b h => by have := HLO.out b h; omega) (Nat.le_succ _) _ _ _ _ _ _, set_six_below HBE.out (Nat.le_succ _) _ _ _ _ _ _⟩
 ·rw [show heldT (nm, 2, .mk k s n ps fs vs) = .mk k s n ps fs vs from rfl]
  unfold TyPost
  obtain ⟨x0, x1, x2, x3, x4, x5, x6, x7⟩ := cz8 hx0
  clear hr hlo hb1 hs1 hx0 hx1 e2 hg hw1
  go_enter Tryz.func76, Tryz.ntmps76
  go_upto_region 1 with fail
  rw [← HW1.out, ← HG.out]
  clear HW1
  go_upto_region 3 with fail
  have rb := HX1.out
  rw [← HG.out] at rb
  have HBE := Lib.hid HB1.out
  have hr' : RepT (fun b => K b ∨ g < b) _ (.mk k s n ps fs vs) [.int .i64 k, .string s, .int .i64 n, .slice A ps.length c, .slice A' fs.length c', .slice A'' vs.length c''] := (HR.out.later HB1.out).weak fun b h => Or.inl h
  have HR4 := Lib.hid hr'
  clear hr'
  obtain ⟨q0, q1, q2, q3, q4, q5, z0, z1, z2, z3, z4, z5⟩ := qz6 rb
  have RBX := Lib.hid rb
  clear rb
  go_wp2_with fail
  have rs := six_set RBX.out (.int .i64 k) (.string s) (.int .i64 n) (.slice A ps.length c) (.slice A' fs.length c') (.slice A'' vs.length c'')
  obtain ⟨r0, r1, r2, r3, r4, r5⟩ := cz6 rs
  clear q0 q1 q2 q3 q4 q5 z0 z1 z2 z3 z4 z5 RBX rs
  refine bodyPost_ret (v := .agg #[.int .i64 k, .string s, .int .i64 n, .slice A ps.length c, .slice A' fs.length c', .slice A'' vs.length c'']) (by simp [results, Tryz.results76, go_sem, r0, r1, r2, r3, r4, r5]) rfl ?_
  clear r0 r1 r2 r3 r4 r5
  exact ⟨[.int .i64 k, .string s, .int .i64 n, .slice A ps.length c, .slice A' fs.length c', .slice A'' vs.length c''], rfl, ret_box HR4.out (fun b h => by have := HLO.out b h; have := HG.out; omega) (by have := HG.out; omega) _ _ _ _ _ _, set_six_below HBE.out (by have := HG.out; omega) _ _ _ _ _ _⟩
 ·generalize hu : heldT (nm, 3, .mk k s n ps fs vs) = u
  obtain ⟨k2, s2, n2, ps2, fs2, vs2⟩ := u
  have HUE : Hid (unionT [tyK 4, .mk k s n ps fs vs] = .mk k2 s2 n2 ps2 fs2 vs2) := Lib.hid (by rw [← hu]; rfl)
  unfold TyPost
  clear HW1
  subst hw1
  obtain ⟨x0, x1, x2, x3, x4, x5, x6, x7⟩ := cz8 hx0
  clear hr hlo hb1 hs1 hx0 hx1 e2 hg hu
  go_enter Tryz.func76, Tryz.ntmps76
  go_wp2_with fail
  refine KN.out.mono ?_
  rintro e w4 ⟨rs, rfl, hr4, hb4⟩
  have hbl : Below _ _ w4 := (((Below.refl _ _).alloc (Nat.le_refl _) _).trans (hb4.mono (by simp)))
  have HBE := Lib.hid (HB1.out.trans (hbl.mono HB1.out.size))
  have rb := (hbl.block (w.heap.size + 1) (by have := HS1.out; omega)).trans HX1.out
  have hr' : RepT (fun b => K b ∨ w.heap.size + 1 < b) w4 (unionT [tyK 4, .mk k s n ps fs vs]) rs := hr4.weak fun b h => by
   rcases h with ⟨h | h, -⟩ | h
   ·exact .inl h
   ·exact .inr (by omega)
   ·exact .inr (by have := HE2.out; omega)
  clear hr4 hb4 KN hbl x0 x1 x2 x3 x4 x5 x6 x7
  rw [HUE.out] at hr'
  obtain ⟨Aq, cq, Ag, cg, Ah, ch, rfl, -⟩ := hr'.inv
  have HR4 := Lib.hid hr'
  simp only [cells6T] at HR4 ⊢
  clear hr'
  obtain ⟨q0, q1, q2, q3, q4, q5, z0, z1, z2, z3, z4, z5⟩ := qz6 rb
  have RBX := Lib.hid rb
  clear rb
  go_wp2_with fail
  have rs := six_set RBX.out (.int .i64 k2) (.string s2) (.int .i64 n2) (.slice Aq ps2.length cq) (.slice Ag fs2.length cg) (.slice Ah vs2.length ch)
  obtain ⟨r0, r1, r2, r3, r4, r5⟩ := cz6 rs
  clear q0 q1 q2 q3 q4 q5 z0 z1 z2 z3 z4 z5 RBX rs
  refine bodyPost_ret (v := .agg #[.int .i64 k2, .string s2, .int .i64 n2, .slice Aq ps2.length cq, .slice Ag fs2.length cg, .slice Ah vs2.length ch]) (by simp [results, Tryz.results76, go_sem, r0, r1, r2, r3, r4, r5]) rfl ?_
  clear r0 r1 r2 r3 r4 r5
  exact ⟨[.int .i64 k2, .string s2, .int .i64 n2, .slice Aq ps2.length cq, .slice Ag fs2.length cg, .slice Ah vs2.length ch], rfl, ret_box HR4.out (fun b h => by have := HLO.out b h; omega) (Nat.le_succ _) _ _ _ _ _ _, set_six_below HBE.out (Nat.le_succ _) _ _ _ _ _ _⟩
end Go.Proofs.YtlooadichhpgeaaGreatDoor
