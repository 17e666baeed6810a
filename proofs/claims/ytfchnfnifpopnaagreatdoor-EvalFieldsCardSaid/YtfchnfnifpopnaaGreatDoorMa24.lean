import Derived.Test.YtfchnfnifpopnaaGreatDoorMa0
import Derived.Test.YtfchnfnifpopnaaGreatDoorMa7
import Derived.Test.YtfchnfnifpopnaaGreatDoorMa23
namespace Go.Proofs.YtfchnfnifpopnaaGreatDoor
open Go.RowKit
set_option maxRecDepth 100000 in
set_option maxHeartbeats 16000000 in
theorem clo_1 {K : Nat → Prop} {w : World} {t p u : Ty} {cs ds : List Value} {gb : Nat} (hr : RepT K w t cs) (hp : RepT K w p ds) (hlo : ∀ b, K b → b < w.heap.size) (hgl : gb < w.heap.size) (hg : w.heap[gb]? = some (.cells cs.toArray 26 (0, 0)))
  (KA : ∀ wx, Below w.heap.size w wx → Calls Tryz.prog 19 #[.agg cs.toArray, .agg ds.toArray] wx (TyPost K wx u)) :
  Calls Tryz.prog 36 #[.agg ds.toArray, .pointer (some ⟨gb, 0, none⟩)] w (TyPost K w u) := by
 obtain ⟨k, s, n, ps, fs, vs⟩ := t
 obtain ⟨A, c, A', c', A'', c'', rfl, -⟩ := hr.inv
 obtain ⟨k3, s3, n3, ps3, fs3, vs3⟩ := p
 obtain ⟨A3, c3, B3, d3, C3, e3, rfl, -⟩ := hp.inv
 obtain ⟨k2, s2, n2, ps2, fs2, vs2⟩ := u
 simp only [cells6T] at hr hp hg KA ⊢
 obtain ⟨w1, hw1⟩ : ∃ x, x = (w.alloc (.cells #[.int .i64 k3, .string s3, .int .i64 n3, .slice A3 ps3.length c3, .slice B3 fs3.length d3, .slice C3 vs3.length e3] 26)).alloc (.cells #[.int .i64 0, .string ⟨#[]⟩, .int .i64 0, .slice none 0 0, .slice none 0 0, .slice none 0 0] 26) := ⟨_, rfl⟩
 obtain ⟨g, hgg⟩ : ∃ g, g = w.heap.size + 1 := ⟨_, rfl⟩
 have hb1 : Below w.heap.size w w1 := by rw [hw1]; exact ((Below.refl _ _).alloc (Nat.le_refl _) _).alloc (by simp) _
 have hs1 : w1.heap.size = w.heap.size + 2 := by rw [hw1]; simp
 have hx0 : w1.heap[w.heap.size]? = some (.cells #[.int .i64 k3, .string s3, .int .i64 n3, .slice A3 ps3.length c3, .slice B3 fs3.length d3, .slice C3 vs3.length e3] 26 (0, 0)) := by rw [hw1, Below.heap_alloc _ _ _ (by simp)]; exact heap_alloc_new w _
 have hx1 : w1.heap[g]? = some (.cells #[.int .i64 0, .string ⟨#[]⟩, .int .i64 0, .slice none 0 0, .slice none 0 0, .slice none 0 0] 26 (0, 0)) := by
  rw [hw1, hgg]
  have h := heap_alloc_new (w.alloc (.cells #[.int .i64 k3, .string s3, .int .i64 n3, .slice A3 ps3.length c3, .slice B3 fs3.length d3, .slice C3 vs3.length e3] 26)) (.cells #[.int .i64 0, .string ⟨#[]⟩, .int .i64 0, .slice none 0 0, .slice none 0 0, .slice none 0 0] 26)
  rw [World.size_alloc] at h
  exact h
 have hy := box_up hb1 hgl hg
 have HB1 := Lib.hid hb1
 have HS1 := Lib.hid hs1
 have HX0 := Lib.hid hx0
 have HX1 := Lib.hid hx1
 have HY := Lib.hid hy
 have HW1 := Lib.hid hw1
 have HG := Lib.hid hgg
 have HLO := Lib.hid hlo
 have KA1 := Lib.hid (KA w1 hb1)
 unfold TyPost
 clear hr hp hb1 hs1 hx0 hx1 hy hw1 hgg hlo hg KA hgl
 go_enter Tryz.func36, Tryz.ntmps36
 go_upto_region 1 with fail
 rw [← HW1.out, ← HG.out]
 obtain ⟨x0, x1, x2, x3, x4, x5⟩ := cz6 HX0.out
 obtain ⟨y0, y1, y2, y3, y4, y5⟩ := cz6 HY.out
 go_wp2_with fail
 refine KA1.out.mono ?_
 rintro e w2 ⟨rs, rfl, hr2, hb2⟩
 have HBE := Lib.hid (HB1.out.trans (hb2.mono HB1.out.size))
 have rb := box_up hb2 (by have := HG.out; have := HS1.out; omega) HX1.out
 have hr3 : RepT (fun b => K b ∨ g < b) w2 (.mk k2 s2 n2 ps2 fs2 vs2) rs := hr2.weak fun b h => h.imp id fun h => by have := HG.out; have := HS1.out; omega
 obtain ⟨Aq, cq, Ag, cg, Ah, ch, rfl, -⟩ := hr3.inv
 have HR3 := Lib.hid hr3
 simp only [cells6T] at HR3 ⊢
 clear hr2 hb2 hr3 KA1 x0 x1 x2 x3 x4 x5 y0 y1 y2 y3 y4 y5
 obtain ⟨q0, q1, q2, q3, q4, q5, z0, z1, z2, z3, z4, z5⟩ := qz6 rb
 have RBX := Lib.hid rb
 clear rb
 go_wp2_with fail
 have rs := six_set RBX.out (.int .i64 k2) (.string s2) (.int .i64 n2) (.slice Aq ps2.length cq) (.slice Ag fs2.length cg) (.slice Ah vs2.length ch)
 obtain ⟨r0, r1, r2, r3, r4, r5⟩ := cz6 rs
 clear q0 q1 q2 q3 q4 q5 z0 z1 z2 z3 z4 z5 RBX rs
 refine bodyPost_ret (v := .agg #[.int .i64 k2, .string s2, .int .i64 n2, .slice Aq ps2.length cq, .slice Ag fs2.length cg, .slice Ah vs2.length ch]) (by simp [results, Tryz.results36, go_sem, r0, r1, r2, r3, r4, r5]) rfl ?_
 clear r0 r1 r2 r3 r4 r5
 exact ⟨[.int .i64 k2, .string s2, .int .i64 n2, .slice Aq ps2.length cq, .slice Ag fs2.length cg, .slice Ah vs2.length ch], rfl, ret_box HR3.out (fun b h => by have := HLO.out b h; have := HG.out; omega) (by have := HG.out; omega) _ _ _ _ _ _, set_six_below HBE.out (by have := HG.out; omega) _ _ _ _ _ _⟩
set_option maxRecDepth 100000 in
set_option maxHeartbeats 16000000 in
theorem clo_2 {K : Nat → Prop} {w : World} {t p u : Ty} {cs ds : List Value} {gb : Nat} (hr : RepT K w t cs) (hp : RepT K w p ds) (hlo : ∀ b, K b → b < w.heap.size) (hgl : gb < w.heap.size) (hg : w.heap[gb]? = some (.cells cs.toArray 26 (0, 0)))
  (KA : ∀ wx, Below w.heap.size w wx → Calls Tryz.prog 19 #[.agg ds.toArray, .agg cs.toArray] wx (TyPost K wx u)) :
  Calls Tryz.prog 37 #[.agg ds.toArray, .pointer (some ⟨gb, 0, none⟩)] w (TyPost K w u) := by
 obtain ⟨k, s, n, ps, fs, vs⟩ := t
 obtain ⟨A, c, A', c', A'', c'', rfl, -⟩ := hr.inv
 obtain ⟨k3, s3, n3, ps3, fs3, vs3⟩ := p
 obtain ⟨A3, c3, B3, d3, C3, e3, rfl, -⟩ := hp.inv
 obtain ⟨k2, s2, n2, ps2, fs2, vs2⟩ := u
 simp only [cells6T] at hr hp hg KA ⊢
 obtain ⟨w1, hw1⟩ : ∃ x, x = (w.alloc (.cells #[.int .i64 k3, .string s3, .int .i64 n3, .slice A3 ps3.length c3, .slice B3 fs3.length d3, .slice C3 vs3.length e3] 26)).alloc (.cells #[.int .i64 0, .string ⟨#[]⟩, .int .i64 0, .slice none 0 0, .slice none 0 0, .slice none 0 0] 26) := ⟨_, rfl⟩
 obtain ⟨g, hgg⟩ : ∃ g, g = w.heap.size + 1 := ⟨_, rfl⟩
 have hb1 : Below w.heap.size w w1 := by rw [hw1]; exact ((Below.refl _ _).alloc (Nat.le_refl _) _).alloc (by simp) _
 have hs1 : w1.heap.size = w.heap.size + 2 := by rw [hw1]; simp
 have hx0 : w1.heap[w.heap.size]? = some (.cells #[.int .i64 k3, .string s3, .int .i64 n3, .slice A3 ps3.length c3, .slice B3 fs3.length d3, .slice C3 vs3.length e3] 26 (0, 0)) := by rw [hw1, Below.heap_alloc _ _ _ (by simp)]; exact heap_alloc_new w _
 have hx1 : w1.heap[g]? = some (.cells #[.int .i64 0, .string ⟨#[]⟩, .int .i64 0, .slice none 0 0, .slice none 0 0, .slice none 0 0] 26 (0, 0)) := by
  rw [hw1, hgg]
  have h := heap_alloc_new (w.alloc (.cells #[.int .i64 k3, .string s3, .int .i64 n3, .slice A3 ps3.length c3, .slice B3 fs3.length d3, .slice C3 vs3.length e3] 26)) (.cells #[.int .i64 0, .string ⟨#[]⟩, .int .i64 0, .slice none 0 0, .slice none 0 0, .slice none 0 0] 26)
  rw [World.size_alloc] at h
  exact h
 have hy := box_up hb1 hgl hg
 have HB1 := Lib.hid hb1
 have HS1 := Lib.hid hs1
 have HX0 := Lib.hid hx0
 have HX1 := Lib.hid hx1
 have HY := Lib.hid hy
 have HW1 := Lib.hid hw1
 have HG := Lib.hid hgg
 have HLO := Lib.hid hlo
 have KA1 := Lib.hid (KA w1 hb1)
 unfold TyPost
 clear hr hp hb1 hs1 hx0 hx1 hy hw1 hgg hlo hg KA hgl
 go_enter Tryz.func37, Tryz.ntmps37
 go_upto_region 1 with fail
 rw [← HW1.out, ← HG.out]
 obtain ⟨x0, x1, x2, x3, x4, x5⟩ := cz6 HX0.out
 obtain ⟨y0, y1, y2, y3, y4, y5⟩ := cz6 HY.out
 go_wp2_with fail
 refine KA1.out.mono ?_
 rintro e w2 ⟨rs, rfl, hr2, hb2⟩
 have HBE := Lib.hid (HB1.out.trans (hb2.mono HB1.out.size))
 have rb := box_up hb2 (by have := HG.out; have := HS1.out; omega) HX1.out
 have hr3 : RepT (fun b => K b ∨ g < b) w2 (.mk k2 s2 n2 ps2 fs2 vs2) rs := hr2.weak fun b h => h.imp id fun h => by have := HG.out; have := HS1.out; omega
 obtain ⟨Aq, cq, Ag, cg, Ah, ch, rfl, -⟩ := hr3.inv
 have HR3 := Lib.hid hr3
 simp only [cells6T] at HR3 ⊢
 clear hr2 hb2 hr3 KA1 x0 x1 x2 x3 x4 x5 y0 y1 y2 y3 y4 y5
 obtain ⟨q0, q1, q2, q3, q4, q5, z0, z1, z2, z3, z4, z5⟩ := qz6 rb
 have RBX := Lib.hid rb
 clear rb
 go_wp2_with fail
 have rs := six_set RBX.out (.int .i64 k2) (.string s2) (.int .i64 n2) (.slice Aq ps2.length cq) (.slice Ag fs2.length cg) (.slice Ah vs2.length ch)
 obtain ⟨r0, r1, r2, r3, r4, r5⟩ := cz6 rs
 clear q0 q1 q2 q3 q4 q5 z0 z1 z2 z3 z4 z5 RBX rs
 refine bodyPost_ret (v := .agg #[.int .i64 k2, .string s2, .int .i64 n2, .slice Aq ps2.length cq, .slice Ag fs2.length cg, .slice Ah vs2.length ch]) (by simp [results, Tryz.results37, go_sem, r0, r1, r2, r3, r4, r5]) rfl ?_
 clear r0 r1 r2 r3 r4 r5
 exact ⟨[.int .i64 k2, .string s2, .int .i64 n2, .slice Aq ps2.length cq, .slice Ag fs2.length cg, .slice Ah vs2.length ch], rfl, ret_box HR3.out (fun b h => by have := HLO.out b h; have := HG.out; omega) (by have := HG.out; omega) _ _ _ _ _ _, set_six_below HBE.out (by have := HG.out; omega) _ _ _ _ _ _⟩
def zeroT6 : Array Value := #[.int .i64 0, .string ⟨#[]⟩, .int .i64 0, .slice none 0 0, .slice none 0 0, .slice none 0 0]
theorem make_types (n : Nat) (hn : n ≤ 1099511627776) (w : World) : (Instr.makeSlice 22 (.int .i64 (n : Int)) (.int .i64 (n : Int))).run Tryz.prog w = .ok (.slice (some ⟨w.heap.size, 0, none⟩) n n) (w.alloc (.cells (madeCells zeroT6 (n * 6)) 26)) := by
 obtain ⟨i0, hi0, hz0, hz1, hz2⟩ := partsT infoTy
 have hr := run_make (P := Tryz.prog) w 22 26 i0 _ Tryz.underlying22 hi0 hz0 .i64 .i64 n n (by omega) (Int.le_refl _) (by rw [hz2]; omega) (by omega)
 simp only [Int.toNat_natCast, hz1] at hr
 exact hr
theorem some_set {w : World} {p r : Addr} {u : Value} (h : ∃ v, w.cell? p = some v) : ∃ v, (w.setCell r u).cell? p = some v := by
 obtain ⟨v, hv⟩ := h
 by_cases e : r = p
 ·subst e
  exact ⟨u, World.cell?_setCell_same _ _ _ hv⟩
 ·exact ⟨v, (World.cell?_setCell_other _ _ _ _ e).trans hv⟩
theorem set_same {w : World} {p : Addr} {u : Value} (h : ∃ v, w.cell? p = some v) : (w.setCell p u).cell? p = some u := by
 obtain ⟨v, hv⟩ := h
 exact World.cell?_setCell_same _ _ _ hv
theorem off_ne {g a b : Nat} (h : a ≠ b) : (⟨g, a, none⟩ : Addr) ≠ ⟨g, b, none⟩ := fun e => by
 injection e with _ e2 _
 exact h e2
def put6 (w : World) (g y : Nat) (v0 v1 v2 v3 v4 v5 : Value) : World := (((((w.setCell ⟨g, y, none⟩ v0).setCell ⟨g, y + 1, none⟩ v1).setCell ⟨g, y + 2, none⟩ v2).setCell ⟨g, y + 3, none⟩ v3).setCell ⟨g, y + 4, none⟩ v4).setCell ⟨g, y + 5, none⟩ v5
theorem put6_other {w : World} {g y : Nat} {v0 v1 v2 v3 v4 v5 : Value} {p : Addr} (h : p.block ≠ g ∨ p.off < y) : (put6 w g y v0 v1 v2 v3 v4 v5).cell? p = w.cell? p := by
 have hne : ∀ i, (⟨g, y + i, none⟩ : Addr) ≠ p := fun i e => by
  subst e
  rcases h with h | h
  ·exact h rfl
  ·have h : y + i < y := h
   omega
 unfold put6
 rw [World.cell?_setCell_other _ _ _ _ (hne 5), World.cell?_setCell_other _ _ _ _ (hne 4), World.cell?_setCell_other _ _ _ _ (hne 3), World.cell?_setCell_other _ _ _ _ (hne 2), World.cell?_setCell_other _ _ _ _ (hne 1), World.cell?_setCell_other _ _ _ _ (show (⟨g, y, none⟩ : Addr) ≠ p from hne 0)]
theorem put6_at {w : World} {g y : Nat} {v0 v1 v2 v3 v4 v5 : Value} (h : ∀ x, x < 6 → ∃ v, w.cell? ⟨g, y + x, none⟩ = some v) :
  ∀ x u, ([v0, v1, v2, v3, v4, v5] : List Value)[x]? = some u → (put6 w g y v0 v1 v2 v3 v4 v5).cell? ⟨g, y + x, none⟩ = some u := by
 intro x u hu
 unfold put6
 rcases x with _ | _ | _ | _ | _ | _ | x
 ·obtain rfl : v0 = u := by simpa using hu
  rw [World.cell?_setCell_other _ _ _ _ (off_ne (by omega)), World.cell?_setCell_other _ _ _ _ (off_ne (by omega)), World.cell?_setCell_other _ _ _ _ (off_ne (by omega)), World.cell?_setCell_other _ _ _ _ (off_ne (by omega)), World.cell?_setCell_other _ _ _ _ (off_ne (by omega))]
  exact set_same (h 0 (by omega))
 ·obtain rfl : v1 = u := by simpa using hu
  rw [World.cell?_setCell_other _ _ _ _ (off_ne (by omega)), World.cell?_setCell_other _ _ _ _ (off_ne (by omega)), World.cell?_setCell_other _ _ _ _ (off_ne (by omega)), World.cell?_setCell_other _ _ _ _ (off_ne (by omega))]
  exact set_same (some_set (h 1 (by omega)))
 ·obtain rfl : v2 = u := by simpa using hu
  rw [World.cell?_setCell_other _ _ _ _ (off_ne (by omega)), World.cell?_setCell_other _ _ _ _ (off_ne (by omega)), World.cell?_setCell_other _ _ _ _ (off_ne (by omega))]
  exact set_same (some_set (some_set (h 2 (by omega))))
 ·obtain rfl : v3 = u := by simpa using hu
  rw [World.cell?_setCell_other _ _ _ _ (off_ne (by omega)), World.cell?_setCell_other _ _ _ _ (off_ne (by omega))]
  exact set_same (some_set (some_set (some_set (h 3 (by omega)))))
 ·obtain rfl : v4 = u := by simpa using hu
  rw [World.cell?_setCell_other _ _ _ _ (off_ne (by omega))]
  exact set_same (some_set (some_set (some_set (some_set (h 4 (by omega))))))
 ·obtain rfl : v5 = u := by simpa using hu
  exact set_same (some_set (some_set (some_set (some_set (some_set (h 5 (by omega)))))))
 ·simp at hu
theorem put6_size (w : World) (g y : Nat) (v0 v1 v2 v3 v4 v5 : Value) : (put6 w g y v0 v1 v2 v3 v4 v5).heap.size = w.heap.size := by simp [put6]
theorem put6_below {B g y : Nat} {a w : World} (h : Below B a w) (hb : B ≤ g) (v0 v1 v2 v3 v4 v5 : Value) : Below B a (put6 w g y v0 v1 v2 v3 v4 v5) := (((((h.setCell hb v0).setCell hb v1).setCell hb v2).setCell hb v3).setCell hb v4).setCell hb v5
structure FillT (K : Nat → Prop) (w : World) (g q : Nat) (S : List Ty) : Prop where
 lt : g < w.heap.size
 cell : ∀ y, y < q * 6 → ∃ v, w.cell? ⟨g, y, none⟩ = some v
 free : ∀ y, w.frozen? ⟨g, y, none⟩ = false
 reps : ∀ i (h : i < S.length), ∃ cs, RepT (fun b => K b ∨ g < b) w S[i] cs ∧ ∀ j u, cs[j]? = some u → w.cell? ⟨g, i * 6 + j, none⟩ = some u
theorem FillT.start (K : Nat → Prop) (w : World) (n : Nat) : FillT K (w.alloc (.cells (madeCells zeroT6 (n * 6)) 26)) w.heap.size n [] := by
 refine ⟨by simp, fun y hy => ?_, fun y => by simp, fun i h => absurd h (by simp)⟩
 have hs : y < (madeCells zeroT6 (n * 6)).size := by rw [size_madeCells]; exact hy
 exact ⟨(madeCells zeroT6 (n * 6))[y], by rw [cell_of_row _ _ _ _ _ _ (heap_alloc_new w _)]; exact Array.getElem?_eq_getElem hs⟩
theorem FillT.below {K : Nat → Prop} {w w' : World} {g q : Nat} {S : List Ty} (h : FillT K w g q S) (hb : Below w.heap.size w w') : FillT K w' g q S :=
 ⟨by have := h.lt; have := hb.size; omega, fun y hy => by obtain ⟨v, hv⟩ := h.cell y hy; exact ⟨v, cell_stays hb hv⟩, fun y => (hb.frozen (p := ⟨g, y, none⟩) h.lt).trans (h.free y),
  fun i hi => by obtain ⟨cs, h1, h2⟩ := h.reps i hi; exact ⟨cs, h1.later hb, fun j u hj => cell_stays hb (h2 j u hj)⟩⟩
theorem FillT.put {K : Nat → Prop} {w : World} {g q : Nat} {S : List Ty} {t : Ty} {v0 v1 v2 v3 v4 v5 : Value} (h : FillT K w g q S) (hlo : ∀ b, K b → b < g) (hj : S.length < q) (ht : RepT (fun b => K b ∨ g < b) w t [v0, v1, v2, v3, v4, v5]) :
  FillT K (put6 w g (S.length * 6) v0 v1 v2 v3 v4 v5) g q (S ++ [t]) := by
 have hkeep : ∀ {t : Ty} {cs : List Value}, RepT (fun b => K b ∨ g < b) w t cs → RepT (fun b => K b ∨ g < b) (put6 w g (S.length * 6) v0 v1 v2 v3 v4 v5) t cs := fun {t cs} hr =>
  RepT.keep (fun _ h => h) (fun b o v hk hc => by
   rw [put6_other (.inl ?_)]
   ·exact hc
   ·show b ≠ g
    rcases hk with hk | hk
    ·have := hlo b hk; omega
    ·omega) t cs hr
 refine ⟨by rw [put6_size]; exact h.lt, fun y hy => ?_, fun y => ?_, fun i hi => ?_⟩
 ·exact some_set (some_set (some_set (some_set (some_set (some_set (h.cell y hy))))))
 ·simp only [put6, World.frozen?_setCell]
  exact h.free y
 ·rw [List.length_append, List.length_singleton] at hi
  by_cases hlt : i < S.length
  ·obtain ⟨cs, h1, h2⟩ := h.reps i hlt
   have h6 := h1.six
   refine ⟨cs, by rw [List.getElem_append_left hlt]; exact hkeep h1, fun j u hj' => ?_⟩
   have hj6 := (List.getElem?_eq_some_iff.1 hj').1
   rw [put6_other (.inr (by show i * 6 + j < S.length * 6; omega))]
   exact h2 j u hj'
  ·obtain rfl : i = S.length := by omega
   refine ⟨_, by rw [List.getElem_append_right (by omega)]; simpa using hkeep ht, fun j u hj' => put6_at (fun x hx => h.cell _ (by omega)) j u hj'⟩
theorem FillT.list {K : Nat → Prop} {w : World} {g : Nat} {S : List Ty} (h : FillT K w g S.length S) (hl : S.length ≤ 1000000000000000) : ListT (fun b => K b ∨ g ≤ b) w S (some ⟨g, 0, none⟩) S.length :=
 ⟨g, 0, ⟨Nat.le_refl _, hl, (fun h => by cases h), fun _ => ⟨rfl, .inr (Nat.le_refl _)⟩⟩, fun i hi => by
  obtain ⟨cs, h1, h2⟩ := h.reps i hi
  exact ⟨cs, fun j u hj => by rw [Nat.zero_add]; exact h2 j u hj, h1.weak fun b hb => hb.imp id fun hb => Nat.le_of_lt hb⟩⟩
set_option maxRecDepth 100000 in
set_option maxHeartbeats 32000000 in
theorem each_1 (hU : UnionP) {K : Nat → Prop} {w : World} {l : List Ty} {A : Option Addr} {c : Nat} {t : Ty} {cs : List Value} {gb : Nat} (f : Ty → Ty) (hL : ListT K w l A c) (hr : RepT K w t cs) (hlo : ∀ b, K b → b < w.heap.size) (hgl : gb < w.heap.size) (hg : w.heap[gb]? = some (.cells cs.toArray 26 (0, 0)))
  (KA : ∀ p ∈ l, ∀ wx ds, Below w.heap.size w wx → RepT K wx p ds → Calls Tryz.prog 19 #[.agg cs.toArray, .agg ds.toArray] wx (TyPost K wx (f p))) (hn : (flatU (l.map f)).length ≤ 1099511627776) (hll : l.length ≤ 1099511627776) :
  Calls Tryz.prog 35 #[.slice A l.length c, .func (.func 36) #[] #[.pointer (some ⟨gb, 0, none⟩)]] w (TyPost K w (unionT (l.map f))) := by
 obtain ⟨w1, hw1⟩ : ∃ x, x = w.alloc (.cells #[.int .i64 0, .string ⟨#[]⟩, .int .i64 0, .slice none 0 0, .slice none 0 0, .slice none 0 0] 26) := ⟨_, rfl⟩
 have hb1 : Below w.heap.size w w1 := by rw [hw1]; exact (Below.refl _ _).alloc (Nat.le_refl _) _
 have hs1 : w1.heap.size = w.heap.size + 1 := by rw [hw1]; simp
 have hx1 : w1.heap[w.heap.size]? = some (.cells #[.int .i64 0, .string ⟨#[]⟩, .int .i64 0, .slice none 0 0, .slice none 0 0, .slice none 0 0] 26 (0, 0)) := by rw [hw1]; exact heap_alloc_new w _
 obtain ⟨g, hgg⟩ : ∃ g, g = w.heap.size + 1 := ⟨_, rfl⟩
 obtain ⟨w2, hw2⟩ : ∃ x, x = w1.alloc (.cells (madeCells zeroT6 (l.length * 6)) 26) := ⟨_, rfl⟩
 have hb2 : Below w1.heap.size w1 w2 := by rw [hw2]; exact (Below.refl _ _).alloc (Nat.le_refl _) _
 have hf2 : FillT K w2 g l.length [] := by rw [hw2, hgg, ← hs1]; exact FillT.start K w1 l.length
 have hmk := make_types l.length hll
 have HB1 := Lib.hid hb1
 have HS1 := Lib.hid hs1
 have HX1 := Lib.hid hx1
 have HW1 := Lib.hid hw1
 have HW2 := Lib.hid hw2
 have HG := Lib.hid hgg
 have HB2 := Lib.hid hb2
 have HF2 := Lib.hid hf2
 have HL := Lib.hid hL
 have HLO := Lib.hid hlo
 have HR := Lib.hid hr
 have HGB := Lib.hid (And.intro hgl hg)
 have HKA := Lib.hid KA
 have HN := Lib.hid hn
 have HU := Lib.hid hU
 generalize hu : unionT (l.map f) = u
 have HUE := Lib.hid hu
 obtain ⟨k2, s2, n2, ps2, fs2, vs2⟩ := u
 unfold TyPost
 clear hL hr hlo hgl hg KA hn hU hb1 hs1 hx1 hw1 hgg hw2 hb2 hf2 hu
 go_enter Tryz.func35, Tryz.ntmps35
 go_upto_region 3 with fail
 rw [← HW1.out, ← HG.out, ← HW2.out]
 go_wp2_with fail
 go_loopw [13] (fun v wr => ∃ (i : Nat), i ≤ l.length ∧ v = .int .i64 i ∧ FillT K wr g l.length ((l.take i).map f) ∧ Below w1.heap.size w1 wr) (fun v _ => l.length - (intOf v).toNat)
 case atStart => exact ⟨0, by omega, rfl, by simpa using HF2.out, HB2.out⟩
 case round =>
  obtain ⟨i, hi, rfl, hfl, hb⟩ := hrel
  have HFL := Lib.hid hfl
  have HB := Lib.hid hb
  have HBE := Lib.hid (HB1.out.trans (hb.mono HB1.out.size))
  clear hfl hb
  by_cases hin : i < l.length
  ·have t1 : decide ((i : Int) < (l.length : Int)) = true := by simp; omega
   have wr2 : wrap64 ((i : Int) + 1) = ((i + 1 : Nat) : Int) := wrap_one (by omega)
   have HM := Lib.hid (measI hin)
   have HIn : Hid (i + 1 ≤ l.length) := Lib.hid hin
   have HTake : Hid ((l.take (i + 1)).map f = (l.take i).map f ++ [f l[i]] ∧ ((l.take i).map f).length = i) := Lib.hid ⟨by rw [List.take_succ_eq_append_getElem hin, List.map_append]; rfl, by simp; omega⟩
   obtain ⟨b, o, hA, hKb, hat⟩ := HL.out.at (by omega)
   subst hA
   obtain ⟨ds, hds, hrep⟩ := hat i hin
   have HKI := Lib.hid (HKA.out l[i] (List.getElem_mem hin))
   have HPR : Hid (l[i] = l[i]) := Lib.hid rfl
   generalize hfi : f l[i] = fi at HTake HKI
   generalize l[i] = p at hrep HKI
   obtain ⟨k3, s3, n3, ps3, fs3, vs3⟩ := p
   obtain ⟨A3, c3, B3, d3, C3, e3, rfl, -⟩ := hrep.inv
   have HRP := Lib.hid hrep
   have z0 : wr.cell? ⟨b, o + i * 6, none⟩ = some (.int .i64 k3) := cell_stays HBE.out (hds 0 _ rfl)
   have z1 : wr.cell? ⟨b, o + i * 6 + 1, none⟩ = some (.string s3) := cell_stays HBE.out (hds 1 _ rfl)
   have z2 : wr.cell? ⟨b, o + i * 6 + 2, none⟩ = some (.int .i64 n3) := cell_stays HBE.out (hds 2 _ rfl)
   have z3 : wr.cell? ⟨b, o + i * 6 + 3, none⟩ = some (.slice A3 ps3.length c3) := cell_stays HBE.out (hds 3 _ rfl)
   have z4 : wr.cell? ⟨b, o + i * 6 + 4, none⟩ = some (.slice B3 fs3.length d3) := cell_stays HBE.out (hds 4 _ rfl)
   have z5 : wr.cell? ⟨b, o + i * 6 + 5, none⟩ = some (.slice C3 vs3.length e3) := cell_stays HBE.out (hds 5 _ rfl)
   clear hat hds hrep hfi hi HPR hKb
   go_upto_region 5 with fail
   generalize hW : wr.alloc (.cells #[.int .i64 k3, .string s3, .int .i64 n3, .slice A3 ps3.length c3, .slice B3 fs3.length d3, .slice C3 vs3.length e3] 26) = W
   have hbW : Below wr.heap.size wr W := by rw [← hW]; exact (Below.refl _ _).alloc (Nat.le_refl _) _
   have hx5 : W.heap[wr.heap.size]? = some (.cells #[.int .i64 k3, .string s3, .int .i64 n3, .slice A3 ps3.length c3, .slice B3 fs3.length d3, .slice C3 vs3.length e3] 26 (0, 0)) := by rw [← hW]; exact heap_alloc_new wr _
   have hbE := HBE.out.trans (hbW.mono HBE.out.size)
   have hsW : w.heap.size ≤ W.heap.size := hbE.size
   have KC := Lib.hid (clo_1 (K := K) (w := W) (HR.out.later hbE) (HRP.out.later hbE) (fun b h => Nat.lt_of_lt_of_le (HLO.out b h) hsW) (Nat.lt_of_lt_of_le HGB.out.1 hsW) (box_up hbE HGB.out.1 HGB.out.2) fun wx hx => HKI.out wx _ (hbE.trans (hx.mono hbE.size)) ((HRP.out.later hbE).later hx))
   have HBW := Lib.hid (HB.out.trans (hbW.mono HB.out.size))
   have HFW := Lib.hid (HFL.out.below hbW)
   obtain ⟨x0, x1, x2, x3, x4, x5⟩ := cz6 hx5
   clear hW hbW hx5 hbE hsW z0 z1 z2 z3 z4 z5
   simp only [cells6T] at KC
   obtain ⟨k4, s4, n4, ps4, fs4, vs4⟩ := fi
   go_wp2_with fail
   refine KC.out.mono ?_
   rintro e w5 ⟨rs, rfl, hr5, hb5⟩
   have HB5 := Lib.hid (HBW.out.trans (hb5.mono HBW.out.size))
   have hf5 := HFW.out.below hb5
   have hr6 : RepT (fun b => K b ∨ g < b) w5 (.mk k4 s4 n4 ps4 fs4 vs4) rs := hr5.weak fun b h => h.imp id fun h => by have := HFW.out.lt; omega
   obtain ⟨Aq, cq, Ag, cg, Ah, ch, rfl, -⟩ := hr6.inv
   simp only [cells6T] at hr6 ⊢
   have HPUT := Lib.hid (hf5.put (fun b h => by have := HLO.out b h; have := HG.out; omega) (by rw [HTake.out.2]; exact hin) hr6)
   obtain ⟨u0, q0⟩ := hf5.cell (i * 6) (by omega)
   obtain ⟨u1, q1⟩ := hf5.cell (i * 6 + 1) (by omega)
   obtain ⟨u2, q2⟩ := hf5.cell (i * 6 + 2) (by omega)
   obtain ⟨u3, q3⟩ := hf5.cell (i * 6 + 3) (by omega)
   obtain ⟨u4, q4⟩ := hf5.cell (i * 6 + 4) (by omega)
   obtain ⟨u5, q5⟩ := hf5.cell (i * 6 + 5) (by omega)
   have y0 := hf5.free (i * 6)
   have y1 := hf5.free (i * 6 + 1)
   have y2 := hf5.free (i * 6 + 2)
   have y3 := hf5.free (i * 6 + 3)
   have y4 := hf5.free (i * 6 + 4)
   have y5 := hf5.free (i * 6 + 5)
   rw [HTake.out.2] at HPUT
   have HTE := Lib.hid HTake.out.1
   have HGE : Hid (w1.heap.size ≤ g) := Lib.hid (by have := HG.out; have := HS1.out; omega)
   clear hr5 hr6 hf5 hb5 KC x0 x1 x2 x3 x4 x5
   go_wp2_with fail
   refine ⟨⟨i + 1, HIn.out, by first | rfl | rw [wr2], ?f1, ?f2⟩, ?f3⟩
   case f1 => rw [HTE.out]; exact HPUT.out
   case f2 => exact put6_below HB5.out HGE.out _ _ _ _ _ _
   case f3 => first | exact HM.out | (rw [wr2]; exact HM.out)
  ·have t1 : decide ((i : Int) < (l.length : Int)) = false := by simp; omega
   have hfull : FillT K wr g (l.map f).length (l.map f) := by
    have h := HFL.out
    rw [List.take_of_length_le (by omega)] at h
    rw [List.length_map]; exact h
   have hlist := hfull.list (by rw [List.length_map]; omega)
   have ku := HU.out _ wr (l.map f) _ _ hlist.both HN.out fun b h => h.2
   rw [List.length_map] at ku
   have KU := Lib.hid ku
   clear hfull hlist ku hi
   go_wp2_with fail
   refine KU.out.mono ?_
   rintro e w5 ⟨rs, rfl, hr5, hb5⟩
   have HB5 := Lib.hid (HBE.out.trans (hb5.mono HBE.out.size))
   have rb := box_up (HB.out.trans (hb5.mono HB.out.size)) (by have := HS1.out; omega) HX1.out
   have hr6 : RepT (fun b => K b ∨ w.heap.size < b) w5 (unionT (l.map f)) rs := hr5.weak fun b h => by
    rcases h with ⟨h | h, -⟩ | h
    ·exact .inl h
    ·exact .inr (by have := HG.out; omega)
    ·exact .inr (by have := HB.out.size; have := HS1.out; omega)
   rw [HUE.out] at hr6
   obtain ⟨Aq, cq, Ag, cg, Ah, ch, rfl, -⟩ := hr6.inv
   have HR6 := Lib.hid hr6
   simp only [cells6T] at HR6 ⊢
   clear hr5 hb5 hr6 KU
   obtain ⟨q0, q1, q2, q3, q4, q5, z0, z1, z2, z3, z4, z5⟩ := qz6 rb
   have RBX := Lib.hid rb
   clear rb
   go_wp2_with fail
   have rs := six_set RBX.out (.int .i64 k2) (.string s2) (.int .i64 n2) (.slice Aq ps2.length cq) (.slice Ag fs2.length cg) (.slice Ah vs2.length ch)
   obtain ⟨r0, r1, r2, r3, r4, r5⟩ := cz6 rs
   clear q0 q1 q2 q3 q4 q5 z0 z1 z2 z3 z4 z5 RBX rs
   refine bodyPost_ret (v := .agg #[.int .i64 k2, .string s2, .int .i64 n2, .slice Aq ps2.length cq, .slice Ag fs2.length cg, .slice Ah vs2.length ch]) (by simp [results, Tryz.results35, go_sem, r0, r1, r2, r3, r4, r5]) rfl ?_
   clear r0 r1 r2 r3 r4 r5
   exact ⟨[.int .i64 k2, .string s2, .int .i64 n2, .slice Aq ps2.length cq, .slice Ag fs2.length cg, .slice Ah vs2.length ch], rfl, ret_box HR6.out HLO.out (Nat.le_refl _) _ _ _ _ _ _, set_six_below HB5.out (Nat.le_refl _) _ _ _ _ _ _⟩
set_option maxRecDepth 100000 in
set_option maxHeartbeats 32000000 in
theorem each_2 (hU : UnionP) {K : Nat → Prop} {w : World} {l : List Ty} {A : Option Addr} {c : Nat} {t : Ty} {cs : List Value} {gb : Nat} (f : Ty → Ty) (hL : ListT K w l A c) (hr : RepT K w t cs) (hlo : ∀ b, K b → b < w.heap.size) (hgl : gb < w.heap.size) (hg : w.heap[gb]? = some (.cells cs.toArray 26 (0, 0)))
  (KA : ∀ p ∈ l, ∀ wx ds, Below w.heap.size w wx → RepT K wx p ds → Calls Tryz.prog 19 #[.agg ds.toArray, .agg cs.toArray] wx (TyPost K wx (f p))) (hn : (flatU (l.map f)).length ≤ 1099511627776) (hll : l.length ≤ 1099511627776) :
  Calls Tryz.prog 35 #[.slice A l.length c, .func (.func 37) #[] #[.pointer (some ⟨gb, 0, none⟩)]] w (TyPost K w (unionT (l.map f))) := by
 obtain ⟨w1, hw1⟩ : ∃ x, x = w.alloc (.cells #[.int .i64 0, .string ⟨#[]⟩, .int .i64 0, .slice none 0 0, .slice none 0 0, .slice none 0 0] 26) := ⟨_, rfl⟩
 have hb1 : Below w.heap.size w w1 := by rw [hw1]; exact (Below.refl _ _).alloc (Nat.le_refl _) _
 have hs1 : w1.heap.size = w.heap.size + 1 := by rw [hw1]; simp
 have hx1 : w1.heap[w.heap.size]? = some (.cells #[.int .i64 0, .string ⟨#[]⟩, .int .i64 0, .slice none 0 0, .slice none 0 0, .slice none 0 0] 26 (0, 0)) := by rw [hw1]; exact heap_alloc_new w _
 obtain ⟨g, hgg⟩ : ∃ g, g = w.heap.size + 1 := ⟨_, rfl⟩
 obtain ⟨w2, hw2⟩ : ∃ x, x = w1.alloc (.cells (madeCells zeroT6 (l.length * 6)) 26) := ⟨_, rfl⟩
 have hb2 : Below w1.heap.size w1 w2 := by rw [hw2]; exact (Below.refl _ _).alloc (Nat.le_refl _) _
 have hf2 : FillT K w2 g l.length [] := by rw [hw2, hgg, ← hs1]; exact FillT.start K w1 l.length
 have hmk := make_types l.length hll
 have HB1 := Lib.hid hb1
 have HS1 := Lib.hid hs1
 have HX1 := Lib.hid hx1
 have HW1 := Lib.hid hw1
 have HW2 := Lib.hid hw2
 have HG := Lib.hid hgg
 have HB2 := Lib.hid hb2
 have HF2 := Lib.hid hf2
 have HL := Lib.hid hL
 have HLO := Lib.hid hlo
 have HR := Lib.hid hr
 have HGB := Lib.hid (And.intro hgl hg)
 have HKA := Lib.hid KA
 have HN := Lib.hid hn
 have HU := Lib.hid hU
 generalize hu : unionT (l.map f) = u
 have HUE := Lib.hid hu
 obtain ⟨k2, s2, n2, ps2, fs2, vs2⟩ := u
 unfold TyPost
 clear hL hr hlo hgl hg KA hn hU hb1 hs1 hx1 hw1 hgg hw2 hb2 hf2 hu
 go_enter Tryz.func35, Tryz.ntmps35
 go_upto_region 3 with fail
 rw [← HW1.out, ← HG.out, ← HW2.out]
 go_wp2_with fail
 go_loopw [13] (fun v wr => ∃ (i : Nat), i ≤ l.length ∧ v = .int .i64 i ∧ FillT K wr g l.length ((l.take i).map f) ∧ Below w1.heap.size w1 wr) (fun v _ => l.length - (intOf v).toNat)
 case atStart => exact ⟨0, by omega, rfl, by simpa using HF2.out, HB2.out⟩
 case round =>
  obtain ⟨i, hi, rfl, hfl, hb⟩ := hrel
  have HFL := Lib.hid hfl
  have HB := Lib.hid hb
  have HBE := Lib.hid (HB1.out.trans (hb.mono HB1.out.size))
  clear hfl hb
  by_cases hin : i < l.length
  ·have t1 : decide ((i : Int) < (l.length : Int)) = true := by simp; omega
   have wr2 : wrap64 ((i : Int) + 1) = ((i + 1 : Nat) : Int) := wrap_one (by omega)
   have HM := Lib.hid (measI hin)
   have HIn : Hid (i + 1 ≤ l.length) := Lib.hid hin
   have HTake : Hid ((l.take (i + 1)).map f = (l.take i).map f ++ [f l[i]] ∧ ((l.take i).map f).length = i) := Lib.hid ⟨by rw [List.take_succ_eq_append_getElem hin, List.map_append]; rfl, by simp; omega⟩
   obtain ⟨b, o, hA, hKb, hat⟩ := HL.out.at (by omega)
   subst hA
   obtain ⟨ds, hds, hrep⟩ := hat i hin
   have HKI := Lib.hid (HKA.out l[i] (List.getElem_mem hin))
   have HPR : Hid (l[i] = l[i]) := Lib.hid rfl
   generalize hfi : f l[i] = fi at HTake HKI
   generalize l[i] = p at hrep HKI
   obtain ⟨k3, s3, n3, ps3, fs3, vs3⟩ := p
   obtain ⟨A3, c3, B3, d3, C3, e3, rfl, -⟩ := hrep.inv
   have HRP := Lib.hid hrep
   have z0 : wr.cell? ⟨b, o + i * 6, none⟩ = some (.int .i64 k3) := cell_stays HBE.out (hds 0 _ rfl)
   have z1 : wr.cell? ⟨b, o + i * 6 + 1, none⟩ = some (.string s3) := cell_stays HBE.out (hds 1 _ rfl)
   have z2 : wr.cell? ⟨b, o + i * 6 + 2, none⟩ = some (.int .i64 n3) := cell_stays HBE.out (hds 2 _ rfl)
   have z3 : wr.cell? ⟨b, o + i * 6 + 3, none⟩ = some (.slice A3 ps3.length c3) := cell_stays HBE.out (hds 3 _ rfl)
   have z4 : wr.cell? ⟨b, o + i * 6 + 4, none⟩ = some (.slice B3 fs3.length d3) := cell_stays HBE.out (hds 4 _ rfl)
   have z5 : wr.cell? ⟨b, o + i * 6 + 5, none⟩ = some (.slice C3 vs3.length e3) := cell_stays HBE.out (hds 5 _ rfl)
   clear hat hds hrep hfi hi HPR hKb
   go_upto_region 5 with fail
   generalize hW : wr.alloc (.cells #[.int .i64 k3, .string s3, .int .i64 n3, .slice A3 ps3.length c3, .slice B3 fs3.length d3, .slice C3 vs3.length e3] 26) = W
   have hbW : Below wr.heap.size wr W := by rw [← hW]; exact (Below.refl _ _).alloc (Nat.le_refl _) _
   have hx5 : W.heap[wr.heap.size]? = some (.cells #[.int .i64 k3, .string s3, .int .i64 n3, .slice A3 ps3.length c3, .slice B3 fs3.length d3, .slice C3 vs3.length e3] 26 (0, 0)) := by rw [← hW]; exact heap_alloc_new wr _
   have hbE := HBE.out.trans (hbW.mono HBE.out.size)
   have hsW : w.heap.size ≤ W.heap.size := hbE.size
   have KC := Lib.hid (clo_2 (K := K) (w := W) (HR.out.later hbE) (HRP.out.later hbE) (fun b h => Nat.lt_of_lt_of_le (HLO.out b h) hsW) (Nat.lt_of_lt_of_le HGB.out.1 hsW) (box_up hbE HGB.out.1 HGB.out.2) fun wx hx => HKI.out wx _ (hbE.trans (hx.mono hbE.size)) ((HRP.out.later hbE).later hx))
   have HBW := Lib.hid (HB.out.trans (hbW.mono HB.out.size))
   have HFW := Lib.hid (HFL.out.below hbW)
   obtain ⟨x0, x1, x2, x3, x4, x5⟩ := cz6 hx5
   clear hW hbW hx5 hbE hsW z0 z1 z2 z3 z4 z5
   simp only [cells6T] at KC
   obtain ⟨k4, s4, n4, ps4, fs4, vs4⟩ := fi
   go_wp2_with fail
   refine KC.out.mono ?_
   rintro e w5 ⟨rs, rfl, hr5, hb5⟩
   have HB5 := Lib.hid (HBW.out.trans (hb5.mono HBW.out.size))
   have hf5 := HFW.out.below hb5
   have hr6 : RepT (fun b => K b ∨ g < b) w5 (.mk k4 s4 n4 ps4 fs4 vs4) rs := hr5.weak fun b h => h.imp id fun h => by have := HFW.out.lt; omega
   obtain ⟨Aq, cq, Ag, cg, Ah, ch, rfl, -⟩ := hr6.inv
   simp only [cells6T] at hr6 ⊢
   have HPUT := Lib.hid (hf5.put (fun b h => by have := HLO.out b h; have := HG.out; omega) (by rw [HTake.out.2]; exact hin) hr6)
   obtain ⟨u0, q0⟩ := hf5.cell (i * 6) (by omega)
   obtain ⟨u1, q1⟩ := hf5.cell (i * 6 + 1) (by omega)
   obtain ⟨u2, q2⟩ := hf5.cell (i * 6 + 2) (by omega)
   obtain ⟨u3, q3⟩ := hf5.cell (i * 6 + 3) (by omega)
   obtain ⟨u4, q4⟩ := hf5.cell (i * 6 + 4) (by omega)
   obtain ⟨u5, q5⟩ := hf5.cell (i * 6 + 5) (by omega)
   have y0 := hf5.free (i * 6)
   have y1 := hf5.free (i * 6 + 1)
   have y2 := hf5.free (i * 6 + 2)
   have y3 := hf5.free (i * 6 + 3)
   have y4 := hf5.free (i * 6 + 4)
   have y5 := hf5.free (i * 6 + 5)
   rw [HTake.out.2] at HPUT
   have HTE := Lib.hid HTake.out.1
   have HGE : Hid (w1.heap.size ≤ g) := Lib.hid (by have := HG.out; have := HS1.out; omega)
   clear hr5 hr6 hf5 hb5 KC x0 x1 x2 x3 x4 x5
   go_wp2_with fail
   refine ⟨⟨i + 1, HIn.out, by first | rfl | rw [wr2], ?f1, ?f2⟩, ?f3⟩
   case f1 => rw [HTE.out]; exact HPUT.out
   case f2 => exact put6_below HB5.out HGE.out _ _ _ _ _ _
   case f3 => first | exact HM.out | (rw [wr2]; exact HM.out)
  ·have t1 : decide ((i : Int) < (l.length : Int)) = false := by simp; omega
   have hfull : FillT K wr g (l.map f).length (l.map f) := by
    have h := HFL.out
    rw [List.take_of_length_le (by omega)] at h
    rw [List.length_map]; exact h
   have hlist := hfull.list (by rw [List.length_map]; omega)
   have ku := HU.out _ wr (l.map f) _ _ hlist.both HN.out fun b h => h.2
   rw [List.length_map] at ku
   have KU := Lib.hid ku
   clear hfull hlist ku hi
   go_wp2_with fail
   refine KU.out.mono ?_
   rintro e w5 ⟨rs, rfl, hr5, hb5⟩
   have HB5 := Lib.hid (HBE.out.trans (hb5.mono HBE.out.size))
   have rb := box_up (HB.out.trans (hb5.mono HB.out.size)) (by have := HS1.out; omega) HX1.out
   have hr6 : RepT (fun b => K b ∨ w.heap.size < b) w5 (unionT (l.map f)) rs := hr5.weak fun b h => by
    rcases h with ⟨h | h, -⟩ | h
    ·exact .inl h
    ·exact .inr (by have := HG.out; omega)
    ·exact .inr (by have := HB.out.size; have := HS1.out; omega)
   rw [HUE.out] at hr6
   obtain ⟨Aq, cq, Ag, cg, Ah, ch, rfl, -⟩ := hr6.inv
   have HR6 := Lib.hid hr6
   simp only [cells6T] at HR6 ⊢
   clear hr5 hb5 hr6 KU
   obtain ⟨q0, q1, q2, q3, q4, q5, z0, z1, z2, z3, z4, z5⟩ := qz6 rb
   have RBX := Lib.hid rb
   clear rb
   go_wp2_with fail
   have rs := six_set RBX.out (.int .i64 k2) (.string s2) (.int .i64 n2) (.slice Aq ps2.length cq) (.slice Ag fs2.length cg) (.slice Ah vs2.length ch)
   obtain ⟨r0, r1, r2, r3, r4, r5⟩ := cz6 rs
   clear q0 q1 q2 q3 q4 q5 z0 z1 z2 z3 z4 z5 RBX rs
   refine bodyPost_ret (v := .agg #[.int .i64 k2, .string s2, .int .i64 n2, .slice Aq ps2.length cq, .slice Ag fs2.length cg, .slice Ah vs2.length ch]) (by simp [results, Tryz.results35, go_sem, r0, r1, r2, r3, r4, r5]) rfl ?_
   clear r0 r1 r2 r3 r4 r5
   exact ⟨[.int .i64 k2, .string s2, .int .i64 n2, .slice Aq ps2.length cq, .slice Ag fs2.length cg, .slice Ah vs2.length ch], rfl, ret_box HR6.out HLO.out (Nat.le_refl _) _ _ _ _ _ _, set_six_below HB5.out (Nat.le_refl _) _ _ _ _ _ _⟩
end Go.Proofs.YtfchnfnifpopnaaGreatDoor
