import Derived.Test.YtjbccjmpebgdjaaGreatDoorMg16
import Derived.Deep.CutBlock
namespace Go.Proofs.YtjbccjmpebgdjaaGreatDoor
set_option maxRecDepth 100000
set_option maxHeartbeats 64000000
open Go.RowKit
theorem eqf_any {K K' : Nat → Prop} {w : World} {t t' : Ty} {cs cs' : List Value} (h : RepT K w t cs) (h' : RepT K' w t' cs') :
  Calls Tryz.prog 52 #[.agg cs.toArray, .agg cs'.toArray] w fun e w' => e = .returned (.bool (ordT t t' == 0)) ∧ Gw w w' := by
 have hb1 : Gw w (w.alloc (.cells cs.toArray 26)) := (Gw.refl w).alloc _
 have hb2 : Gw w ((w.alloc (.cells cs.toArray 26)).alloc (.cells cs'.toArray 26)) := hb1.alloc _
 have a1 : AtT K ((w.alloc (.cells cs.toArray 26)).alloc (.cells cs'.toArray 26)) t w.heap.size 0 := (AtT.box _ h).later ((Below.refl _ _).alloc (Nat.le_refl _) _)
 have a2 : AtT K' ((w.alloc (.cells cs.toArray 26)).alloc (.cells cs'.toArray 26)) t' (w.heap.size + 1) 0 := by
  have := AtT.box (w := w.alloc (.cells cs.toArray 26)) 26 (h'.later hb1.below)
  rw [World.size_alloc] at this
  exact this
 have KO := Hd ((order_any t K K' t').ok _ _ _ _ _ a1 a2)
 have HB := Hd hb2
 obtain ⟨k, s, n, ps, fs, vs⟩ := t
 obtain ⟨k', s', n', ps', fs', vs'⟩ := t'
 obtain ⟨A, c, A', c', A'', c'', rfl, _⟩ := h.inv
 obtain ⟨B, d, B', d', B'', d'', rfl, _⟩ := h'.inv
 clear a1 a2 hb1 hb2 h h'
 generalize ordT (.mk k s n ps fs vs) (.mk k' s' n' ps' fs' vs') = r at KO ⊢
 simp only [cells6T] at KO HB ⊢
 go_enter Tryz.func52, Tryz.ntmps52
 go_wp2_with fail
 refine KO.out.mono ?_
 rintro e w1 ⟨rfl, hb⟩
 have HB1 := Hd (HB.out.trans hb)
 clear hb
 go_wp2_with fail
 go_ret
 exact ⟨rfl, HB1.out⟩
theorem comp_nil : CompN := by
 intro w
 go_enter Tryz.func51, Tryz.ntmps51
 go_wp2_with fail
 go_ret
 exact ⟨rfl, Below.refl _ _⟩
theorem comp_short {K : Nat → Prop} {w0 w : World} {g c : Nat} {s : List Ty} (h : InT K w0 w g c s) (hb : Below w0.heap.size w0 w) (hs : s.length < 2) :
  Calls Tryz.prog 51 #[.slice (some ⟨g, 0, none⟩) s.length c, .func (.func 52) #[] #[]] w fun e w' => e = .returned (.slice (some ⟨g, 0, none⟩) (dedupT s).length c) ∧ Below w0.heap.size w0 w' ∧ InT K w0 w' g c (dedupT s) := by
 have hd : dedupT s = s := by
  match s, hs with
  | [], _ => rfl
  | [_], _ => rfl
  | _ :: _ :: _, hs => exact absurd hs (by simp)
 rw [hd]
 have H := Hd (And.intro h hb)
 clear h hb hd
 have t2 : decide ((s.length : Int) < 2) = true := by simp; omega
 go_enter Tryz.func51, Tryz.ntmps51
 go_wp2_with fail
 go_ret
 exact ⟨rfl, H.out.2, H.out.1⟩
theorem dedup_cons2 (a b : Ty) (l : List Ty) : dedupT (a :: b :: l) = if ordT a b = 0 then dedupT (b :: l) else a :: dedupT (b :: l) := by rw [dedupT]
theorem dedup_snoc (a b : Ty) : ∀ l : List Ty, dedupT (l ++ [a, b]) = if ordT a b = 0 then dedupT (l ++ [a]) else dedupT (l ++ [a]) ++ [b]
 | [] => by
  simp only [List.nil_append]
  rw [dedup_cons2]
  by_cases h : ordT a b = 0
  ·rw [if_pos h, if_pos h, ordT_zero.1 h]
  ·rw [if_neg h, if_neg h]; rfl
 | [x] => by
  show dedupT (x :: a :: [b]) = if ordT a b = 0 then dedupT [x, a] else dedupT [x, a] ++ [b]
  have ih := dedup_snoc a b []
  simp only [List.nil_append] at ih
  rw [dedup_cons2, ih, dedup_cons2]
  by_cases h1 : ordT a b = 0
  ·simp only [if_pos h1]
  ·simp only [if_neg h1]
   split <;> rfl
 | x :: y :: l => by
  have ih := dedup_snoc a b (y :: l)
  show dedupT (x :: y :: (l ++ [a, b])) = if ordT a b = 0 then dedupT (x :: y :: (l ++ [a])) else dedupT (x :: y :: (l ++ [a])) ++ [b]
  have ih' : dedupT (y :: (l ++ [a, b])) = if ordT a b = 0 then dedupT (y :: (l ++ [a])) else dedupT (y :: (l ++ [a])) ++ [b] := ih
  rw [dedup_cons2, ih', dedup_cons2]
  by_cases h1 : ordT a b = 0
  ·simp only [if_pos h1]
  ·simp only [if_neg h1]
   split <;> rfl
theorem dedup_take {s : List Ty} {n : Nat} (h0 : 0 < n) (h : n < s.length) : dedupT (s.take (n + 1)) = if ordT s[n - 1] s[n] = 0 then dedupT (s.take n) else dedupT (s.take n) ++ [s[n]] := by
 obtain ⟨m, rfl⟩ : ∃ m, n = m + 1 := ⟨n - 1, by omega⟩
 have e1 : s.take (m + 1) = s.take m ++ [s[m]] := List.take_succ_eq_append_getElem (by omega)
 have e2 : s.take (m + 1 + 1) = s.take m ++ [s[m], s[m + 1]] := by rw [List.take_succ_eq_append_getElem h, e1, List.append_assoc]; rfl
 rw [e2, e1, dedup_snoc]
 rfl
theorem sort_nil : SortN := by
 intro w
 have h := AnyF.slices_SortFunc_none (P := Tryz.prog) (ρ := sortTy_ren) { sortTy with } none 0 (.func (.func 50) #[] #[]) w
 refine h.mono ?_
 rintro e w' ⟨rfl, rfl⟩
 exact ⟨rfl, Below.refl _ _⟩
structure MPre (w : World) (k : Int) (s : ByteArray) (n : Int) (ps : List Ty) (fs : FsT) (vs : VsT) (k3 : Int) (s3 : ByteArray) (n3 : Int) (ps3 : List Ty) (fs3 : FsT) (vs3 : VsT) (A : Option Addr) (c : Nat) (A' : Option Addr) (c' : Nat) (A'' : Option Addr) (c'' : Nat) (A3 : Option Addr) (c3 : Nat) (B3 : Option Addr) (d3 : Nat) (C3 : Option Addr) (e3 : Nat) (w1 : World) : Prop where
 HBX : Hid (∀ wx, Below w1.heap.size w1 wx → (wx.cell? ⟨w.heap.size, 0, none⟩ = some (.int .i64 k) ∧ wx.cell? ⟨w.heap.size, 1, none⟩ = some (.string s) ∧ wx.cell? ⟨w.heap.size, 2, none⟩ = some (.int .i64 n) ∧ wx.cell? ⟨w.heap.size, 3, none⟩ = some (.slice A ps.length c) ∧ wx.cell? ⟨w.heap.size, 4, none⟩ = some (.slice A' fs.length c') ∧ wx.cell? ⟨w.heap.size, 5, none⟩ = some (.slice A'' vs.length c'')) ∧ (wx.cell? ⟨w.heap.size + 1, 0, none⟩ = some (.int .i64 k3) ∧ wx.cell? ⟨w.heap.size + 1, 1, none⟩ = some (.string s3) ∧ wx.cell? ⟨w.heap.size + 1, 2, none⟩ = some (.int .i64 n3) ∧ wx.cell? ⟨w.heap.size + 1, 3, none⟩ = some (.slice A3 ps3.length c3) ∧ wx.cell? ⟨w.heap.size + 1, 4, none⟩ = some (.slice B3 fs3.length d3) ∧ wx.cell? ⟨w.heap.size + 1, 5, none⟩ = some (.slice C3 vs3.length e3)))
 HB1 : Hid (Below w.heap.size w w1)
 HW1 : Hid (w1 = ((w.alloc (.cells #[.int .i64 k, .string s, .int .i64 n, .slice A ps.length c, .slice A' fs.length c', .slice A'' vs.length c''] 26)).alloc (.cells #[.int .i64 k3, .string s3, .int .i64 n3, .slice A3 ps3.length c3, .slice B3 fs3.length d3, .slice C3 vs3.length e3] 26)))
 HR : Hid (RepT (fun b => b < w.heap.size) w (.mk k s n ps fs vs) [.int .i64 k, .string s, .int .i64 n, .slice A ps.length c, .slice A' fs.length c', .slice A'' vs.length c''])
 HP : Hid (RepT (fun b => b < w.heap.size) w (.mk k3 s3 n3 ps3 fs3 vs3) [.int .i64 k3, .string s3, .int .i64 n3, .slice A3 ps3.length c3, .slice B3 fs3.length d3, .slice C3 vs3.length e3])
theorem two_pre {K K2 : Nat → Prop} {w : World} {k : Int} {s : ByteArray} {n : Int} {ps : List Ty} {fs : FsT} {vs : VsT} {k3 : Int} {s3 : ByteArray} {n3 : Int} {ps3 : List Ty} {fs3 : FsT} {vs3 : VsT} {cs ds : List Value} {R : Prop} (hr : RepT K w (.mk k s n ps fs vs) cs) (hp : RepT K2 w (.mk k3 s3 n3 ps3 fs3 vs3) ds)
  (main : ∀ (A : Option Addr) (c : Nat) (A' : Option Addr) (c' : Nat) (A'' : Option Addr) (c'' : Nat) (A3 : Option Addr) (c3 : Nat) (B3 : Option Addr) (d3 : Nat) (C3 : Option Addr) (e3 : Nat) (w1 : World), MPre w k s n ps fs vs k3 s3 n3 ps3 fs3 vs3 A c A' c' A'' c'' A3 c3 B3 d3 C3 e3 w1 → cs = [.int .i64 k, .string s, .int .i64 n, .slice A ps.length c, .slice A' fs.length c', .slice A'' vs.length c''] → ds = [.int .i64 k3, .string s3, .int .i64 n3, .slice A3 ps3.length c3, .slice B3 fs3.length d3, .slice C3 vs3.length e3] → R) : R := by
 obtain ⟨A, c, A', c', A'', c'', hc, -⟩ := hr.inv
 obtain ⟨A3, c3, B3, d3, C3, e3, hd, -⟩ := hp.inv
 simp only [cells6T] at hc hd
 rw [hc] at hr
 rw [hd] at hp
 obtain ⟨w1, hw1⟩ : ∃ x, x = ((w.alloc (.cells #[.int .i64 k, .string s, .int .i64 n, .slice A ps.length c, .slice A' fs.length c', .slice A'' vs.length c''] 26)).alloc (.cells #[.int .i64 k3, .string s3, .int .i64 n3, .slice A3 ps3.length c3, .slice B3 fs3.length d3, .slice C3 vs3.length e3] 26)) := ⟨_, rfl⟩
 have hb1 : Below w.heap.size w w1 := by rw [hw1]; exact ((Below.refl _ _).alloc (Nat.le_refl _) _).alloc (by simp) _
 have hx0 : w1.heap[w.heap.size]? = some (.cells #[.int .i64 k, .string s, .int .i64 n, .slice A ps.length c, .slice A' fs.length c', .slice A'' vs.length c''] 26 (0, 0)) := by rw [hw1, Below.heap_alloc _ _ _ (by simp)]; exact heap_alloc_new w _
 have hy0 : w1.heap[w.heap.size + 1]? = some (.cells #[.int .i64 k3, .string s3, .int .i64 n3, .slice A3 ps3.length c3, .slice B3 fs3.length d3, .slice C3 vs3.length e3] 26 (0, 0)) := by
  rw [hw1]
  have h := heap_alloc_new (w.alloc (.cells #[.int .i64 k, .string s, .int .i64 n, .slice A ps.length c, .slice A' fs.length c', .slice A'' vs.length c''] 26)) (.cells #[.int .i64 k3, .string s3, .int .i64 n3, .slice A3 ps3.length c3, .slice B3 fs3.length d3, .slice C3 vs3.length e3] 26)
  rw [World.size_alloc] at h
  exact h
 refine main A c A' c' A'' c'' A3 c3 B3 d3 C3 e3 w1 ⟨Hd fun wx hx => ?_, Hd hb1, Hd hw1, Hd (RepT.low _ _ hr), Hd (RepT.low _ _ hp)⟩ hc hd
 have h1 := box_up hx (Array.getElem?_eq_some_iff.1 hx0).1 hx0
 have h2 := box_up hx (Array.getElem?_eq_some_iff.1 hy0).1 hy0
 exact ⟨⟨Ch h1 0, Ch h1 1, Ch h1 2, Ch h1 3, Ch h1 4, Ch h1 5⟩, Ch h2 0, Ch h2 1, Ch h2 2, Ch h2 3, Ch h2 4, Ch h2 5⟩
theorem at_six {K : Nat → Prop} {w : World} {t : Ty} {b : Nat} {y0 y1 y2 y3 y4 y5 : Value} (hr : RepT K w t [y0, y1, y2, y3, y4, y5]) (h : w.cell? ⟨b, 0, none⟩ = some y0 ∧ w.cell? ⟨b, 1, none⟩ = some y1 ∧ w.cell? ⟨b, 2, none⟩ = some y2 ∧ w.cell? ⟨b, 3, none⟩ = some y3 ∧ w.cell? ⟨b, 4, none⟩ = some y4 ∧ w.cell? ⟨b, 5, none⟩ = some y5) : AtT K w t b 0 := by
 obtain ⟨h0, h1, h2, h3, h4, h5⟩ := h
 refine ⟨_, fun j u hj => ?_, hr⟩
 rw [Nat.zero_add]
 rcases j with _ | _ | _ | _ | _ | _ | j
 all_goals first | (simp only [List.getElem?_cons_zero, List.getElem?_cons_succ, Option.some.injEq] at hj; subst hj; assumption) | (simp at hj)
theorem ornull_any (hU : UnionP) {K : Nat → Prop} {w : World} {l : List Ty} {A : Option Addr} {c : Nat} (hL : ListT K w l A c) (hlo : ∀ b, K b → b < w.heap.size) (hn : (flatU (tyK 4 :: l)).length ≤ 1099511627776) (hl : 1 + l.length ≤ 1099511627776) :
  Calls Tryz.prog 96 #[.slice A l.length c] w (TyPost K w (unionT (tyK 4 :: l))) := by
 obtain ⟨w1, hw1⟩ : ∃ x, x = w.alloc (.cells #[.int .i64 0, .string ⟨#[]⟩, .int .i64 0, .slice none 0 0, .slice none 0 0, .slice none 0 0] 26) := ⟨_, rfl⟩
 have hb1 : Below w.heap.size w w1 := by rw [hw1]; exact (Below.refl _ _).alloc (Nat.le_refl _) _
 have hs1 : w1.heap.size = w.heap.size + 1 := by rw [hw1]; simp
 have hx1 : w1.heap[w.heap.size]? = some (.cells #[.int .i64 0, .string ⟨#[]⟩, .int .i64 0, .slice none 0 0, .slice none 0 0, .slice none 0 0] 26 (0, 0)) := by rw [hw1]; exact heap_alloc_new w _
 have HL := Hd (hL.later hb1)
 have HLO := Hd hlo
 have HN := Hd hn
 have HS := Hd hl
 have HB1 := Hd hb1
 have HS1 := Hd hs1
 have HX1 := Hd hx1
 have HU := Hd hU
 obtain ⟨w2, hw2⟩ : ∃ x, x = w1.alloc (.cells #[.int .i64 4, .string ⟨#[]⟩, .int .i64 0, .slice none 0 0, .slice none 0 0, .slice none 0 0] 26) := ⟨_, rfl⟩
 have HO2 : Hid (OutT K w1 w2 (.slice (some ⟨w.heap.size + 1, 0, none⟩) 1 1) [tyK 4] ∧ Below w1.heap.size w1 w2) := Hd (by
  rw [← hs1, hw2]
  exact ⟨OutT.lit (rep_k K w1 4) (Nat.le_refl _) (heap_alloc_new w1 _), (Below.refl _ _).alloc (Nat.le_refl _) _⟩)
 generalize hu : unionT (tyK 4 :: l) = u
 obtain ⟨k2, s2, n2, ps2, fs2, vs2⟩ := u
 have HUE := Hd hu
 unfold TyPost
 have HW1 := Hd hw1
 have HW2 := Hd hw2
 clear hL hlo hn hl hb1 hs1 hx1 hU hw1 hw2 hu
 go_enter Tryz.func96, Tryz.ntmps96
 go_wp2_with (at_builtin; refine wpList_plain rfl fun Kx hK => ?_; rw [← HW1.out, ← HW2.out]; go_loud (refine wp_append_many (w0 := w1) (ts := [tyK 4]) (l := l) _ _ rfl (by rfl) (by rfl) HO2.out.1 HL.out HO2.out.2 (by simpa using HS.out) ?_))
 intro v3 w3 ho3 hb3 _
 refine hK _ _ ?_
 have KU := Hd (union_own HU.out ho3 (fun b h => by have := HLO.out b h; have := HS1.out; omega) hb3 HN.out (by have := HS.out; simp only [List.length_cons]; omega))
 have HB3 := Hd hb3
 clear hK Kx HW1 HW2 HO2 ho3 hb3
 go_wp2_with fail
 refine KU.out.mono ?_
 rintro e w4 ⟨rs, rfl, hr, hb4⟩
 have HB4 := Hd (HB3.out.trans (hb4.mono HB3.out.size))
 have HBE := Hd (HB1.out.trans (HB4.out.mono HB1.out.size))
 have rb := (HB4.out.block w.heap.size (by have := HS1.out; omega)).trans HX1.out
 have hr' : RepT (fun b => K b ∨ w.heap.size < b) w4 (unionT (tyK 4 :: l)) rs := hr.weak fun b h => h.imp id fun h => by have := HS1.out; omega
 clear hr hb4 KU
 rw [HUE.out] at hr'
 obtain ⟨Aq, cq, Ag, cg, Ah, ch, rfl, -⟩ := hr'.inv
 have HR := Hd hr'
 simp only [cells6T] at HR ⊢
 clear hr'
 obtain ⟨q0, q1, q2, q3, q4, q5, z0, z1, z2, z3, z4, z5⟩ := qz6 rb
 have RBX := Hd rb
 clear rb
 go_wp2_with fail
 have rs := six_set RBX.out (.int .i64 k2) (.string s2) (.int .i64 n2) (.slice Aq ps2.length cq) (.slice Ag fs2.length cg) (.slice Ah vs2.length ch)
 obtain ⟨r0, r1, r2, r3, r4, r5⟩ := cz6 rs
 clear q0 q1 q2 q3 q4 q5 z0 z1 z2 z3 z4 z5 RBX rs
 refine bodyPost_ret (v := .agg #[.int .i64 k2, .string s2, .int .i64 n2, .slice Aq ps2.length cq, .slice Ag fs2.length cg, .slice Ah vs2.length ch]) (by simp [results, Tryz.results96, go_sem, r0, r1, r2, r3, r4, r5]) rfl ?_
 clear r0 r1 r2 r3 r4 r5
 exact ⟨[.int .i64 k2, .string s2, .int .i64 n2, .slice Aq ps2.length cq, .slice Ag fs2.length cg, .slice Ah vs2.length ch], rfl, ret_box HR.out HLO.out (Nat.le_refl _) _ _ _ _ _ _, set_six_below HBE.out (Nat.le_refl _) _ _ _ _ _ _⟩
theorem eight_set {W : World} {b : Nat} {T : TypeId} {x0 x1 x2 x3 x4 x5 x6 x7 : Value} (h : W.heap[b]? = some (.cells #[x0, x1, x2, x3, x4, x5, x6, x7] T (0, 0))) (y0 y1 y2 y3 y4 y5 y6 y7 : Value) :
  ((((((((W.setCell ⟨b, 0, none⟩ (y0)).setCell ⟨b, 1, none⟩ (y1)).setCell ⟨b, 2, none⟩ (y2)).setCell ⟨b, 3, none⟩ (y3)).setCell ⟨b, 4, none⟩ (y4)).setCell ⟨b, 5, none⟩ (y5)).setCell ⟨b, 6, none⟩ (y6)).setCell ⟨b, 7, none⟩ (y7)).heap[b]? = some (.cells #[y0, y1, y2, y3, y4, y5, y6, y7] T (0, 0)) := by
 have h0 := Go.heap_setCell_same W b 0 _ _ y0 h
 have h1 := Go.heap_setCell_same _ b 1 _ _ y1 h0
 have h2 := Go.heap_setCell_same _ b 2 _ _ y2 h1
 have h3 := Go.heap_setCell_same _ b 3 _ _ y3 h2
 have h4 := Go.heap_setCell_same _ b 4 _ _ y4 h3
 have h5 := Go.heap_setCell_same _ b 5 _ _ y5 h4
 have h6 := Go.heap_setCell_same _ b 6 _ _ y6 h5
 exact Go.heap_setCell_same _ b 7 _ _ y7 h6
theorem set_eight_below {B b : Nat} {a W : World} (h : Below B a W) (hb : B ≤ b) (y0 y1 y2 y3 y4 y5 y6 y7 : Value) : Below B a ((((((((W.setCell ⟨b, 0, none⟩ (y0)).setCell ⟨b, 1, none⟩ (y1)).setCell ⟨b, 2, none⟩ (y2)).setCell ⟨b, 3, none⟩ (y3)).setCell ⟨b, 4, none⟩ (y4)).setCell ⟨b, 5, none⟩ (y5)).setCell ⟨b, 6, none⟩ (y6)).setCell ⟨b, 7, none⟩ (y7)) :=
 (((((((h.setCell hb y0).setCell hb y1).setCell hb y2).setCell hb y3).setCell hb y4).setCell hb y5).setCell hb y6).setCell hb y7
def FindPost (K : Nat → Prop) (w : World) (fd : Option (ByteArray × Int × Ty)) : Ending → World → Prop := fun e w' =>
 (match fd with
  | none => e = .returned (.tuple #[.agg #[.string ⟨#[]⟩, .int .i64 0, .int .i64 0, .string ⟨#[]⟩, .int .i64 0, .slice none 0 0, .slice none 0 0, .slice none 0 0], .bool false])
  | some f => ∃ ds, e = .returned (.tuple #[.agg (.string f.1 :: .int .i64 f.2.1 :: ds).toArray, .bool true]) ∧ RepT K w f.2.2 ds) ∧ Below w.heap.size w w'
theorem find_none {l : FsT} {s : ByteArray} (h : ∀ j (hj : j < l.length), l[j].1 ≠ s) : l.find? (fun f => decide (f.1 = s)) = none := by
 rw [List.find?_eq_none]
 intro x hx
 obtain ⟨j, hj, rfl⟩ := List.getElem_of_mem hx
 simpa using h j hj
theorem find_at {l : FsT} {s : ByteArray} {i : Nat} (hi : i < l.length) (he : l[i].1 = s) (h : ∀ j (hj : j < l.length), j < i → l[j].1 ≠ s) : l.find? (fun f => decide (f.1 = s)) = some l[i] := by
 rw [List.find?_eq_some_iff_getElem]
 exact ⟨by simpa using he, i, hi, rfl, fun j hj => by simpa using h j (by omega) hj⟩
theorem bytesEq (a b : ByteArray) : (a.toList == b.toList) = decide (a = b) := by
 rw [Bool.eq_iff_iff, beq_iff_eq, decide_eq_true_eq, ByteArray.toList_eq, ByteArray.toList_eq]
 exact ⟨bytes_ext, fun h => by rw [h]⟩
theorem fieldof_any {K : Nat → Prop} {w : World} {t : Ty} {cs : List Value} (hr : RepT K w t cs) (name : ByteArray) :
  Calls Tryz.prog 76 #[.agg cs.toArray, .string name] w (FindPost K w (t.fs.find? fun f => decide (f.1 = name))) := by
 obtain ⟨k, s, n, ps, fs, vs⟩ := t
 obtain ⟨A, c, A', c', A'', c'', rfl, -, -, hF, -⟩ := hr.inv
 simp only [cells6T] at hr ⊢
 obtain ⟨w1, hw1⟩ : ∃ x, x = (w.alloc (.cells #[.int .i64 k, .string s, .int .i64 n, .slice A ps.length c, .slice A' fs.length c', .slice A'' vs.length c''] 26)).alloc (.cells #[.string ⟨#[]⟩, .int .i64 0, .int .i64 0, .string ⟨#[]⟩, .int .i64 0, .slice none 0 0, .slice none 0 0, .slice none 0 0] 55) := ⟨_, rfl⟩
 obtain ⟨g, hg⟩ : ∃ g, g = w.heap.size + 1 := ⟨_, rfl⟩
 have hb1 : Below w.heap.size w w1 := by rw [hw1]; exact ((Below.refl _ _).alloc (Nat.le_refl _) _).alloc (by simp) _
 have hs1 : w1.heap.size = w.heap.size + 2 := by rw [hw1]; simp
 have hx0 : w1.heap[w.heap.size]? = some (.cells #[.int .i64 k, .string s, .int .i64 n, .slice A ps.length c, .slice A' fs.length c', .slice A'' vs.length c''] 26 (0, 0)) := by rw [hw1, Below.heap_alloc _ _ _ (by simp)]; exact heap_alloc_new w _
 have hx1 : w1.heap[g]? = some (.cells #[.string ⟨#[]⟩, .int .i64 0, .int .i64 0, .string ⟨#[]⟩, .int .i64 0, .slice none 0 0, .slice none 0 0, .slice none 0 0] 55 (0, 0)) := by
  rw [hw1, hg]
  have h := heap_alloc_new (w.alloc (.cells #[.int .i64 k, .string s, .int .i64 n, .slice A ps.length c, .slice A' fs.length c', .slice A'' vs.length c''] 26)) (.cells #[.string ⟨#[]⟩, .int .i64 0, .int .i64 0, .string ⟨#[]⟩, .int .i64 0, .slice none 0 0, .slice none 0 0, .slice none 0 0] 55)
  rw [World.size_alloc] at h
  exact h
 have HB1 := Hd hb1
 have HS1 := Hd hs1
 have HX0 := Hd hx0
 have HX1 := Hd hx1
 have HW1 := Hd hw1
 have HG := Hd hg
 have HF := Hd hF
 have hlf := hF.shortF
 have e0 : Ty.fs (.mk k s n ps fs vs) = fs := rfl
 rw [e0]
 generalize hfd : fs.find? (fun f => decide (f.1 = name)) = fd
 have HFD := Hd hfd
 clear hr hb1 hs1 hx0 hx1 hw1 hg hF e0 hfd
 go_enter Tryz.func76, Tryz.ntmps76
 go_upto_region 1 with fail
 rw [← HW1.out, ← HG.out]
 obtain ⟨x0, x1, x2, x3, x4, x5⟩ := cz6 HX0.out
 clear x0 x1 x2 x3 x5
 go_wp2_with fail
 go_loopw [10] (fun v wr => ∃ (i : Nat), i ≤ fs.length ∧ v = .int .i64 i ∧ (∀ j (hj : j < fs.length), j < i → fs[j].1 ≠ name) ∧ Below w1.heap.size w1 wr) (fun v _ => fs.length - (intOf v).toNat)
 case atStart => exact ⟨0, by omega, rfl, fun j _ hj => absurd hj (by omega), Below.refl _ _⟩
 case round =>
  obtain ⟨i, hi, rfl, hne, hb⟩ := hrel
  have HB := Hd hb
  have HBE := Hd (HB1.out.trans (hb.mono HB1.out.size))
  have HNE := Hd hne
  clear hne
  have x4' := cell_stays hb x4
  clear x4
  by_cases hin : i < fs.length
  ·have t1 : decide ((i : Int) < (fs.length : Int)) = true := by simp; omega
   have wr2 : wrap64 ((i : Int) + 1) = ((i + 1 : Nat) : Int) := wrap_one (by omega)
   have HM := Hd (measI hin)
   obtain ⟨b, o, hA, _, hat⟩ := HF.out.at (by omega)
   subst hA
   obtain ⟨hc0, hc1, hsz, hAt⟩ := hat i hin
   have HFI : Hid (fs[i].1 = name → fd = some fs[i]) := Hd fun e => by rw [← HFD.out]; exact find_at hin e HNE.out
   have HIn : Hid (i + 1 ≤ fs.length) := Hd hin
   have HNX : Hid (fs[i].1 ≠ name → ∀ j (hj : j < fs.length), j < i + 1 → fs[j].1 ≠ name) := Hd fun e j hj hji => by
    rcases Nat.lt_or_ge j i with h1 | h1
    ·exact HNE.out j hj h1
    ·have : j = i := by omega
     subst this; exact e
   obtain ⟨ds, hds, hrep⟩ := hAt
   generalize hfi : fs[i] = f at hc0 hc1 hds hrep HFI HNX
   obtain ⟨nm, fl, t2⟩ := f
   obtain ⟨k2, s2, n2, ps2, fs2, vs2⟩ := t2
   obtain ⟨Aq, cq, Ag, cg, Ah, ch, rfl, -⟩ := hrep.inv
   have HRP := Hd hrep
   have z0 : wr.cell? ⟨b, o + i * 8, none⟩ = some (.string nm) := cell_stays HBE.out hc0
   have z1 : wr.cell? ⟨b, o + i * 8 + 1, none⟩ = some (.int .i64 fl) := cell_stays HBE.out hc1
   have z2 : wr.cell? ⟨b, o + i * 8 + 2, none⟩ = some (.int .i64 k2) := cell_stays HBE.out (hds 0 _ rfl)
   have z3 : wr.cell? ⟨b, o + i * 8 + 3, none⟩ = some (.string s2) := cell_stays HBE.out (hds 1 _ rfl)
   have z4 : wr.cell? ⟨b, o + i * 8 + 4, none⟩ = some (.int .i64 n2) := cell_stays HBE.out (hds 2 _ rfl)
   have z5 : wr.cell? ⟨b, o + i * 8 + 5, none⟩ = some (.slice Aq ps2.length cq) := cell_stays HBE.out (hds 3 _ rfl)
   have z6 : wr.cell? ⟨b, o + i * 8 + 6, none⟩ = some (.slice Ag fs2.length cg) := cell_stays HBE.out (hds 4 _ rfl)
   have z7 : wr.cell? ⟨b, o + i * 8 + 7, none⟩ = some (.slice Ah vs2.length ch) := cell_stays HBE.out (hds 5 _ rfl)
   clear hfi hi hat hc0 hc1 hds hrep hsz
   by_cases heq : nm = name
   ·have t2 : (nm.toList == name.toList) = true := by rw [bytesEq]; exact decide_eq_true heq
    have HF2 := Hd (HFI.out heq)
    have rb := box_up HB.out (by have := HG.out; have := HS1.out; omega) HX1.out
    have RBX := Hd rb
    have q0 := Ch rb 0
    have u0 := Lib.frozen_of_heap rb 0
    have q1 := Ch rb 1
    have u1 := Lib.frozen_of_heap rb 1
    have q2 := Ch rb 2
    have u2 := Lib.frozen_of_heap rb 2
    have q3 := Ch rb 3
    have u3 := Lib.frozen_of_heap rb 3
    have q4 := Ch rb 4
    have u4 := Lib.frozen_of_heap rb 4
    have q5 := Ch rb 5
    have u5 := Lib.frozen_of_heap rb 5
    have q6 := Ch rb 6
    have u6 := Lib.frozen_of_heap rb 6
    have q7 := Ch rb 7
    have u7 := Lib.frozen_of_heap rb 7
    simp only [List.getElem?_toArray, List.getElem?_cons_zero, List.getElem?_cons_succ] at q0 q1 q2 q3 q4 q5 q6 q7
    clear heq rb hb
    go_wp2_with fail
    have rs := eight_set RBX.out (.string nm) (.int .i64 fl) (.int .i64 k2) (.string s2) (.int .i64 n2) (.slice Aq ps2.length cq) (.slice Ag fs2.length cg) (.slice Ah vs2.length ch)
    obtain ⟨r0, r1, r2, r3, r4, r5, r6, r7⟩ := cz8 rs
    clear rs RBX q0 u0 z0 q1 u1 z1 q2 u2 z2 q3 u3 z3 q4 u4 z4 q5 u5 z5 q6 u6 z6 q7 u7 z7
    refine bodyPost_ret (v := .tuple #[.agg #[.string nm, .int .i64 fl, .int .i64 k2, .string s2, .int .i64 n2, .slice Aq ps2.length cq, .slice Ag fs2.length cg, .slice Ah vs2.length ch], .bool true]) (by simp [results, Tryz.results76, go_sem, r0, r1, r2, r3, r4, r5, r6, r7]) rfl ?_
    clear r0 r1 r2 r3 r4 r5 r6 r7
    rw [HF2.out]
    exact ⟨⟨[.int .i64 k2, .string s2, .int .i64 n2, .slice Aq ps2.length cq, .slice Ag fs2.length cg, .slice Ah vs2.length ch], rfl, HRP.out⟩, set_eight_below HBE.out (by have := HG.out; omega) _ _ _ _ _ _ _ _⟩
   ·have t2 : (nm.toList == name.toList) = false := by rw [bytesEq]; exact decide_eq_false heq
    have HN2 := Hd (HNX.out heq)
    clear heq hb
    go_wp2_with fail
    refine ⟨⟨i + 1, HIn.out, by first | rfl | rw [wr2], HN2.out, HB.out⟩, ?_⟩
    first | exact HM.out | (rw [wr2]; exact HM.out)
  ·have t1 : decide ((i : Int) < (fs.length : Int)) = false := by simp; omega
   have HF2 : Hid (fd = none) := Hd (by rw [← HFD.out]; exact find_none fun j hj => HNE.out j hj (by omega))
   have rb := box_up HB.out (by have := HG.out; have := HS1.out; omega) HX1.out
   have RBX := Hd rb
   have q0 := Ch rb 0
   have u0 := Lib.frozen_of_heap rb 0
   have q1 := Ch rb 1
   have u1 := Lib.frozen_of_heap rb 1
   have q2 := Ch rb 2
   have u2 := Lib.frozen_of_heap rb 2
   have q3 := Ch rb 3
   have u3 := Lib.frozen_of_heap rb 3
   have q4 := Ch rb 4
   have u4 := Lib.frozen_of_heap rb 4
   have q5 := Ch rb 5
   have u5 := Lib.frozen_of_heap rb 5
   have q6 := Ch rb 6
   have u6 := Lib.frozen_of_heap rb 6
   have q7 := Ch rb 7
   have u7 := Lib.frozen_of_heap rb 7
   simp only [List.getElem?_toArray, List.getElem?_cons_zero, List.getElem?_cons_succ] at q0 q1 q2 q3 q4 q5 q6 q7
   clear rb hi hb
   go_wp2_with fail
   have rs := eight_set RBX.out (.string ⟨#[]⟩) (.int .i64 0) (.int .i64 0) (.string ⟨#[]⟩) (.int .i64 0) (.slice none 0 0) (.slice none 0 0) (.slice none 0 0)
   obtain ⟨r0, r1, r2, r3, r4, r5, r6, r7⟩ := cz8 rs
   clear rs RBX q0 u0 q1 u1 q2 u2 q3 u3 q4 u4 q5 u5 q6 u6 q7 u7
   refine bodyPost_ret (v := .tuple #[.agg #[.string ⟨#[]⟩, .int .i64 0, .int .i64 0, .string ⟨#[]⟩, .int .i64 0, .slice none 0 0, .slice none 0 0, .slice none 0 0], .bool false]) (by simp [results, Tryz.results76, go_sem, r0, r1, r2, r3, r4, r5, r6, r7]) rfl ?_
   clear r0 r1 r2 r3 r4 r5 r6 r7
   rw [HF2.out]
   exact ⟨rfl, set_eight_below HBE.out (by have := HG.out; omega) _ _ _ _ _ _ _ _⟩
theorem InT.sixAt {K : Nat → Prop} {w0 w : World} {g c : Nat} {s : List Ty} (h : InT K w0 w g c s) {i : Nat} {t : Ty} (hi : s[i]? = some t) : ∃ x0 x1 x2 x3 x4 x5 x6 x7 x8 x9 xa xb, (w.cell? ⟨g, i * 6, none⟩ = some (.int .i64 x0) ∧ w.cell? ⟨g, i * 6 + 1, none⟩ = some (.string x1) ∧ w.cell? ⟨g, i * 6 + 2, none⟩ = some (.int .i64 x2) ∧ w.cell? ⟨g, i * 6 + 3, none⟩ = some (.slice x3 x4 x5) ∧ w.cell? ⟨g, i * 6 + 4, none⟩ = some (.slice x6 x7 x8) ∧ w.cell? ⟨g, i * 6 + 5, none⟩ = some (.slice x9 xa xb)) ∧ RepT K w0 t [.int .i64 x0, .string x1, .int .i64 x2, .slice x3 x4 x5, .slice x6 x7 x8, .slice x9 xa xb] := by
 obtain ⟨cs, h1, h2⟩ := h.reps i t hi
 obtain ⟨k, z, n, ps, fs, vs⟩ := t
 obtain ⟨A, c, A', c', A'', c'', rfl, _⟩ := h1.inv
 exact ⟨_, _, _, _, _, _, _, _, _, _, _, _, ⟨h2 0 _ rfl, h2 1 _ rfl, h2 2 _ rfl, h2 3 _ rfl, h2 4 _ rfl, h2 5 _ rfl⟩, h1⟩
theorem InT.six {K : Nat → Prop} {w0 w : World} {g c : Nat} {s : List Ty} (h : InT K w0 w g c s) {i : Nat} (hi : i < s.length) : ∃ x0 x1 x2 x3 x4 x5 x6 x7 x8 x9 xa xb, (w.cell? ⟨g, i * 6, none⟩ = some (.int .i64 x0) ∧ w.cell? ⟨g, i * 6 + 1, none⟩ = some (.string x1) ∧ w.cell? ⟨g, i * 6 + 2, none⟩ = some (.int .i64 x2) ∧ w.cell? ⟨g, i * 6 + 3, none⟩ = some (.slice x3 x4 x5) ∧ w.cell? ⟨g, i * 6 + 4, none⟩ = some (.slice x6 x7 x8) ∧ w.cell? ⟨g, i * 6 + 5, none⟩ = some (.slice x9 xa xb)) ∧ RepT K w0 s[i] [.int .i64 x0, .string x1, .int .i64 x2, .slice x3 x4 x5, .slice x6 x7 x8, .slice x9 xa xb] := h.sixAt (List.getElem?_eq_getElem hi)
theorem run_clear_types (w : World) (ty : TypeId) (b o n c : Nat) (hn : 0 < n)
  (hc : ∀ j, j < n * 6 → (w.cell? ⟨b, o + j, none⟩).isSome = true ∧ w.frozen? ⟨b, o + j, none⟩ = false) :
  (Builtin.clear_ #[22] ty #[.slice (some ⟨b, o, none⟩) n c]).run Tryz.prog w = .ok (.tuple #[]) (w.setCells b o (Builtin.zeroCells #[.int .i64 0, .string ⟨#[]⟩, .int .i64 0, .slice none 0 0, .slice none 0 0, .slice none 0 0] n).toList) := by
 have hlen : (Builtin.zeroCells #[.int .i64 0, .string ⟨#[]⟩, .int .i64 0, .slice none 0 0, .slice none 0 0, .slice none 0 0] n).toList.length = n * 6 := by simp [Builtin.zeroCells]
 have hst := run_storeCells_cells (P := Tryz.prog) b o (Builtin.zeroCells #[.int .i64 0, .string ⟨#[]⟩, .int .i64 0, .slice none 0 0, .slice none 0 0, .slice none 0 0] n).toList 0 w (by rw [hlen]; simpa using fun j hj => (hc j hj).1) (by rw [hlen]; simpa using fun j hj => (hc j hj).2) (by
  intro v hv
  simp only [Builtin.zeroCells, Array.toList_map, List.mem_map] at hv
  obtain ⟨i, _, rfl⟩ := hv
  have h6 : i % 6 < 6 := Nat.mod_lt _ (by decide)
  generalize hr : i % 6 = r at h6
  match r, h6 with
  | 0, _ => rfl
  | 1, _ => rfl
  | 2, _ => rfl
  | 3, _ => rfl
  | 4, _ => rfl
  | 5, _ => rfl)
 simp only [Nat.add_zero] at hst
 obtain ⟨m, rfl⟩ : ∃ m, n = m + 1 := ⟨n - 1, by omega⟩
 have hz : (Value.agg #[.int .i64 0, .string ⟨#[]⟩, .int .i64 0, .slice none 0 0, .slice none 0 0, .slice none 0 0]).cells = #[.int .i64 0, .string ⟨#[]⟩, .int .i64 0, .slice none 0 0, .slice none 0 0, .slice none 0 0] := by rfl
 simp [Builtin.clear_, run_underlying Tryz.underlying22, Tryz.zeroValue26, hz, hst]
structure CompR (K : Nat → Prop) (w0 wr : World) (g c : Nat) (s : List Ty) (m : Nat) (D : List Ty) (i : Nat) : Prop where
 le : m + 2 + i ≤ s.length
 d : D = dedupT (s.take (m + 2 + i))
 dl : D.length ≤ m + 1 + i
 row : InT K w0 wr g c (D ++ s.drop D.length)
 below : Below w0.heap.size w0 wr
theorem CompR.at {K : Nat → Prop} {w0 wr : World} {g c : Nat} {s : List Ty} {m : Nat} {D : List Ty} {i : Nat} (h : CompR K w0 wr g c s m D i) {j : Nat} (h1 : m + 1 + i ≤ j) (h2 : j < s.length) : (D ++ s.drop D.length)[j]? = some s[j] := by
 have := h.dl
 rw [List.getElem?_append_right (by omega), List.getElem?_drop, show D.length + (j - D.length) = j from by omega]
 exact List.getElem?_eq_getElem h2
theorem CompR.start {K : Nat → Prop} {w0 wr : World} {g c : Nat} {s : List Ty} {m : Nat} (hm : m + 1 < s.length) (hd : dedupT (s.take (m + 1)) = s.take (m + 1)) (he : ordT s[m] s[m + 1] = 0) (hr : InT K w0 wr g c s) (hb : Below w0.heap.size w0 wr) : CompR K w0 wr g c s m (s.take (m + 1)) 0 := by
 have hl : (s.take (m + 1)).length = m + 1 := by simp; omega
 refine ⟨by omega, ?_, by omega, by rw [hl, List.take_append_drop]; exact hr, hb⟩
 have := dedup_take (s := s) (n := m + 1) (by omega) hm
 have he' : ordT s[m + 1 - 1] s[m + 1] = 0 := he
 rw [if_pos he', hd] at this
 exact this.symm
theorem CompR.same {K : Nat → Prop} {w0 wr w' : World} {g c : Nat} {s : List Ty} {m : Nat} {D : List Ty} {i : Nat} (h : CompR K w0 wr g c s m D i) (hi : m + 2 + i < s.length) (he : ordT s[m + 1 + i] s[m + 2 + i] = 0) (hb : Below wr.heap.size wr w') : CompR K w0 w' g c s m D (i + 1) := by
 refine ⟨by omega, ?_, by have := h.dl; omega, h.row.later hb, h.below.trans (hb.mono h.below.size)⟩
 have := dedup_take (s := s) (n := m + 2 + i) (by omega) hi
 rw [if_pos (by simpa only [show m + 2 + i - 1 = m + 1 + i from by omega] using he), ← h.d] at this
 exact this.symm
theorem CompR.put {K : Nat → Prop} {w0 wr wy : World} {g c : Nat} {s : List Ty} {m : Nat} {D : List Ty} {i : Nat} {cs : List Value} (h : CompR K w0 wr g c s m D i) (hi : m + 2 + i < s.length) (hn : ordT s[m + 1 + i] s[m + 2 + i] ≠ 0) (hg : w0.heap.size ≤ g) (hb : Below wr.heap.size wr wy) (ht : RepT K w0 s[m + 2 + i] cs) : CompR K w0 (wy.setCells g (D.length * 6) cs) g c s m (D ++ [s[m + 2 + i]]) (i + 1) := by
 have hdl := h.dl
 refine ⟨by omega, ?_, by simp; omega, (h.row.later hb).put (by omega) ht, sets_below hg cs _ _ (h.below.trans (hb.mono h.below.size))⟩
 have := dedup_take (s := s) (n := m + 2 + i) (by omega) hi
 rw [if_neg (by simpa only [show m + 2 + i - 1 = m + 1 + i from by omega] using hn), ← h.d] at this
 exact this.symm
theorem CompR.fin {K : Nat → Prop} {w0 wr : World} {g c : Nat} {s : List Ty} {m : Nat} {D : List Ty} {i : Nat} (h : CompR K w0 wr g c s m D i) (hi : ¬ m + 2 + i < s.length) (hg : w0.heap.size ≤ g) (L : List Value) : D = dedupT s ∧ InT K w0 (wr.setCells g (D.length * 6) L) g c D ∧ Below w0.heap.size w0 (wr.setCells g (D.length * 6) L) := by
 have hle := h.le
 refine ⟨by rw [h.d, List.take_of_length_le (by omega)], ?_, sets_below hg L _ _ h.below⟩
 have hp := h.row.pre
 obtain ⟨cur, hc1, hc2⟩ := hp.blk
 refine ⟨hp.le, hp.mx, row_set g L _ wr ⟨_, _, hc1, rfl⟩ _ ⟨_, hc1, hc2⟩, fun a t ha => ?_⟩
 obtain ⟨cs, h1, h2⟩ := hp.reps a t ha
 have hal := (List.getElem?_eq_some_iff.1 ha).1
 refine ⟨cs, h1, fun j u hj => ?_⟩
 have hj6 := (List.getElem?_eq_some_iff.1 hj).1
 rw [h1.six] at hj6
 rw [World.cell?_setCells_out g L _ wr ⟨g, a * 6 + j, none⟩ (fun _ _ => by show a * 6 + j < _ ∨ _ ≤ a * 6 + j; omega)]
 exact h2 j u hj
end Go.Proofs.YtjbccjmpebgdjaaGreatDoor
