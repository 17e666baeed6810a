import Derived.Test.YteakkjhcdpbidaaGreatDoorMk22
namespace Go.Proofs.YteakkjhcdpbidaaGreatDoor
set_option maxRecDepth 100000
set_option maxHeartbeats 64000000
open Go.RowKit
theorem clo_1 {K : Nat → Prop} {w : World} {t p u : Ty} {cs ds : List Value} {gb : Nat} (hr : RepT K w t cs) (hp : RepT K w p ds) (hlo : ∀ b, K b → b < w.heap.size) (hgl : gb < w.heap.size) (hg : w.heap[gb]? = some (.cells cs.toArray 26 (0, 0)))
  (KA : ∀ wx, Below w.heap.size w wx → Calls Tryz.prog 20 #[.agg cs.toArray, .agg ds.toArray] wx (TyPost K wx u)) :
  Calls Tryz.prog 33 #[.agg ds.toArray, .pointer (some ⟨gb, 0, none⟩)] w (TyPost K w u) := by
 obtain ⟨k, s, n, ps, fs, vs⟩ := t
 obtain ⟨A, c, A', c', A'', c'', rfl, -⟩ := hr.inv
 obtain ⟨k3, s3, n3, ps3, fs3, vs3⟩ := p
 obtain ⟨A3, c3, B3, d3, C3, e3, rfl, -⟩ := hp.inv
 obtain ⟨k2, s2, n2, ps2, fs2, vs2⟩ := u
 simp only [cells6T] at hr hp hg KA ⊢
 obtain ⟨w1, hw1⟩ : ∃ x, x = (w.alloc (.cells #[.int .i64 k3, .string s3, .int .i64 n3, .slice A3 ps3.length c3, .slice B3 fs3.length d3, .slice C3 vs3.length e3] 26)).alloc (.cells #[.int .i64 0, .string ⟨#[]⟩, .int .i64 0, .slice none 0 0, .slice none 0 0, .slice none 0 0] 26) := ⟨_, rfl⟩
 obtain ⟨g, hgg⟩ : ∃ g, g = w.heap.size + 1 := ⟨_, rfl⟩
 have hb1 : Below w.heap.size w w1 := by rw [hw1]; exact ((Below.refl _ _).alloc (Nat.le_refl _) _).alloc (by simp) _
 have hs1 : w1.heap.size = w.heap.size + 2 := by rw [hw1]; simp
 have hx0 : w1.heap[w.heap.size]? = some (.cells #[.int .i64 k3, .string s3, .int .i64 n3, .slice A3 ps3.length c3, .slice B3 fs3.length d3, .slice C3 vs3.length e3] 26 (0, 0)) := by rw [hw1, Below.heap_alloc _ _ _ (by simp)]; exact heap_alloc_new w _
 have hx1 : w1.heap[g]? = some (.cells #[.int .i64 0, .string ⟨#[]⟩, .int .i64 0, .slice none 0 0, .slice none 0 0, .slice none 0 0] 26 (0, 0)) := by
  rw [hw1, hgg]
  have h := heap_alloc_new (w.alloc (.cells #[.int .i64 k3, .string s3, .int .i64 n3, .slice A3 ps3.length c3, .slice B3 fs3.length d3, .slice C3 vs3.length e3] 26)) (.cells #[.int .i64 0, .string ⟨#[]⟩, .int .i64 0, .slice none 0 0, .slice none 0 0, .slice none 0 0] 26)
  rw [World.size_alloc] at h
  exact h
 have hy := box_up hb1 hgl hg
 have HB1 := Hd hb1
 have HS1 := Hd hs1
 have HX0 := Hd hx0
 have HX1 := Hd hx1
 have HY := Hd hy
 have HW1 := Hd hw1
 have HG := Hd hgg
 have HLO := Hd hlo
 have KA1 := Hd (KA w1 hb1)
 unfold TyPost
 clear hr hp hb1 hs1 hx0 hx1 hy hw1 hgg hlo hg KA hgl
 go_enter Tryz.func33, Tryz.ntmps33
 go_upto_region 1 with fail
 rw [← HW1.out, ← HG.out]
 obtain ⟨x0, x1, x2, x3, x4, x5⟩ := cz6 HX0.out
 obtain ⟨y0, y1, y2, y3, y4, y5⟩ := cz6 HY.out
 go_wp2_with fail
 refine KA1.out.mono ?_
 rintro e w2 ⟨rs, rfl, hr2, hb2⟩
 have HBE := Hd (HB1.out.trans (hb2.mono HB1.out.size))
 have rb := box_up hb2 (by have := HG.out; have := HS1.out; omega) HX1.out
 have hr3 : RepT (fun b => K b ∨ g < b) w2 (.mk k2 s2 n2 ps2 fs2 vs2) rs := hr2.weak fun b h => h.imp id fun h => by have := HG.out; have := HS1.out; omega
 obtain ⟨Aq, cq, Ag, cg, Ah, ch, rfl, -⟩ := hr3.inv
 have HR3 := Hd hr3
 simp only [cells6T] at HR3 ⊢
 clear hr2 hb2 hr3 KA1 x0 x1 x2 x3 x4 x5 y0 y1 y2 y3 y4 y5
 obtain ⟨q0, q1, q2, q3, q4, q5, z0, z1, z2, z3, z4, z5⟩ := qz6 rb
 have RBX := Hd rb
 clear rb
 go_wp2_with fail
 have rs := six_set RBX.out (.int .i64 k2) (.string s2) (.int .i64 n2) (.slice Aq ps2.length cq) (.slice Ag fs2.length cg) (.slice Ah vs2.length ch)
 obtain ⟨r0, r1, r2, r3, r4, r5⟩ := cz6 rs
 clear q0 q1 q2 q3 q4 q5 z0 z1 z2 z3 z4 z5 RBX rs
 refine bodyPost_ret (v := .agg #[.int .i64 k2, .string s2, .int .i64 n2, .slice Aq ps2.length cq, .slice Ag fs2.length cg, .slice Ah vs2.length ch]) (by simp [results, Tryz.results33, go_sem, r0, r1, r2, r3, r4, r5]) rfl ?_
 clear r0 r1 r2 r3 r4 r5
 exact ⟨[.int .i64 k2, .string s2, .int .i64 n2, .slice Aq ps2.length cq, .slice Ag fs2.length cg, .slice Ah vs2.length ch], rfl, ret_box HR3.out (fun b h => by have := HLO.out b h; have := HG.out; omega) (by have := HG.out; omega) _ _ _ _ _ _, set_six_below HBE.out (by have := HG.out; omega) _ _ _ _ _ _⟩
theorem clo_2 {K : Nat → Prop} {w : World} {t p u : Ty} {cs ds : List Value} {gb : Nat} (hr : RepT K w t cs) (hp : RepT K w p ds) (hlo : ∀ b, K b → b < w.heap.size) (hgl : gb < w.heap.size) (hg : w.heap[gb]? = some (.cells cs.toArray 26 (0, 0)))
  (KA : ∀ wx, Below w.heap.size w wx → Calls Tryz.prog 20 #[.agg ds.toArray, .agg cs.toArray] wx (TyPost K wx u)) :
  Calls Tryz.prog 34 #[.agg ds.toArray, .pointer (some ⟨gb, 0, none⟩)] w (TyPost K w u) := by
 obtain ⟨k, s, n, ps, fs, vs⟩ := t
 obtain ⟨A, c, A', c', A'', c'', rfl, -⟩ := hr.inv
 obtain ⟨k3, s3, n3, ps3, fs3, vs3⟩ := p
 obtain ⟨A3, c3, B3, d3, C3, e3, rfl, -⟩ := hp.inv
 obtain ⟨k2, s2, n2, ps2, fs2, vs2⟩ := u
 simp only [cells6T] at hr hp hg KA ⊢
 obtain ⟨w1, hw1⟩ : ∃ x, x = (w.alloc (.cells #[.int .i64 k3, .string s3, .int .i64 n3, .slice A3 ps3.length c3, .slice B3 fs3.length d3, .slice C3 vs3.length e3] 26)).alloc (.cells #[.int .i64 0, .string ⟨#[]⟩, .int .i64 0, .slice none 0 0, .slice none 0 0, .slice none 0 0] 26) := ⟨_, rfl⟩
 obtain ⟨g, hgg⟩ : ∃ g, g = w.heap.size + 1 := ⟨_, rfl⟩
 have hb1 : Below w.heap.size w w1 := by rw [hw1]; exact ((Below.refl _ _).alloc (Nat.le_refl _) _).alloc (by simp) _
 have hs1 : w1.heap.size = w.heap.size + 2 := by rw [hw1]; simp
 have hx0 : w1.heap[w.heap.size]? = some (.cells #[.int .i64 k3, .string s3, .int .i64 n3, .slice A3 ps3.length c3, .slice B3 fs3.length d3, .slice C3 vs3.length e3] 26 (0, 0)) := by rw [hw1, Below.heap_alloc _ _ _ (by simp)]; exact heap_alloc_new w _
 have hx1 : w1.heap[g]? = some (.cells #[.int .i64 0, .string ⟨#[]⟩, .int .i64 0, .slice none 0 0, .slice none 0 0, .slice none 0 0] 26 (0, 0)) := by
  rw [hw1, hgg]
  have h := heap_alloc_new (w.alloc (.cells #[.int .i64 k3, .string s3, .int .i64 n3, .slice A3 ps3.length c3, .slice B3 fs3.length d3, .slice C3 vs3.length e3] 26)) (.cells #[.int .i64 0, .string ⟨#[]⟩, .int .i64 0, .slice none 0 0, .slice none 0 0, .slice none 0 0] 26)
  rw [World.size_alloc] at h
  exact h
 have hy := box_up hb1 hgl hg
 have HB1 := Hd hb1
 have HS1 := Hd hs1
 have HX0 := Hd hx0
 have HX1 := Hd hx1
 have HY := Hd hy
 have HW1 := Hd hw1
 have HG := Hd hgg
 have HLO := Hd hlo
 have KA1 := Hd (KA w1 hb1)
 unfold TyPost
 clear hr hp hb1 hs1 hx0 hx1 hy hw1 hgg hlo hg KA hgl
 go_enter Tryz.func34, Tryz.ntmps34
 go_upto_region 1 with fail
 rw [← HW1.out, ← HG.out]
 obtain ⟨x0, x1, x2, x3, x4, x5⟩ := cz6 HX0.out
 obtain ⟨y0, y1, y2, y3, y4, y5⟩ := cz6 HY.out
 go_wp2_with fail
 refine KA1.out.mono ?_
 rintro e w2 ⟨rs, rfl, hr2, hb2⟩
 have HBE := Hd (HB1.out.trans (hb2.mono HB1.out.size))
 have rb := box_up hb2 (by have := HG.out; have := HS1.out; omega) HX1.out
 have hr3 : RepT (fun b => K b ∨ g < b) w2 (.mk k2 s2 n2 ps2 fs2 vs2) rs := hr2.weak fun b h => h.imp id fun h => by have := HG.out; have := HS1.out; omega
 obtain ⟨Aq, cq, Ag, cg, Ah, ch, rfl, -⟩ := hr3.inv
 have HR3 := Hd hr3
 simp only [cells6T] at HR3 ⊢
 clear hr2 hb2 hr3 KA1 x0 x1 x2 x3 x4 x5 y0 y1 y2 y3 y4 y5
 obtain ⟨q0, q1, q2, q3, q4, q5, z0, z1, z2, z3, z4, z5⟩ := qz6 rb
 have RBX := Hd rb
 clear rb
 go_wp2_with fail
 have rs := six_set RBX.out (.int .i64 k2) (.string s2) (.int .i64 n2) (.slice Aq ps2.length cq) (.slice Ag fs2.length cg) (.slice Ah vs2.length ch)
 obtain ⟨r0, r1, r2, r3, r4, r5⟩ := cz6 rs
 clear q0 q1 q2 q3 q4 q5 z0 z1 z2 z3 z4 z5 RBX rs
 refine bodyPost_ret (v := .agg #[.int .i64 k2, .string s2, .int .i64 n2, .slice Aq ps2.length cq, .slice Ag fs2.length cg, .slice Ah vs2.length ch]) (by simp [results, Tryz.results34, go_sem, r0, r1, r2, r3, r4, r5]) rfl ?_
 clear r0 r1 r2 r3 r4 r5
 exact ⟨[.int .i64 k2, .string s2, .int .i64 n2, .slice Aq ps2.length cq, .slice Ag fs2.length cg, .slice Ah vs2.length ch], rfl, ret_box HR3.out (fun b h => by have := HLO.out b h; have := HG.out; omega) (by have := HG.out; omega) _ _ _ _ _ _, set_six_below HBE.out (by have := HG.out; omega) _ _ _ _ _ _⟩
structure APre (K : Nat → Prop) (w : World) (k : Int) (s : ByteArray) (n : Int) (ps : List Ty) (fs : FsT) (vs : VsT) (k3 : Int) (s3 : ByteArray) (n3 : Int) (ps3 : List Ty) (fs3 : FsT) (vs3 : VsT) (A : Option Addr) (c : Nat) (A' : Option Addr) (c' : Nat) (A'' : Option Addr) (c'' : Nat) (A3 : Option Addr) (c3 : Nat) (B3 : Option Addr) (d3 : Nat) (C3 : Option Addr) (e3 : Nat) (w1 : World) (g : Nat) : Prop where
 HB1 : Hid (Below w.heap.size w w1)
 HS1 : Hid (w1.heap.size = w.heap.size + 3)
 HX0 : Hid (w1.heap[w.heap.size]? = some (.cells #[.int .i64 k, .string s, .int .i64 n, .slice A ps.length c, .slice A' fs.length c', .slice A'' vs.length c''] 26 (0, 0)))
 HY0 : Hid (w1.heap[w.heap.size + 1]? = some (.cells #[.int .i64 k3, .string s3, .int .i64 n3, .slice A3 ps3.length c3, .slice B3 fs3.length d3, .slice C3 vs3.length e3] 26 (0, 0)))
 HX1 : Hid (w1.heap[g]? = some (.cells #[.int .i64 0, .string ⟨#[]⟩, .int .i64 0, .slice none 0 0, .slice none 0 0, .slice none 0 0] 26 (0, 0)))
 HW1 : Hid (w1 = ((w.alloc (.cells #[.int .i64 k, .string s, .int .i64 n, .slice A ps.length c, .slice A' fs.length c', .slice A'' vs.length c''] 26)).alloc (.cells #[.int .i64 k3, .string s3, .int .i64 n3, .slice A3 ps3.length c3, .slice B3 fs3.length d3, .slice C3 vs3.length e3] 26)).alloc (.cells #[.int .i64 0, .string ⟨#[]⟩, .int .i64 0, .slice none 0 0, .slice none 0 0, .slice none 0 0] 26))
 HG : Hid (g = w.heap.size + 2)
 HR : Hid (RepT K w (.mk k s n ps fs vs) [.int .i64 k, .string s, .int .i64 n, .slice A ps.length c, .slice A' fs.length c', .slice A'' vs.length c''])
 HP : Hid (RepT K w (.mk k3 s3 n3 ps3 fs3 vs3) [.int .i64 k3, .string s3, .int .i64 n3, .slice A3 ps3.length c3, .slice B3 fs3.length d3, .slice C3 vs3.length e3])
 HL : Hid (ListT K w ps A c)
 HL3 : Hid (ListT K w ps3 A3 c3)
 HLO1 : Hid (∀ b, K b → b < w1.heap.size)
 hlp : ps.length ≤ 1000000000000000
 hlp3 : ps3.length ≤ 1000000000000000
theorem at_pre {K : Nat → Prop} {w : World} {k : Int} {s : ByteArray} {n : Int} {ps : List Ty} {fs : FsT} {vs : VsT} {k3 : Int} {s3 : ByteArray} {n3 : Int} {ps3 : List Ty} {fs3 : FsT} {vs3 : VsT} {cs ds : List Value} {R : Ending → World → Prop} (hr : RepT K w (.mk k s n ps fs vs) cs) (hp : RepT K w (.mk k3 s3 n3 ps3 fs3 vs3) ds) (hlo : ∀ b, K b → b < w.heap.size)
  (main : ∀ (A : Option Addr) (c : Nat) (A' : Option Addr) (c' : Nat) (A'' : Option Addr) (c'' : Nat) (A3 : Option Addr) (c3 : Nat) (B3 : Option Addr) (d3 : Nat) (C3 : Option Addr) (e3 : Nat) (w1 : World) (g : Nat), cs = [.int .i64 k, .string s, .int .i64 n, .slice A ps.length c, .slice A' fs.length c', .slice A'' vs.length c''] → ds = [.int .i64 k3, .string s3, .int .i64 n3, .slice A3 ps3.length c3, .slice B3 fs3.length d3, .slice C3 vs3.length e3] → APre K w k s n ps fs vs k3 s3 n3 ps3 fs3 vs3 A c A' c' A'' c'' A3 c3 B3 d3 C3 e3 w1 g → Calls Tryz.prog 20 #[.agg #[.int .i64 k, .string s, .int .i64 n, .slice A ps.length c, .slice A' fs.length c', .slice A'' vs.length c''], .agg #[.int .i64 k3, .string s3, .int .i64 n3, .slice A3 ps3.length c3, .slice B3 fs3.length d3, .slice C3 vs3.length e3]] w R) :
  Calls Tryz.prog 20 #[.agg cs.toArray, .agg ds.toArray] w R := by
 obtain ⟨A, c, A', c', A'', c'', rfl, -, hL, -, -⟩ := hr.inv
 obtain ⟨A3, c3, B3, d3, C3, e3, rfl, -, hL3, -, -⟩ := hp.inv
 simp only [cells6T] at hr hp ⊢
 obtain ⟨w1, hw1⟩ : ∃ x, x = ((w.alloc (.cells #[.int .i64 k, .string s, .int .i64 n, .slice A ps.length c, .slice A' fs.length c', .slice A'' vs.length c''] 26)).alloc (.cells #[.int .i64 k3, .string s3, .int .i64 n3, .slice A3 ps3.length c3, .slice B3 fs3.length d3, .slice C3 vs3.length e3] 26)).alloc (.cells #[.int .i64 0, .string ⟨#[]⟩, .int .i64 0, .slice none 0 0, .slice none 0 0, .slice none 0 0] 26) := ⟨_, rfl⟩
 obtain ⟨g, hgg⟩ : ∃ g, g = w.heap.size + 2 := ⟨_, rfl⟩
 have hb1 : Below w.heap.size w w1 := by rw [hw1]; exact (((Below.refl _ _).alloc (Nat.le_refl _) _).alloc (by simp) _).alloc (by simp; omega) _
 have hs1 : w1.heap.size = w.heap.size + 3 := by rw [hw1]; simp
 have hx0 : w1.heap[w.heap.size]? = some (.cells #[.int .i64 k, .string s, .int .i64 n, .slice A ps.length c, .slice A' fs.length c', .slice A'' vs.length c''] 26 (0, 0)) := by rw [hw1, Below.heap_alloc _ _ _ (by simp; omega), Below.heap_alloc _ _ _ (by simp)]; exact heap_alloc_new w _
 have hy0 : w1.heap[w.heap.size + 1]? = some (.cells #[.int .i64 k3, .string s3, .int .i64 n3, .slice A3 ps3.length c3, .slice B3 fs3.length d3, .slice C3 vs3.length e3] 26 (0, 0)) := by
  rw [hw1, Below.heap_alloc _ _ _ (by simp)]
  have h := heap_alloc_new (w.alloc (.cells #[.int .i64 k, .string s, .int .i64 n, .slice A ps.length c, .slice A' fs.length c', .slice A'' vs.length c''] 26)) (.cells #[.int .i64 k3, .string s3, .int .i64 n3, .slice A3 ps3.length c3, .slice B3 fs3.length d3, .slice C3 vs3.length e3] 26)
  rw [World.size_alloc] at h
  exact h
 have hx1 : w1.heap[g]? = some (.cells #[.int .i64 0, .string ⟨#[]⟩, .int .i64 0, .slice none 0 0, .slice none 0 0, .slice none 0 0] 26 (0, 0)) := by
  rw [hw1, hgg]
  have h := heap_alloc_new ((w.alloc (.cells #[.int .i64 k, .string s, .int .i64 n, .slice A ps.length c, .slice A' fs.length c', .slice A'' vs.length c''] 26)).alloc (.cells #[.int .i64 k3, .string s3, .int .i64 n3, .slice A3 ps3.length c3, .slice B3 fs3.length d3, .slice C3 vs3.length e3] 26)) (.cells #[.int .i64 0, .string ⟨#[]⟩, .int .i64 0, .slice none 0 0, .slice none 0 0, .slice none 0 0] 26)
  rw [World.size_alloc, World.size_alloc] at h
  exact h
 exact main A c A' c' A'' c'' A3 c3 B3 d3 C3 e3 w1 g rfl rfl ⟨Hd hb1, Hd hs1, Hd hx0, Hd hy0, Hd hx1, Hd hw1, Hd hgg, Hd hr, Hd hp, Hd hL, Hd hL3, Hd (fun b h => by have := hlo b h; omega), hL.short, hL3.short⟩
def namesI : Ty → List ByteArray
 | .mk k t _ ps fs _ => if k = 22 then [t] else (ps.attach.mapIdx fun i ⟨p, _⟩ => if (k == 21 && i == 1) then [] else namesI p).flatten ++ (fs.attach.map fun ⟨f, _⟩ => namesI f.2.2).flatten
termination_by t => SizeOf.sizeOf t
decreasing_by
 ·exact ty_lt_p ‹_›
 ·exact ty_lt_f ‹_›
def namesP (k : Int) : Nat → List Ty → List ByteArray
 | _, [] => []
 | i, p :: l => (if (k == 21 && i == 1) then [] else namesI p) ++ namesP k (i + 1) l
def namesF (l : FsT) : List ByteArray := (l.map fun f => namesI f.2.2).flatten
theorem flat_mapIdx {α : Type} (k : Int) (g : α → Ty) : ∀ (l : List α) (j : Nat), (l.mapIdx fun i p => if (k == 21 && (i + j) == 1) then [] else namesI (g p)).flatten = namesP k j (l.map g)
 | [], _ => rfl
 | a :: l, j => by
  rw [List.mapIdx_cons, List.flatten_cons, List.map_cons, namesP, ← flat_mapIdx k g l (j + 1)]
  simp only [Nat.zero_add, Nat.add_assoc, Nat.add_comm 1 j]
theorem namesI_mk (k t n ps fs vs) : namesI (.mk k t n ps fs vs) = if k = 22 then [t] else namesP k 0 ps ++ namesF fs := by
 rw [namesI]
 have h := flat_mapIdx k (fun p : {x // x ∈ ps} => p.1) ps.attach 0
 simp only [Nat.add_zero] at h
 rw [h]
 unfold namesF
 simp only [List.map_attach_eq_pmap, List.pmap_eq_map, List.map_id']
theorem namesP_drop {k : Int} {ps : List Ty} {i : Nat} (h : i < ps.length) : namesP k i (ps.drop i) = (if (k == 21 && i == 1) then [] else namesI ps[i]) ++ namesP k (i + 1) (ps.drop (i + 1)) := by
 rw [List.drop_eq_getElem_cons h, namesP]
theorem namesF_drop {fs : FsT} {i : Nat} (h : i < fs.length) : namesF (fs.drop i) = namesI fs[i].2.2 ++ namesF (fs.drop (i + 1)) := by
 rw [List.drop_eq_getElem_cons h, namesF, List.map_cons, List.flatten_cons]; rfl
theorem infPs_names (k : Int) : ∀ (ps : List Ty) (i : Nat), (∀ p ∈ ps, (infT p = true ↔ namesI p ≠ [])) → (infPs k i ps = true ↔ namesP k i ps ≠ [])
 | [], _, _ => by simp [infPs, namesP]
 | p :: l, i, h => by
  rw [infPs, namesP, Bool.or_eq_true, infPs_names k l (i + 1) fun q hq => h q (List.mem_cons_of_mem _ hq), Bool.and_eq_true, h p List.mem_cons_self]
  cases hq : (k == 21 && i == 1) <;> simp only [Bool.not_false, Bool.not_true, Bool.false_eq_true, if_false, if_true, ne_eq, List.append_eq_nil_iff, List.nil_append, true_and, false_and, false_or, not_and] <;> (try by_cases e : namesI p = [] <;> simp [e])
theorem infT_names (t : Ty) : infT t = true ↔ namesI t ≠ [] := by
 refine Ty.ind (C := fun t => infT t = true ↔ namesI t ≠ []) (fun k t n ps fs vs hp hf _ => ?_) t
 rw [infT_mk, namesI_mk]
 by_cases hk : k = 22
 ·rw [if_pos hk, hk]; simp
 ·rw [if_neg hk]
  have e : (k == 22) = false := by simpa using hk
  rw [e, Bool.false_or, Bool.or_eq_true, infPs_names k ps 0 hp]
  have hF : infFs fs = true ↔ namesF fs ≠ [] := by
   unfold infFs namesF
   rw [List.any_eq_true, ne_eq, List.flatten_eq_nil_iff]
   constructor
   ·rintro ⟨f, hm, h⟩ hn
    exact (hf f hm).1 h (hn _ (List.mem_map_of_mem hm))
   ·intro h
    apply Classical.byContradiction
    intro hn
    refine h fun l hl => ?_
    obtain ⟨f, hm, rfl⟩ := List.mem_map.1 hl
    apply Classical.byContradiction
    intro hne
    exact hn ⟨f, hm, (hf f hm).2 hne⟩
  rw [hF, ne_eq, ne_eq, ne_eq, List.append_eq_nil_iff]
  by_cases e1 : namesP k 0 ps = [] <;> simp [e1]
structure InfSt (w0 : World) (w : World) (v : Value) (l N : List ByteArray) (v' : Value) (w' : World) (l' : List ByteArray) : Prop where
 own : OutS w0.heap.size w' v' l'
 asc : AscS l'
 mem : ∀ x, x ∈ l' ↔ x ∈ l ∨ x ∈ N
 len : l'.length ≤ l.length + N.length
 low : Below w0.heap.size w0 w'
 big : w.heap.size ≤ w'.heap.size
 fr : Fr v w v' w'
theorem InfSt.step {w0 w w1 w2 : World} {v v1 v2 : Value} {l N M l1 l2 : List ByteArray} (h : InfSt w0 w v l N v1 w1 l1) (h' : InfSt w0 w1 v1 l1 M v2 w2 l2) : InfSt w0 w v l (N ++ M) v2 w2 l2 := by
 refine ⟨h'.own, h'.asc, fun x => ?_, ?_, h'.low, Nat.le_trans h.big h'.big, h.fr.trans h'.fr h.big⟩
 ·rw [h'.mem, h.mem, List.mem_append, or_assoc]
 ·have := h.len; have := h'.len; rw [List.length_append]; omega
theorem InfSt.from {w0 wb w w' : World} {v v' : Value} {l N l' : List ByteArray} (h : InfSt w0 w v l N v' w' l') (hb : Below wb.heap.size wb w) : InfSt w0 wb v l N v' w' l' :=
 ⟨h.own, h.asc, h.mem, h.len, h.low, Nat.le_trans hb.size h.big, h.fr.world hb⟩
def InfR (t : Ty) : Prop := ∀ (K : Nat → Prop) (w0 w : World) (cs : List Value) (v : Value) (l : List ByteArray), RepT K w0 t cs → Below w0.heap.size w0 w → OutS w0.heap.size w v l → AscS l → l.length + (namesI t).length ≤ 1099511627776 →
 Calls Tryz.prog 87 #[.agg cs.toArray, v] w fun e w' => ∃ v' l', e = .returned v' ∧ InfSt w0 w v l (namesI t) v' w' l'
theorem infers_step (k : Int) (s : ByteArray) (n : Int) (ps : List Ty) (fs : FsT) (vs : VsT) (hp : ∀ p ∈ ps, InfR p) (hf : ∀ f ∈ fs, InfR f.2.2) : InfR (.mk k s n ps fs vs) := by
 intro K w0 w cs v l ht hb hO hA hbd
 obtain ⟨Ap, cp, Af, cf, Av, cv, rfl, -, hLp, hLf, -⟩ := ht.inv
 have hlp := hLp.short
 have hlf := hLf.shortF
 obtain ⟨As, c, rfl, -⟩ := hO.list (by omega)
 have HB1 := Hd (hb.alloc hb.size (.cells (cells6T k s n Ap ps.length cp Af fs.length cf Av vs.length cv).toArray 26))
 have HBW : Hid (Below w.heap.size w (w.alloc (.cells (cells6T k s n Ap ps.length cp Af fs.length cf Av vs.length cv).toArray 26))) := Hd ((Below.refl _ _).alloc (Nat.le_refl _) _)
 have HO1 := Hd (hO.later HBW.out)
 have HLT := Hd fun b (h : (Value.slice As l.length c).ownBlock = some b) => (hO.lt b h)
 have HC := Hd (cellsT_new w (cells6T k s n Ap ps.length cp Af fs.length cf Av vs.length cv) 26)
 have x0 : (w.alloc (.cells (cells6T k s n Ap ps.length cp Af fs.length cf Av vs.length cv).toArray 26)).cell? ⟨w.heap.size, 0, none⟩ = some (.int .i64 k) := HC.out 0 _ rfl
 have x1 : (w.alloc (.cells (cells6T k s n Ap ps.length cp Af fs.length cf Av vs.length cv).toArray 26)).cell? ⟨w.heap.size, 1, none⟩ = some (.string s) := HC.out 1 _ rfl
 have x3 : (w.alloc (.cells (cells6T k s n Ap ps.length cp Af fs.length cf Av vs.length cv).toArray 26)).cell? ⟨w.heap.size, 3, none⟩ = some (.slice Ap ps.length cp) := HC.out 3 _ rfl
 have x4 : (w.alloc (.cells (cells6T k s n Ap ps.length cp Af fs.length cf Av vs.length cv).toArray 26)).cell? ⟨w.heap.size, 4, none⟩ = some (.slice Af fs.length cf) := HC.out 4 _ rfl
 have HA := Hd hA
 have HN := Hd (namesI_mk k s n ps fs vs)
 have HBD := Hd hbd
 by_cases hk : k = 22
 ·subst hk
  have HN22 : Hid (namesI (.mk 22 s n ps fs vs) = [s]) := Hd (by rw [HN.out, if_pos rfl])
  have KA := Hd (add_ref (s := s) HO1.out hA HB1.out.size (by rw [HN.out, if_pos rfl] at hbd; simpa using hbd))
  clear ht hb hO hA hbd hLp hLf hp hf
  go_enter Tryz.func87, Tryz.ntmps87
  go_wp2_with fail
  refine KA.out.mono ?_
  rintro e w2 ⟨v2, l2, rfl, o2, a2, m2, n2, b2, f2⟩
  go_wp2_with fail
  go_ret
  refine ⟨_, _, rfl, InfSt.from ⟨o2, a2, fun x => ?_, ?_, HB1.out.trans b2, b2.size, f2⟩ HBW.out⟩
  ·rw [m2, HN22.out, List.mem_singleton, or_comm]
  ·rw [HN22.out]; exact n2
 ·have te : (k == 22) = false := by simpa using hk
  have HNN : Hid (namesI (.mk k s n ps fs vs) = namesP k 0 ps ++ namesF fs) := Hd (by rw [HN.out, if_neg hk])
  have HP := Hd hp
  have HF := Hd hf
  have HLP := Hd hLp
  have HLF := Hd hLf
  have HLV : Hid ((Value.slice As l.length c).ownBlock ≠ some w.heap.size) := Hd fun e => by have := (HLT.out _ e).2; omega
  have HX : Hid (∀ v2 w2, Fr (.slice As l.length c) (w.alloc (.cells (cells6T k s n Ap ps.length cp Af fs.length cf Av vs.length cv).toArray 26)) v2 w2 → w2.cell? ⟨w.heap.size, 0, none⟩ = some (.int .i64 k) ∧ w2.cell? ⟨w.heap.size, 3, none⟩ = some (.slice Ap ps.length cp) ∧ w2.cell? ⟨w.heap.size, 4, none⟩ = some (.slice Af fs.length cf)) := Hd fun v2 w2 h => by
   have e := h.keep w.heap.size (by simp) HLV.out
   exact ⟨(World.cell?_of_block e).trans x0, (World.cell?_of_block e).trans x3, (World.cell?_of_block e).trans x4⟩
  have HST0 : Hid (InfSt w0 (w.alloc (.cells (cells6T k s n Ap ps.length cp Af fs.length cf Av vs.length cv).toArray 26)) (.slice As l.length c) l [] (.slice As l.length c) (w.alloc (.cells (cells6T k s n Ap ps.length cp Af fs.length cf Av vs.length cv).toArray 26)) l) := Hd ⟨HO1.out, HA.out, fun x => by simp, by simp, HB1.out, Nat.le_refl _, Fr.refl _ _⟩
  clear ht hb hO hA hbd hLp hLf hp hf hk
  go_enter Tryz.func87, Tryz.ntmps87
  go_wp2_with fail
  have HW1 : Hid ((w.alloc (.cells (cells6T k s n Ap ps.length cp Af fs.length cf Av vs.length cv).toArray 26)).heap.size = w.heap.size + 1) := Hd (by simp)
  generalize (w.alloc (.cells (cells6T k s n Ap ps.length cp Af fs.length cf Av vs.length cv).toArray 26)) = w1 at *
  go_loopw [1, 5] (fun ov iv wr => ∃ (i : Nat) (N l1 : List ByteArray), i ≤ ps.length ∧ iv = .int .i64 i ∧ N ++ namesP k i (ps.drop i) = namesP k 0 ps ∧ InfSt w0 w1 (.slice As l.length c) l N ov wr l1) (fun _ v _ => ps.length - (intOf v).toNat)
  case atStart => exact ⟨0, [], l, by omega, rfl, by rw [List.drop_zero]; rfl, HST0.out⟩
  case round =>
   obtain ⟨i, N, l1, hi, rfl, he, hst⟩ := hrel
   have HST := Hd hst
   have HE := Hd he
   have HNL : Hid (N.length + (namesP k i (ps.drop i)).length = (namesP k 0 ps).length) := Hd (by rw [← he, List.length_append])
   obtain ⟨z0, z3, z4⟩ := HX.out _ _ hst.fr
   have HLN : Hid (l1.length + (namesP k i (ps.drop i)).length + (namesF fs).length ≤ 1099511627776) := Hd (by
    have h1 := hst.len
    have h2 := HBD.out
    rw [HNN.out, List.length_append] at h2
    have h3 := HNL.out
    omega)
   obtain ⟨A1, c1, rfl, -⟩ := hst.own.list (by have := HLN.out; omega)
   clear hst he
   by_cases hin : i < ps.length
   ·have t1 : decide ((i : Int) < (ps.length : Int)) = true := by simp; omega
    have wr2 : wrap64 ((i : Int) + 1) = ((i + 1 : Nat) : Int) := wrap_one (by omega)
    have HM := Hd (measI hin)
    obtain ⟨b, o, hAA, _, hat⟩ := HLP.out.at (by omega)
    have hti := hat i hin
    have hpi := HP.out _ (List.getElem_mem hin)
    have HSP0 := Hd (namesP_drop (k := k) hin)
    have HIn : Hid (i + 1 ≤ ps.length) := Hd hin
    subst hAA
    generalize ps[i] = t at hti hpi HSP0
    obtain ⟨cs, hcs, hrep⟩ := hti
    obtain ⟨k2, s2, n2, ps2, fs2, vs2⟩ := t
    have KI : Hid ((k == 21 && i == 1) = false → Calls Tryz.prog 87 #[.agg cs.toArray, .slice A1 l1.length c1] wr _) := Hd fun hq => hpi K w0 wr cs _ l1 hrep HST.out.low HST.out.own HST.out.asc (by
     have h1 := HLN.out
     rw [HSP0.out, hq, if_neg (by decide), List.length_append] at h1
     omega)
    obtain ⟨Aq, cq, Ag, cg, Ah, ch, rfl, -⟩ := hrep.inv
    have y0 := cell_stays HST.out.low (hcs 0 _ rfl)
    have y1 := cell_stays HST.out.low (hcs 1 _ rfl)
    have y2 := cell_stays HST.out.low (hcs 2 _ rfl)
    have y3 := cell_stays HST.out.low (hcs 3 _ rfl)
    have y4 := cell_stays HST.out.low (hcs 4 _ rfl)
    have y5 := cell_stays HST.out.low (hcs 5 _ rfl)
    rw [Nat.add_zero] at y0
    simp only [cells6T] at KI
    clear hi hat hpi hcs hrep
    by_cases h21 : k = 21
    ·have b21 : (k != 21) = false := by simpa using h21
     have E21 : Hid ((k == 21) = true) := Hd (by simpa using h21)
     clear h21
     by_cases h1 : i = 1
     ·have b1 : ((i : Int) != 1) = false := by subst h1; rfl
      have HQ : Hid ((k == 21 && i == 1) = true) := Hd (by rw [E21.out, h1]; rfl)
      clear KI h1
      go_wp2_with fail
      refine ⟨⟨i + 1, N, l1, HIn.out, by first | rfl | rw [wr2], ?p1, HST.out⟩, ?p3⟩
      case p1 => rw [← HE.out, HSP0.out, HQ.out, if_pos rfl]; rfl
      case p3 => first | exact HM.out | (rw [wr2]; exact HM.out)
     ·have b1 : ((i : Int) != 1) = true := by simp; omega
      have HQ : Hid ((k == 21 && i == 1) = false) := Hd (by rw [E21.out]; simpa using h1)
      have HSP : Hid (N ++ namesP k i (ps.drop i) = namesP k 0 ps) := HE
      rw [HSP0.out] at HSP
      replace KI := Hd (KI.out HQ.out)
      clear h1
      go_wp2_with fail
      refine (KI.out).mono ?_
      rintro e w2 ⟨v2, l2, rfl, h2⟩
      have HS2 := Hd (HST.out.step h2)
      have HF2 := Hd (HX.out _ _ HS2.out.fr)
      clear h2 KI y0 y1 y2 y3 y4 y5
      go_wp2_with fail
      refine ⟨⟨i + 1, _, l2, HIn.out, by first | rfl | rw [wr2], ?p1, HS2.out⟩, ?p3⟩
      case p1 => rw [← HSP.out, HQ.out, if_neg (by decide), List.append_assoc]
      case p3 => first | exact HM.out | (rw [wr2]; exact HM.out)
    ·have b21 : (k != 21) = true := by simpa using h21
     have HQ : Hid ((k == 21 && i == 1) = false) := Hd (by simp [h21])
     have HSP : Hid (N ++ namesP k i (ps.drop i) = namesP k 0 ps) := HE
     rw [HSP0.out] at HSP
     replace KI := Hd (KI.out HQ.out)
     clear h21
     go_wp2_with fail
     refine (KI.out).mono ?_
     rintro e w2 ⟨v2, l2, rfl, h2⟩
     have HS2 := Hd (HST.out.step h2)
     have HF2 := Hd (HX.out _ _ HS2.out.fr)
     clear h2 KI y0 y1 y2 y3 y4 y5
     go_wp2_with fail
     refine ⟨⟨i + 1, _, l2, HIn.out, by first | rfl | rw [wr2], ?p1, HS2.out⟩, ?p3⟩
     case p1 => rw [← HSP.out, HQ.out, if_neg (by decide), List.append_assoc]
     case p3 => first | exact HM.out | (rw [wr2]; exact HM.out)
   ·have t1 : decide ((i : Int) < (ps.length : Int)) = false := by simp; omega
    have HE1 : Hid (N = namesP k 0 ps) := Hd (by rw [← HE.out, List.drop_eq_nil_of_le (by omega), namesP, List.append_nil])
    clear hi
    go_wp2_with fail
    go_loopw [1, 6] (fun ov iv wx => ∃ (i : Nat) (N l1 : List ByteArray), i ≤ fs.length ∧ iv = .int .i64 i ∧ N ++ namesF (fs.drop i) = namesP k 0 ps ++ namesF fs ∧ InfSt w0 w1 (.slice As l.length c) l N ov wx l1) (fun _ v _ => fs.length - (intOf v).toNat)
    case atStart => exact ⟨0, N, l1, by omega, rfl, by rw [List.drop_zero, HE1.out], HST.out⟩
    case round =>
     clear z0 z3 z4 HST HLN
     obtain ⟨i, N, l1, hi, rfl, he, hst⟩ := hrel
     have HST := Hd hst
     have HE := Hd he
     obtain ⟨z0, z3, z4⟩ := HX.out _ _ hst.fr
     have HLN : Hid (l1.length + (namesF (fs.drop i)).length ≤ 1099511627776) := Hd (by
      have h1 := hst.len
      have h2 := HBD.out
      rw [HNN.out, ← he, List.length_append] at h2
      omega)
     obtain ⟨A1, c1, rfl, -⟩ := hst.own.list (by have := HLN.out; omega)
     clear hst he
     by_cases hin : i < fs.length
     ·have t1 : decide ((i : Int) < (fs.length : Int)) = true := by simp; omega
      have wr2 : wrap64 ((i : Int) + 1) = ((i + 1 : Nat) : Int) := wrap_one (by omega)
      have HM := Hd (measI hin)
      obtain ⟨b, o, hAA, _, hat⟩ := HLF.out.at (by omega)
      have hti := (hat i hin).2.2.2
      have hpi := HF.out _ (List.getElem_mem hin)
      have HSP0 := Hd (namesF_drop hin)
      have HIn : Hid (i + 1 ≤ fs.length) := Hd hin
      subst hAA
      generalize fs[i].2.2 = t at hti hpi HSP0
      obtain ⟨cs, hcs, hrep⟩ := hti
      obtain ⟨k2, s2, n2, ps2, fs2, vs2⟩ := t
      have KI := Hd (hpi K w0 _ cs _ l1 hrep HST.out.low HST.out.own HST.out.asc (by
       have h1 := HLN.out
       rw [HSP0.out, List.length_append] at h1
       omega))
      have HSP : Hid (N ++ namesF (fs.drop i) = namesP k 0 ps ++ namesF fs) := HE
      rw [HSP0.out] at HSP
      obtain ⟨Aq, cq, Ag, cg, Ah, ch, rfl, -⟩ := hrep.inv
      have y0 := cell_stays HST.out.low (hcs 0 _ rfl)
      have y1 := cell_stays HST.out.low (hcs 1 _ rfl)
      have y2 := cell_stays HST.out.low (hcs 2 _ rfl)
      have y3 := cell_stays HST.out.low (hcs 3 _ rfl)
      have y4 := cell_stays HST.out.low (hcs 4 _ rfl)
      have y5 := cell_stays HST.out.low (hcs 5 _ rfl)
      rw [Nat.add_zero] at y0
      simp only [cells6T] at KI
      clear hi hat hpi hcs hrep
      go_wp2_with fail
      refine (KI.out).mono ?_
      rintro e w2 ⟨v2, l2, rfl, h2⟩
      have HS2 := Hd (HST.out.step h2)
      have HF2 := Hd (HX.out _ _ HS2.out.fr)
      clear h2 KI y0 y1 y2 y3 y4 y5
      go_wp2_with fail
      refine ⟨⟨i + 1, _, l2, HIn.out, by first | rfl | rw [wr2], ?p1, HS2.out⟩, ?p3⟩
      case p1 => rw [← HSP.out, List.append_assoc]
      case p3 => first | exact HM.out | (rw [wr2]; exact HM.out)
     ·have t1 : decide ((i : Int) < (fs.length : Int)) = false := by simp; omega
      have HE1 : Hid (N = namesP k 0 ps ++ namesF fs) := Hd (by rw [← HE.out, List.drop_eq_nil_of_le (by omega)]; simp [namesF])
      clear hi
      go_wp2_with fail
      go_ret
      refine ⟨.slice A1 l1.length c1, l1, rfl, ?_⟩
      rw [HNN.out, ← HE1.out]
      exact InfSt.from HST.out HBW.out
theorem infers_ref (t : Ty) : InfR t := Ty.ind (C := InfR) (fun k s n ps fs vs hp hf _ => infers_step k s n ps fs vs hp hf) t
end Go.Proofs.YteakkjhcdpbidaaGreatDoor
