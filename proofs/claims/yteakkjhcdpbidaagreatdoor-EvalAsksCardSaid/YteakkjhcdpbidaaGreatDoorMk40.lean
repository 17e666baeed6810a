import Derived.Test.YteakkjhcdpbidaaGreatDoorMk39
namespace Go.Proofs.YteakkjhcdpbidaaGreatDoor
set_option maxRecDepth 100000
set_option maxHeartbeats 64000000
open Go.RowKit
theorem uniL_any {K : Nat → Prop} {w : World} {l : List Ty} {A : Option Addr} {c : Nat} (hL : ListT K w l A c) (hlo : ∀ b, K b → b < w.heap.size) (hall : ∀ x ∈ l, formT x = true) (hc : cntL l ≤ 3000000000) :
  Calls Tryz.prog 29 #[.slice A l.length c] w (FdT K w (unionT l)) := by
 have hfl := flatU_cnt l
 refine (union_ref hL hlo (fun x hx => by have h1 := names_cnt x; have h2 := hfl.2 x hx; omega) (by have := hfl.1; omega)).mono ?_
 rintro e w' ⟨rs, rfl, hr, hb⟩
 rw [unionR (plain_form (List.all_eq_true.2 hall))] at hr
 exact ⟨rs, rfl, hr, hb⟩
structure OPre (K : Nat → Prop) (w : World) (k : Int) (s : ByteArray) (n : Int) (ps : List Ty) (fs : FsT) (vs : VsT) (A : Option Addr) (c : Nat) (B : Option Addr) (d : Nat) (C : Option Addr) (e : Nat) (w1 : World) : Prop where
 HX : Hid (∀ wx, Below w1.heap.size w1 wx → (wx.cell? ⟨w.heap.size, 0, none⟩ = some (.int .i64 k) ∧ wx.cell? ⟨w.heap.size, 1, none⟩ = some (.string s) ∧ wx.cell? ⟨w.heap.size, 2, none⟩ = some (.int .i64 n) ∧ wx.cell? ⟨w.heap.size, 3, none⟩ = some (.slice A ps.length c) ∧ wx.cell? ⟨w.heap.size, 4, none⟩ = some (.slice B fs.length d) ∧ wx.cell? ⟨w.heap.size, 5, none⟩ = some (.slice C vs.length e)))
 HB : Hid (Below w.heap.size w w1)
 HS : Hid (w1.heap.size = w.heap.size + 1)
 HW : Hid (w1 = w.alloc (.cells #[.int .i64 k, .string s, .int .i64 n, .slice A ps.length c, .slice B fs.length d, .slice C vs.length e] 26))
 HR : Hid (RepT K w1 (.mk k s n ps fs vs) [.int .i64 k, .string s, .int .i64 n, .slice A ps.length c, .slice B fs.length d, .slice C vs.length e])
theorem one_pre {K : Nat → Prop} {w : World} {k : Int} {s : ByteArray} {n : Int} {ps : List Ty} {fs : FsT} {vs : VsT} {cs : List Value} {R : Prop} (hr : RepT K w (.mk k s n ps fs vs) cs)
  (main : ∀ (A : Option Addr) (c : Nat) (B : Option Addr) (d : Nat) (C : Option Addr) (e : Nat) (w1 : World), OPre K w k s n ps fs vs A c B d C e w1 → cs = [.int .i64 k, .string s, .int .i64 n, .slice A ps.length c, .slice B fs.length d, .slice C vs.length e] → R) : R := by
 obtain ⟨A, c, B, d, C, e, hc, -⟩ := hr.inv
 simp only [cells6T] at hc
 rw [hc] at hr
 obtain ⟨w1, hw1⟩ : ∃ x, x = w.alloc (.cells #[.int .i64 k, .string s, .int .i64 n, .slice A ps.length c, .slice B fs.length d, .slice C vs.length e] 26) := ⟨_, rfl⟩
 have hb1 : Below w.heap.size w w1 := by rw [hw1]; exact (Below.refl _ _).alloc (Nat.le_refl _) _
 have hx0 : w1.heap[w.heap.size]? = some (.cells #[.int .i64 k, .string s, .int .i64 n, .slice A ps.length c, .slice B fs.length d, .slice C vs.length e] 26 (0, 0)) := by rw [hw1]; exact heap_alloc_new w _
 refine main A c B d C e w1 ⟨Hd fun wx hx => ?_, Hd hb1, Hd (by rw [hw1]; simp), Hd hw1, Hd (hr.later hb1)⟩ hc
 have h1 := box_up hx (Array.getElem?_eq_some_iff.1 hx0).1 hx0
 exact ⟨Ch h1 0, Ch h1 1, Ch h1 2, Ch h1 3, Ch h1 4, Ch h1 5⟩
structure ORes (K : Nat → Prop) (w : World) (k : Int) (s : ByteArray) (n : Int) (ps : List Ty) (fs : FsT) (vs : VsT) (A : Option Addr) (c : Nat) (B : Option Addr) (d : Nat) (C : Option Addr) (e : Nat) (w1 : World) (g : Nat) : Prop where
 HX : Hid (∀ wx, Below w1.heap.size w1 wx → (wx.cell? ⟨w.heap.size, 0, none⟩ = some (.int .i64 k) ∧ wx.cell? ⟨w.heap.size, 1, none⟩ = some (.string s) ∧ wx.cell? ⟨w.heap.size, 2, none⟩ = some (.int .i64 n) ∧ wx.cell? ⟨w.heap.size, 3, none⟩ = some (.slice A ps.length c) ∧ wx.cell? ⟨w.heap.size, 4, none⟩ = some (.slice B fs.length d) ∧ wx.cell? ⟨w.heap.size, 5, none⟩ = some (.slice C vs.length e)))
 HY : Hid (w1.heap[g]? = some (.cells #[.int .i64 0, .string ⟨#[]⟩, .int .i64 0, .slice none 0 0, .slice none 0 0, .slice none 0 0] 26 (0, 0)))
 HB : Hid (Below w.heap.size w w1)
 HS : Hid (w1.heap.size = g + 1)
 HG : Hid (g = w.heap.size + 1)
 HW : Hid (w1 = (w.alloc (.cells #[.int .i64 k, .string s, .int .i64 n, .slice A ps.length c, .slice B fs.length d, .slice C vs.length e] 26)).alloc (.cells #[.int .i64 0, .string ⟨#[]⟩, .int .i64 0, .slice none 0 0, .slice none 0 0, .slice none 0 0] 26))
 HR : Hid (RepT K w1 (.mk k s n ps fs vs) [.int .i64 k, .string s, .int .i64 n, .slice A ps.length c, .slice B fs.length d, .slice C vs.length e])
theorem one_res {K : Nat → Prop} {w : World} {k : Int} {s : ByteArray} {n : Int} {ps : List Ty} {fs : FsT} {vs : VsT} {cs : List Value} {R : Prop} (hr : RepT K w (.mk k s n ps fs vs) cs)
  (main : ∀ (A : Option Addr) (c : Nat) (B : Option Addr) (d : Nat) (C : Option Addr) (e : Nat) (w1 : World) (g : Nat), ORes K w k s n ps fs vs A c B d C e w1 g → cs = [.int .i64 k, .string s, .int .i64 n, .slice A ps.length c, .slice B fs.length d, .slice C vs.length e] → R) : R := by
 obtain ⟨A, c, B, d, C, e, hc, -⟩ := hr.inv
 simp only [cells6T] at hc
 rw [hc] at hr
 obtain ⟨w1, hw1⟩ : ∃ x, x = (w.alloc (.cells #[.int .i64 k, .string s, .int .i64 n, .slice A ps.length c, .slice B fs.length d, .slice C vs.length e] 26)).alloc (.cells #[.int .i64 0, .string ⟨#[]⟩, .int .i64 0, .slice none 0 0, .slice none 0 0, .slice none 0 0] 26) := ⟨_, rfl⟩
 have hb1 : Below w.heap.size w w1 := by rw [hw1]; exact ((Below.refl _ _).alloc (Nat.le_refl _) _).alloc (by simp) _
 have hx0 : w1.heap[w.heap.size]? = some (.cells #[.int .i64 k, .string s, .int .i64 n, .slice A ps.length c, .slice B fs.length d, .slice C vs.length e] 26 (0, 0)) := by rw [hw1, Below.heap_alloc _ _ _ (by simp)]; exact heap_alloc_new w _
 have hy0 : w1.heap[w.heap.size + 1]? = some (.cells #[.int .i64 0, .string ⟨#[]⟩, .int .i64 0, .slice none 0 0, .slice none 0 0, .slice none 0 0] 26 (0, 0)) := by
  rw [hw1]
  have h := heap_alloc_new (w.alloc (.cells #[.int .i64 k, .string s, .int .i64 n, .slice A ps.length c, .slice B fs.length d, .slice C vs.length e] 26)) (.cells #[.int .i64 0, .string ⟨#[]⟩, .int .i64 0, .slice none 0 0, .slice none 0 0, .slice none 0 0] 26)
  rw [World.size_alloc] at h
  exact h
 refine main A c B d C e w1 _ ⟨Hd fun wx hx => ?_, Hd hy0, Hd hb1, Hd (by rw [hw1]; simp), Hd rfl, Hd hw1, Hd (hr.later hb1)⟩ hc
 have h1 := box_up hx (Array.getElem?_eq_some_iff.1 hx0).1 hx0
 exact ⟨Ch h1 0, Ch h1 1, Ch h1 2, Ch h1 3, Ch h1 4, Ch h1 5⟩
structure TRes (K K' : Nat → Prop) (w : World) (k : Int) (s : ByteArray) (n : Int) (ps : List Ty) (fs : FsT) (vs : VsT) (k3 : Int) (s3 : ByteArray) (n3 : Int) (ps3 : List Ty) (fs3 : FsT) (vs3 : VsT) (A : Option Addr) (c : Nat) (B : Option Addr) (d : Nat) (C : Option Addr) (e : Nat) (A3 : Option Addr) (c3 : Nat) (B3 : Option Addr) (d3 : Nat) (C3 : Option Addr) (e3 : Nat) (w1 : World) (g : Nat) : Prop where
 HX : Hid (∀ wx, Below w1.heap.size w1 wx → (wx.cell? ⟨w.heap.size, 0, none⟩ = some (.int .i64 k) ∧ wx.cell? ⟨w.heap.size, 1, none⟩ = some (.string s) ∧ wx.cell? ⟨w.heap.size, 2, none⟩ = some (.int .i64 n) ∧ wx.cell? ⟨w.heap.size, 3, none⟩ = some (.slice A ps.length c) ∧ wx.cell? ⟨w.heap.size, 4, none⟩ = some (.slice B fs.length d) ∧ wx.cell? ⟨w.heap.size, 5, none⟩ = some (.slice C vs.length e)) ∧ (wx.cell? ⟨w.heap.size + 1, 0, none⟩ = some (.int .i64 k3) ∧ wx.cell? ⟨w.heap.size + 1, 1, none⟩ = some (.string s3) ∧ wx.cell? ⟨w.heap.size + 1, 2, none⟩ = some (.int .i64 n3) ∧ wx.cell? ⟨w.heap.size + 1, 3, none⟩ = some (.slice A3 ps3.length c3) ∧ wx.cell? ⟨w.heap.size + 1, 4, none⟩ = some (.slice B3 fs3.length d3) ∧ wx.cell? ⟨w.heap.size + 1, 5, none⟩ = some (.slice C3 vs3.length e3)))
 HY : Hid (w1.heap[g]? = some (.cells #[.int .i64 0, .string ⟨#[]⟩, .int .i64 0, .slice none 0 0, .slice none 0 0, .slice none 0 0] 26 (0, 0)))
 HB : Hid (Below w.heap.size w w1)
 HS : Hid (w1.heap.size = g + 1)
 HG : Hid (g = w.heap.size + 2)
 HW : Hid (w1 = ((w.alloc (.cells #[.int .i64 k, .string s, .int .i64 n, .slice A ps.length c, .slice B fs.length d, .slice C vs.length e] 26)).alloc (.cells #[.int .i64 k3, .string s3, .int .i64 n3, .slice A3 ps3.length c3, .slice B3 fs3.length d3, .slice C3 vs3.length e3] 26)).alloc (.cells #[.int .i64 0, .string ⟨#[]⟩, .int .i64 0, .slice none 0 0, .slice none 0 0, .slice none 0 0] 26))
 HR : Hid (RepT K w1 (.mk k s n ps fs vs) [.int .i64 k, .string s, .int .i64 n, .slice A ps.length c, .slice B fs.length d, .slice C vs.length e])
 HP : Hid (RepT K' w1 (.mk k3 s3 n3 ps3 fs3 vs3) [.int .i64 k3, .string s3, .int .i64 n3, .slice A3 ps3.length c3, .slice B3 fs3.length d3, .slice C3 vs3.length e3])
theorem two_res {K K' : Nat → Prop} {w : World} {k : Int} {s : ByteArray} {n : Int} {ps : List Ty} {fs : FsT} {vs : VsT} {k3 : Int} {s3 : ByteArray} {n3 : Int} {ps3 : List Ty} {fs3 : FsT} {vs3 : VsT} {cs ds : List Value} {R : Prop} (hr : RepT K w (.mk k s n ps fs vs) cs) (hp : RepT K' w (.mk k3 s3 n3 ps3 fs3 vs3) ds)
  (main : ∀ (A : Option Addr) (c : Nat) (B : Option Addr) (d : Nat) (C : Option Addr) (e : Nat) (A3 : Option Addr) (c3 : Nat) (B3 : Option Addr) (d3 : Nat) (C3 : Option Addr) (e3 : Nat) (w1 : World) (g : Nat), TRes K K' w k s n ps fs vs k3 s3 n3 ps3 fs3 vs3 A c B d C e A3 c3 B3 d3 C3 e3 w1 g → cs = [.int .i64 k, .string s, .int .i64 n, .slice A ps.length c, .slice B fs.length d, .slice C vs.length e] → ds = [.int .i64 k3, .string s3, .int .i64 n3, .slice A3 ps3.length c3, .slice B3 fs3.length d3, .slice C3 vs3.length e3] → R) : R := by
 obtain ⟨A, c, B, d, C, e, hc, -⟩ := hr.inv
 obtain ⟨A3, c3, B3, d3, C3, e3, hd, -⟩ := hp.inv
 simp only [cells6T] at hc hd
 rw [hc] at hr
 rw [hd] at hp
 obtain ⟨wa, hwa⟩ : ∃ x, x = (w.alloc (.cells #[.int .i64 k, .string s, .int .i64 n, .slice A ps.length c, .slice B fs.length d, .slice C vs.length e] 26)).alloc (.cells #[.int .i64 k3, .string s3, .int .i64 n3, .slice A3 ps3.length c3, .slice B3 fs3.length d3, .slice C3 vs3.length e3] 26) := ⟨_, rfl⟩
 obtain ⟨w1, hw1⟩ : ∃ x, x = wa.alloc (.cells #[.int .i64 0, .string ⟨#[]⟩, .int .i64 0, .slice none 0 0, .slice none 0 0, .slice none 0 0] 26) := ⟨_, rfl⟩
 have hba : Below w.heap.size w wa := by rw [hwa]; exact ((Below.refl _ _).alloc (Nat.le_refl _) _).alloc (by simp) _
 have hsa : wa.heap.size = w.heap.size + 2 := by rw [hwa]; simp
 have hbb : Below wa.heap.size wa w1 := by rw [hw1]; exact (Below.refl _ _).alloc (Nat.le_refl _) _
 have hb1 := hba.trans (hbb.mono hba.size)
 have hx0 : wa.heap[w.heap.size]? = some (.cells #[.int .i64 k, .string s, .int .i64 n, .slice A ps.length c, .slice B fs.length d, .slice C vs.length e] 26 (0, 0)) := by rw [hwa, Below.heap_alloc _ _ _ (by simp)]; exact heap_alloc_new w _
 have hy0 : wa.heap[w.heap.size + 1]? = some (.cells #[.int .i64 k3, .string s3, .int .i64 n3, .slice A3 ps3.length c3, .slice B3 fs3.length d3, .slice C3 vs3.length e3] 26 (0, 0)) := by
  rw [hwa]
  have h := heap_alloc_new (w.alloc (.cells #[.int .i64 k, .string s, .int .i64 n, .slice A ps.length c, .slice B fs.length d, .slice C vs.length e] 26)) (.cells #[.int .i64 k3, .string s3, .int .i64 n3, .slice A3 ps3.length c3, .slice B3 fs3.length d3, .slice C3 vs3.length e3] 26)
  rw [World.size_alloc] at h
  exact h
 have hz0 : w1.heap[w.heap.size + 2]? = some (.cells #[.int .i64 0, .string ⟨#[]⟩, .int .i64 0, .slice none 0 0, .slice none 0 0, .slice none 0 0] 26 (0, 0)) := by
  have h := heap_alloc_new wa (.cells #[.int .i64 0, .string ⟨#[]⟩, .int .i64 0, .slice none 0 0, .slice none 0 0, .slice none 0 0] 26)
  rw [hsa, ← hw1] at h
  exact h
 refine main A c B d C e A3 c3 B3 d3 C3 e3 w1 _ ⟨Hd fun wx hx => ?_, Hd hz0, Hd hb1, Hd (by rw [hw1]; simp [hsa]), Hd rfl, Hd (by rw [hw1, hwa]), Hd (hr.later hb1), Hd (hp.later hb1)⟩ hc hd
 have h1 := box_up (hbb.trans (hx.mono hbb.size)) (Array.getElem?_eq_some_iff.1 hx0).1 hx0
 have h2 := box_up (hbb.trans (hx.mono hbb.size)) (Array.getElem?_eq_some_iff.1 hy0).1 hy0
 exact ⟨⟨Ch h1 0, Ch h1 1, Ch h1 2, Ch h1 3, Ch h1 4, Ch h1 5⟩, Ch h2 0, Ch h2 1, Ch h2 2, Ch h2 3, Ch h2 4, Ch h2 5⟩
theorem prts_ref {K : Nat → Prop} {w : World} {t : Ty} {cs : List Value} (hr : RepT K w t cs) (hlo : ∀ b, K b → b < w.heap.size) :
  Calls Tryz.prog 11 #[.agg cs.toArray] w (ListPost K w (prtsT t)) := by
 obtain ⟨k, s, n, ps, fs, vs⟩ := t
 refine one_pre hr fun A c B d C e w1 h hcs => ?_
 subst hcs
 obtain ⟨HX, HB1, HS1, HW1, HR⟩ := h
 have HLO := Hd hlo
 clear hr hlo
 unfold ListPost prtsT
 have e1 : Ty.k (.mk k s n ps fs vs) = k := rfl
 have e2 : Ty.ps (.mk k s n ps fs vs) = ps := rfl
 rw [e1, e2]
 clear e1 e2
 by_cases h15 : k = 15
 ·subst h15
  rw [if_pos rfl]
  go_enter Tryz.func11, Tryz.ntmps11
  go_upto_region 1 with fail
  rw [← HW1.out]
  obtain ⟨x0, x1, x2, x3, x4, x5⟩ := HX.out _ (Below.refl _ _)
  go_wp2_with fail
  go_ret
  obtain ⟨_, _, _, _, _, _, he, -, hL, -⟩ := HR.out.inv
  simp only [cells6T, List.cons.injEq, Value.slice.injEq] at he
  obtain ⟨-, -, -, ⟨rfl, -, rfl⟩, -⟩ := he
  exact ⟨_, _, rfl, hL.weak fun b h => .inl h, HB1.out⟩
 rw [if_neg h15]
 have f1 : (k == 15) = false := beq_eq_false_iff_ne.2 h15
 by_cases h1 : k = 1
 ·subst h1
  rw [if_pos rfl]
  go_enter Tryz.func11, Tryz.ntmps11
  go_upto_region 1 with fail
  rw [← HW1.out]
  obtain ⟨x0, x1, x2, x3, x4, x5⟩ := HX.out _ (Below.refl _ _)
  go_wp2_with fail
  go_ret
  exact ⟨none, 0, rfl, ⟨0, 0, ⟨by simp, by simp, fun _ => rfl, fun h => absurd h (by simp)⟩, fun i h => absurd h (by simp)⟩, HB1.out⟩
 rw [if_neg h1]
 have f2 : (k == 1) = false := beq_eq_false_iff_ne.2 h1
 clear h15 h1
 go_enter Tryz.func11, Tryz.ntmps11
 go_upto_region 1 with fail
 rw [← HW1.out]
 obtain ⟨x0, x1, x2, x3, x4, x5⟩ := HX.out _ (Below.refl _ _)
 go_wp2_with fail
 go_ret
 refine ⟨some ⟨w1.heap.size, 0, none⟩, 1, rfl, ?_, HB1.out.alloc HB1.out.size _⟩
 have h := list_lit (g := w1.heap.size) HR.out ((Below.refl _ _).alloc (Nat.le_refl _) _) (fun b h => by have := HLO.out b h; have := HS1.out; omega) (heap_alloc_new w1 _)
 exact h.weak fun b h => h.imp id fun h => by have := HS1.out; omega
end Go.Proofs.YteakkjhcdpbidaaGreatDoor
