import Derived.Test.YtlooadichhpgeaaGreatDoorMe44
namespace Go.Proofs.YtlooadichhpgeaaGreatDoor
open Go.RowKit
structure MPre (w : World) (k : Int) (s : ByteArray) (n : Int) (ps : List Ty) (fs : List (ByteArray × Int × Ty)) (vs : List (ByteArray × List Ty)) (k3 : Int) (s3 : ByteArray) (n3 : Int) (ps3 : List Ty) (fs3 : List (ByteArray × Int × Ty)) (vs3 : List (ByteArray × List Ty)) (A : Option Addr) (c : Nat) (A' : Option Addr) (c' : Nat) (A'' : Option Addr) (c'' : Nat) (A3 : Option Addr) (c3 : Nat) (B3 : Option Addr) (d3 : Nat) (C3 : Option Addr) (e3 : Nat) (w1 : World) : Prop where
 HBX : Hid (∀ wx, Below w1.heap.size w1 wx → (wx.cell? ⟨w.heap.size, 0, none⟩ = some (.int .i64 k) ∧ wx.cell? ⟨w.heap.size, 1, none⟩ = some (.string s) ∧ wx.cell? ⟨w.heap.size, 2, none⟩ = some (.int .i64 n) ∧ wx.cell? ⟨w.heap.size, 3, none⟩ = some (.slice A ps.length c) ∧ wx.cell? ⟨w.heap.size, 4, none⟩ = some (.slice A' fs.length c') ∧ wx.cell? ⟨w.heap.size, 5, none⟩ = some (.slice A'' vs.length c'')) ∧ (wx.cell? ⟨w.heap.size + 1, 0, none⟩ = some (.int .i64 k3) ∧ wx.cell? ⟨w.heap.size + 1, 1, none⟩ = some (.string s3) ∧ wx.cell? ⟨w.heap.size + 1, 2, none⟩ = some (.int .i64 n3) ∧ wx.cell? ⟨w.heap.size + 1, 3, none⟩ = some (.slice A3 ps3.length c3) ∧ wx.cell? ⟨w.heap.size + 1, 4, none⟩ = some (.slice B3 fs3.length d3) ∧ wx.cell? ⟨w.heap.size + 1, 5, none⟩ = some (.slice C3 vs3.length e3)))
 HB1 : Hid (Below w.heap.size w w1)
 HW1 : Hid (w1 = ((w.alloc (.cells #[.int .i64 k, .string s, .int .i64 n, .slice A ps.length c, .slice A' fs.length c', .slice A'' vs.length c''] 26)).alloc (.cells #[.int .i64 k3, .string s3, .int .i64 n3, .slice A3 ps3.length c3, .slice B3 fs3.length d3, .slice C3 vs3.length e3] 26)))
 HR : Hid (RepT (fun b => b < w.heap.size) w (.mk k s n ps fs vs) [.int .i64 k, .string s, .int .i64 n, .slice A ps.length c, .slice A' fs.length c', .slice A'' vs.length c''])
 HP : Hid (RepT (fun b => b < w.heap.size) w (.mk k3 s3 n3 ps3 fs3 vs3) [.int .i64 k3, .string s3, .int .i64 n3, .slice A3 ps3.length c3, .slice B3 fs3.length d3, .slice C3 vs3.length e3])
theorem two_pre {K K2 : Nat → Prop} {w : World} {k : Int} {s : ByteArray} {n : Int} {ps : List Ty} {fs : List (ByteArray × Int × Ty)} {vs : List (ByteArray × List Ty)} {k3 : Int} {s3 : ByteArray} {n3 : Int} {ps3 : List Ty} {fs3 : List (ByteArray × Int × Ty)} {vs3 : List (ByteArray × List Ty)} {cs ds : List Value} {R : Prop} (hr : RepT K w (.mk k s n ps fs vs) cs) (hp : RepT K2 w (.mk k3 s3 n3 ps3 fs3 vs3) ds)
  (main : ∀ (A : Option Addr) (c : Nat) (A' : Option Addr) (c' : Nat) (A'' : Option Addr) (c'' : Nat) (A3 : Option Addr) (c3 : Nat) (B3 : Option Addr) (d3 : Nat) (C3 : Option Addr) (e3 : Nat) (w1 : World), MPre w k s n ps fs vs k3 s3 n3 ps3 fs3 vs3 A c A' c' A'' c'' A3 c3 B3 d3 C3 e3 w1 → cs = [.int .i64 k, .string s, .int .i64 n, .slice A ps.length c, .slice A' fs.length c', .slice A'' vs.length c''] → ds = [.int .i64 k3, .string s3, .int .i64 n3, .slice A3 ps3.length c3, .slice B3 fs3.length d3, .slice C3 vs3.length e3] → R) : R := by
 obtain ⟨A, c, A', c', A'', c'', hc, -⟩ := hr.inv
 obtain ⟨A3, c3, B3, d3, C3, e3, hd, -⟩ := hp.inv
 simp only [cells6T] at hc hd
 rw [hc] at hr
 rw [hd] at hp
 obtain ⟨w1, hw1⟩ : ∃ x, x = ((w.alloc (.cells #[.int .i64 k, .string s, .int .i64 n, .slice A ps.length c, .slice A' fs.length c', .slice A'' vs.length c''] 26)).alloc (.cells #[.int .i64 k3, .string s3, .int .i64 n3, .slice A3 ps3.length c3, .slice B3 fs3.length d3, .slice C3 vs3.length e3] 26)) := ⟨_, rfl⟩
 have hb1 : Below w.heap.size w w1 := by rw [hw1]; exact ((Below.refl _ _).alloc (Nat.le_refl _) _).alloc (by simp) _
 have hx0 : w1.heap[w.heap.size]? = some (.cells #[.int .i64 k, .string s, .int .i64 n, .slice A ps.length c, .slice A' fs.length c', .slice A'' vs.length c''] 26 (0, 0)) := by rw [hw1, Below.heap_alloc _ _ _ (by simp)]; exact heap_alloc_new w _
 have hy0 : w1.heap[w.heap.size + 1]? = some (.cells #[.int .i64 k3, .string s3, .int .i64 n3, .slice A3 ps3.length c3, .slice B3 fs3.length d3, .slice C3 vs3.length e3] 26 (0, 0)) := by
  rw [hw1]
  have h := heap_alloc_new (w.alloc (.cells #[.int .i64 k, .string s, .int .i64 n, .slice A ps.length c, .slice A' fs.length c', .slice A'' vs.length c''] 26)) (.cells #[.int .i64 k3, .string s3, .int .i64 n3, .slice A3 ps3.length c3, .slice B3 fs3.length d3, .slice C3 vs3.length e3] 26)
  rw [World.size_alloc] at h
  exact h
 refine main A c A' c' A'' c'' A3 c3 B3 d3 C3 e3 w1 ⟨Lib.hid fun wx hx => ?_, Lib.hid hb1, Lib.hid hw1, Lib.hid (RepT.low _ _ hr), Lib.hid (RepT.low _ _ hp)⟩ hc hd
 have h1 := box_up hx (Array.getElem?_eq_some_iff.1 hx0).1 hx0
 have h2 := box_up hx (Array.getElem?_eq_some_iff.1 hy0).1 hy0
 exact ⟨⟨Lib.cell_of_heap h1 0, Lib.cell_of_heap h1 1, Lib.cell_of_heap h1 2, Lib.cell_of_heap h1 3, Lib.cell_of_heap h1 4, Lib.cell_of_heap h1 5⟩, Lib.cell_of_heap h2 0, Lib.cell_of_heap h2 1, Lib.cell_of_heap h2 2, Lib.cell_of_heap h2 3, Lib.cell_of_heap h2 4, Lib.cell_of_heap h2 5⟩
theorem wrap14 (n : Int) : IntKind.i64.wrap n = wrap64 n := by unfold wrap64; exact IntKind.wrap_i64 n
theorem nod14 {K : Nat → Prop} {w w1 : World} {t : Ty} {cs : List Value} (hr : RepT K w t cs) (hb : Below w.heap.size w w1) : ∃ X : Int, X = ((min (cntT t) 4097 : Nat) : Int) ∧ ∀ wx, Below w1.heap.size w1 wx → Calls Tryz.prog 16 #[.agg cs.toArray] wx fun e w' => e = .returned (.int .i64 X) ∧ Below wx.heap.size wx w' :=
 ⟨_, rfl, fun wx hx => (nod_any t K wx cs (hr.later (hb.trans (hx.mono hb.size)))).mono fun _ _ ⟨he, hg⟩ => ⟨he, hg.below⟩⟩
theorem cg_out {w w' : World} {s : ByteArray} {G : List (ByteArray × Ty)} {e : Ending} (h : CgP w [s] G e w') : ∃ g c rs, e = .returned (.tuple #[.slice (some ⟨g, 0, none⟩) 1 c, .int .i64 0]) ∧ Below w.heap.size w w' ∧ (∀ j u, (Value.string s :: rs)[j]? = some u → w'.cell? ⟨g, j, none⟩ = some u) ∧ RepT (fun b => b < w'.heap.size) w' (stdT (gatN s G)) rs := by
 rcases h with ⟨hb, ⟨h, _⟩ | ⟨x, g, c, rs, hs, he, hc, hr⟩⟩
 ·cases h
 ·obtain rfl : s = x := (List.cons.inj hs).1
  exact ⟨g, c, rs, he, hb, hc, hr⟩
end Go.Proofs.YtlooadichhpgeaaGreatDoor
