import Derived.Test.YtfchnfnifpopnaaGreatDoorMa24
namespace Go.Proofs.YtfchnfnifpopnaaGreatDoor
open Go.RowKit
structure APre (K : Nat → Prop) (w : World) (k : Int) (s : ByteArray) (n : Int) (ps : List Ty) (fs : List (ByteArray × Int × Ty)) (vs : List (ByteArray × List Ty)) (k3 : Int) (s3 : ByteArray) (n3 : Int) (ps3 : List Ty) (fs3 : List (ByteArray × Int × Ty)) (vs3 : List (ByteArray × List Ty)) (A : Option Addr) (c : Nat) (A' : Option Addr) (c' : Nat) (A'' : Option Addr) (c'' : Nat) (A3 : Option Addr) (c3 : Nat) (B3 : Option Addr) (d3 : Nat) (C3 : Option Addr) (e3 : Nat) (w1 : World) (g : Nat) : Prop where
 HB1 : Hid (Below w.heap.size w w1)
 HS1 : Hid (w1.heap.size = w.heap.size + 3)
 HX0 : Hid (w1.heap[w.heap.size]? = some (.cells #[.int .i64 k, .string s, .int .i64 n, .slice A ps.length c, .slice A' fs.length c', .slice A'' vs.length c''] 26 (0, 0)))
 HY0 : Hid (w1.heap[w.heap.size + 1]? = some (.cells #[.int .i64 k3, .string s3, .int .i64 n3, .slice A3 ps3.length c3, .slice B3 fs3.length d3, .slice C3 vs3.length e3] 26 (0, 0)))
 HX1 : Hid (w1.heap[g]? = some (.cells #[.int .i64 0, .string ⟨#[]⟩, .int .i64 0, .slice none 0 0, .slice none 0 0, .slice none 0 0] 26 (0, 0)))
 HW1 : Hid (w1 = ((w.alloc (.cells #[.int .i64 k, .string s, .int .i64 n, .slice A ps.length c, .slice A' fs.length c', .slice A'' vs.length c''] 26)).alloc (.cells #[.int .i64 k3, .string s3, .int .i64 n3, .slice A3 ps3.length c3, .slice B3 fs3.length d3, .slice C3 vs3.length e3] 26)).alloc (.cells #[.int .i64 0, .string ⟨#[]⟩, .int .i64 0, .slice none 0 0, .slice none 0 0, .slice none 0 0] 26))
 HG : Hid (g = w.heap.size + 2)
 HR : Hid (RepT K w (.mk k s n ps fs vs) [.int .i64 k, .string s, .int .i64 n, .slice A ps.length c, .slice A' fs.length c', .slice A'' vs.length c''])
 HP : Hid (RepT K w (.mk k3 s3 n3 ps3 fs3 vs3) [.int .i64 k3, .string s3, .int .i64 n3, .slice A3 ps3.length c3, .slice B3 fs3.length d3, .slice C3 vs3.length e3])
 HL : Hid (ListT K w ps A c)
 HL3 : Hid (ListT K w ps3 A3 c3)
 HLO1 : Hid (∀ b, K b → b < w1.heap.size)
 hlp : ps.length ≤ 1000000000000000
 hlp3 : ps3.length ≤ 1000000000000000
theorem at_pre {K : Nat → Prop} {w : World} {k : Int} {s : ByteArray} {n : Int} {ps : List Ty} {fs : List (ByteArray × Int × Ty)} {vs : List (ByteArray × List Ty)} {k3 : Int} {s3 : ByteArray} {n3 : Int} {ps3 : List Ty} {fs3 : List (ByteArray × Int × Ty)} {vs3 : List (ByteArray × List Ty)} {cs ds : List Value} {R : Ending → World → Prop} (hr : RepT K w (.mk k s n ps fs vs) cs) (hp : RepT K w (.mk k3 s3 n3 ps3 fs3 vs3) ds) (hlo : ∀ b, K b → b < w.heap.size)
  (main : ∀ (A : Option Addr) (c : Nat) (A' : Option Addr) (c' : Nat) (A'' : Option Addr) (c'' : Nat) (A3 : Option Addr) (c3 : Nat) (B3 : Option Addr) (d3 : Nat) (C3 : Option Addr) (e3 : Nat) (w1 : World) (g : Nat), cs = [.int .i64 k, .string s, .int .i64 n, .slice A ps.length c, .slice A' fs.length c', .slice A'' vs.length c''] → ds = [.int .i64 k3, .string s3, .int .i64 n3, .slice A3 ps3.length c3, .slice B3 fs3.length d3, .slice C3 vs3.length e3] → APre K w k s n ps fs vs k3 s3 n3 ps3 fs3 vs3 A c A' c' A'' c'' A3 c3 B3 d3 C3 e3 w1 g → Calls Tryz.prog 19 #[.agg #[.int .i64 k, .string s, .int .i64 n, .slice A ps.length c, .slice A' fs.length c', .slice A'' vs.length c''], .agg #[.int .i64 k3, .string s3, .int .i64 n3, .slice A3 ps3.length c3, .slice B3 fs3.length d3, .slice C3 vs3.length e3]] w R) :
  Calls Tryz.prog 19 #[.agg cs.toArray, .agg ds.toArray] w R := by
 obtain ⟨A, c, A', c', A'', c'', rfl, -, hL, -, -⟩ := hr.inv
 obtain ⟨A3, c3, B3, d3, C3, e3, rfl, -, hL3, -, -⟩ := hp.inv
 simp only [cells6T] at hr hp ⊢
 obtain ⟨w1, hw1⟩ : ∃ x, x = ((w.alloc (.cells #[.int .i64 k, .string s, .int .i64 n, .slice A ps.length c, .slice A' fs.length c', .slice A'' vs.length c''] 26)).alloc (.cells #[.int .i64 k3, .string s3, .int .i64 n3, .slice A3 ps3.length c3, .slice B3 fs3.length d3, .slice C3 vs3.length e3] 26)).alloc (.cells #[.int .i64 0, .string ⟨#[]⟩, .int .i64 0, .slice none 0 0, .slice none 0 0, .slice none 0 0] 26) := ⟨_, rfl⟩
 obtain ⟨g, hgg⟩ : ∃ g, g = w.heap.size + 2 := ⟨_, rfl⟩
 have hb1 : Below w.heap.size w w1 := by rw [hw1]; exact (((Below.refl _ _).alloc (Nat.le_refl _) _).alloc (by simp) _).alloc (by simp; omega) _
 have hs1 : w1.heap.size = w.heap.size + 3 := by rw [hw1]; simp
 have hx0 : w1.heap[w.heap.size]? = some (.cells #[.int .i64 k, .string s, .int .i64 n, .slice A ps.length c, .slice A' fs.length c', .slice A'' vs.length c''] 26 (0, 0)) := by rw [hw1, Below.heap_alloc _ _ _ (by simp; omega), Below.heap_alloc _ _ _ (by simp)]; exact heap_alloc_new w _
 have hy0 : w1.heap[w.heap.size + 1]? = some (.cells #[.int .i64 k3, .string s3, .int .i64 n3, .slice A3 ps3.length c3, .slice B3 fs3.length d3, .slice C3 vs3.length e3] 26 (0, 0)) := by
  rw [hw1, Below.heap_alloc _ _ _ (by simp)]
  have h := heap_alloc_new (w.alloc (.cells #[.int .i64 k, .string s, .int .i64 n, .slice A ps.length c, .slice A' fs.length c', .slice A'' vs.length c''] 26)) (.cells #[.int .i64 k3, .string s3, .int .i64 n3, .slice A3 ps3.length c3, .slice B3 fs3.length d3, .slice C3 vs3.length e3] 26)
  rw [World.size_alloc] at h
  exact h
 have hx1 : w1.heap[g]? = some (.cells #[.int .i64 0, .string ⟨#[]⟩, .int .i64 0, .slice none 0 0, .slice none 0 0, .slice none 0 0] 26 (0, 0)) := by
  rw [hw1, hgg]
  have h := heap_alloc_new ((w.alloc (.cells #[.int .i64 k, .string s, .int .i64 n, .slice A ps.length c, .slice A' fs.length c', .slice A'' vs.length c''] 26)).alloc (.cells #[.int .i64 k3, .string s3, .int .i64 n3, .slice A3 ps3.length c3, .slice B3 fs3.length d3, .slice C3 vs3.length e3] 26)) (.cells #[.int .i64 0, .string ⟨#[]⟩, .int .i64 0, .slice none 0 0, .slice none 0 0, .slice none 0 0] 26)
  rw [World.size_alloc, World.size_alloc] at h
  exact h
 exact main A c A' c' A'' c'' A3 c3 B3 d3 C3 e3 w1 g rfl rfl ⟨Lib.hid hb1, Lib.hid hs1, Lib.hid hx0, Lib.hid hy0, Lib.hid hx1, Lib.hid hw1, Lib.hid hgg, Lib.hid hr, Lib.hid hp, Lib.hid hL, Lib.hid hL3, Lib.hid (fun b h => by have := hlo b h; omega), hL.short, hL3.short⟩
end Go.Proofs.YtfchnfnifpopnaaGreatDoor
