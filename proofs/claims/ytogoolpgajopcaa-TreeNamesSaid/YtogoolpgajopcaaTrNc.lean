import Derived.Test.YtogoolpgajopcaaTrNb
import Derived.Laws.EntriesVeiled
namespace Go.Proofs.Ytogoolpgajopcaa
open Go.RowKit Go.Maps Go.WideMaps
def ProgNames (P : Fo) : Prop := ∀ (k : Int) (t : ByteArray) (n m a : Int) (A : Option Addr) (c : Nat) (w : World), Holds w w.heap.size P A 0 → P.len ≤ 1000000000000000 → 1 + P.nodes ≤ 40000 → t.size ≤ 1000000000000000 →
    Calls Try.prog 25 #[val6 k t n m a P.len A c] w fun e w' => ∃ A' c' base, e = .returned (.slice A' (P.nm (addN [] k t)).length c') ∧ w'.ownsRow base 9 1 (.slice A' (P.nm (addN [] k t)).length c') (P.nm (addN [] k t)).length ((P.nm (addN [] k t)).map Value.string) ∧ Below w.heap.size w w'
theorem NS.start (w : World) (o : Obj) : NS w.heap.size (w.heap.size + 1 + 1) (w.heap.size + 1 + 1 + 1) (w.heap.size + 1 + 1 + 1 + 1) (w.heap.size + 1) []
    (((((w.alloc o).alloc (.map #[] 0)).alloc (.cells #[.map (some (w.heap.size + 1))] 45)).alloc (.cells #[.slice none 0 0] 32)).alloc (.cells #[.func (.func 63) #[] #[.pointer (some ⟨w.heap.size + 1 + 1, 0, none⟩), .pointer (some ⟨w.heap.size + 1 + 1 + 1, 0, none⟩), .pointer (some ⟨w.heap.size + 1 + 1 + 1 + 1, 0, none⟩)]] 46)) := by
  generalize hV1 : w.alloc o = V1
  have z1 : V1.heap.size = w.heap.size + 1 := by rw [← hV1, alloc_size]
  have hm := World.ownsMap_made V1 Try.prog 9 (unitElem (H := Unit))
  generalize hV2 : V1.alloc _ = V2 at *
  have z2 : V2.heap.size = w.heap.size + 1 + 1 := by rw [← hV2, alloc_size, z1]
  generalize hV3 : V2.alloc _ = V3
  have z3 : V3.heap.size = w.heap.size + 1 + 1 + 1 := by rw [← hV3, alloc_size, z2]
  have b23 : Below V2.heap.size V2 V3 := by rw [← hV3]; exact (Below.refl _ _).alloc (Nat.le_refl _) _
  generalize hV4 : V3.alloc _ = V4
  have z4 : V4.heap.size = w.heap.size + 1 + 1 + 1 + 1 := by rw [← hV4, alloc_size, z3]
  have b34 : Below V3.heap.size V3 V4 := by rw [← hV4]; exact (Below.refl _ _).alloc (Nat.le_refl _) _
  generalize hV5 : V4.alloc _ = V5
  have z5 : V5.heap.size = w.heap.size + 1 + 1 + 1 + 1 + 1 := by rw [← hV5, alloc_size, z4]
  have b45 : Below V4.heap.size V4 V5 := by rw [← hV5]; exact (Below.refl _ _).alloc (Nat.le_refl _) _
  have b35 := below_step b34 b45
  have b25 := below_step b23 b35
  have f3 : V5.frozen? ⟨V3.heap.size, 0, none⟩ = false := by
    rw [b45.frozen (p := ⟨V3.heap.size, 0, none⟩) (by show V3.heap.size < V4.heap.size; omega), ← hV4]; simp
  refine ⟨by omega, by omega, by omega, by omega, by omega, ?_, ?_, ?_, ⟨none, 0, ?_, World.ownsRow_nil _ _ _ _⟩, ?_⟩
  · rw [← hV3] at b35
    rw [← z2]
    exact box_cells b35 0
  · have b5 := Below.refl V5.heap.size V5
    have h := fun j => box_cells (w := V4) (w1 := V5) (by rw [hV5]; exact b5) j
    rw [← z4]
    rw [z4] at *
    exact h 0
  · rw [z1] at hm
    rw [setN_nil]
    exact map_below hm b25
  · rw [← hV4] at b45
    rw [← z3]
    exact box_cells b45 0
  · rw [← z3]; exact f3
set_option maxRecDepth 100000 in
set_option maxHeartbeats 2000000 in
theorem names_prog (P : Fo) : ProgNames P := by
  intro k t n m a A c w hH hl hn ht
  have hmm := @run_makeMap Try.prog
  have HS := Lib.hid (NS.start w (.cells #[.int .i64 k, .string t, .int .i64 n, .int .i64 m, .int .i64 a, .slice A P.len c] 24))
  have HH := Lib.hid hH
  obtain ⟨L, hL⟩ : ∃ L, P.nm (addN [] k t) = L := ⟨_, rfl⟩
  rw [hL]
  have HL := Lib.hid hL
  simp only [val6, cells6]
  clear hH hL
  go_enter Try.func25, Try.ntmps25
  go_wp2_with fail
  generalize hW : World.alloc _ _ = W at *
  have hb : Below w.heap.size w W := by
    rw [← hW]
    exact (((((Below.refl _ _).alloc (Nat.le_refl _) _).alloc (by simp) _).alloc (by simp; omega) _).alloc (by simp; omega) _).alloc (by simp; omega) _
  have K := Lib.hid (walk_prog P k t n m a A c W w.heap.size _ _ _ _ [] (HH.out.below hb) hl HS.out (by simpa using hn) ht)
  have HB := Lib.hid hb
  simp only [val6, cells6] at K
  rw [HL.out] at K
  clear hmm hW HS HH hb
  refine K.out.mono ?_
  rintro e W2 ⟨rfl, hN, hs, hb2⟩
  obtain ⟨A', c', r1, r2⟩ := hN.row
  have HR := Lib.hid r2
  have HB2 := Lib.hid (HB.out.trans hb2)
  clear r2 hN hb2
  go_wp2_with fail
  go_ret
  exact ⟨A', c', _, rfl, HR.out, HB2.out⟩
end Go.Proofs.Ytogoolpgajopcaa
