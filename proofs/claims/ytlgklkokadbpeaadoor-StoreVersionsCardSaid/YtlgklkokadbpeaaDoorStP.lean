import Derived.Test.YtlgklkokadbpeaaDoorStL
import Derived.Deep.RegionHeld3
namespace Go.Proofs.YtlgklkokadbpeaaDoor
open Go.RowKit

theorem obj_keep (w1 : World) (b : Nat) (o : Obj) {x y : Value} (k0 : w1.cell? ⟨b, 0, none⟩ = some x) (k1 : w1.cell? ⟨b, 1, none⟩ = some y) (kf : ∀ k, w1.frozen? ⟨b, k, none⟩ = false) :
    (w1.alloc o).cell? ⟨b, 0, none⟩ = some x ∧ (w1.alloc o).cell? ⟨b, 1, none⟩ = some y ∧ (∀ k, (w1.alloc o).frozen? ⟨b, k, none⟩ = false) := by
  have hb := (Below.refl w1.heap.size w1).alloc (Nat.le_refl _) o
  have hl : b < w1.heap.size := World.block_lt_of_cell? _ _ k0
  exact ⟨cell_later hb k0, cell_later hb k1, fun k => (hb.frozen (p := ⟨b, k, none⟩) hl).trans (kf k)⟩
def fileO : Obj := .cells #[.string ⟨#[]⟩, .string ⟨#[]⟩, .int .i64 0] 45
def madeW (w1 : World) (b : Nat) : World := ((w1.alloc fileO).alloc (.map #[] 0)).setCell ⟨b, 1, none⟩ (.map (some (w1.heap.size + 1)))
theorem made (w1 : World) (b : Nat) (k0 : w1.cell? ⟨b, 0, none⟩ = some (.int .i64 0)) (k1 : w1.cell? ⟨b, 1, none⟩ = some (.map none)) (kf : ∀ k, w1.frozen? ⟨b, k, none⟩ = false) :
    (madeW w1 b).cell? ⟨b, 0, none⟩ = some (.int .i64 0) ∧ (madeW w1 b).cell? ⟨b, 1, none⟩ = some (.map (some (w1.heap.size + 1))) ∧ (madeW w1 b).heap[w1.heap.size + 1]? = some (.map #[] 0) ∧ (∀ k, (madeW w1 b).frozen? ⟨b, k, none⟩ = false) ∧ (∀ B, B ≤ b → Below B w1 (madeW w1 b)) ∧ b < w1.heap.size := by
  have hl : b < w1.heap.size := World.block_lt_of_cell? _ _ k0
  obtain ⟨c0, c1, cf⟩ := obj_keep w1 b fileO k0 k1 kf
  obtain ⟨d0, d1, df⟩ := obj_keep _ b (.map #[] 0) c0 c1 cf
  refine ⟨?_, ?_, ?_, ?_, ?_, hl⟩
  · unfold madeW; rw [World.cell?_setCell_other _ _ _ _ (by simp)]; exact d0
  · unfold madeW; go_simp
  · unfold madeW
    rw [Below.heap_setCell _ _ _ _ (by show w1.heap.size + 1 ≠ b; omega)]
    show ((w1.heap.push fileO).push (.map #[] 0))[w1.heap.size + 1]? = _
    have e : w1.heap.size + 1 = (w1.heap.push fileO).size := by simp
    rw [e, Array.getElem?_push_size]
  · intro k; unfold madeW; rw [World.frozen?_setCell]; exact df k
  · intro B hB
    exact ((((Below.refl B w1).alloc (by omega) _).alloc (by simp; omega) _)).setCell hB _
def fileV : Value := .agg #[.string ⟨#[97]⟩, .string ⟨#[120]⟩, .int .i64 1]
def mapO : Obj := .map #[{ key := .string ⟨#[97]⟩, val := fileV, born := 0 }] 1
def cntW (X : World) (b : Nat) : World := X.drew.setCell ⟨b, 0, none⟩ (.int .i64 1)
def putW (X : World) (b R : Nat) : World := { cntW X b with heap := (cntW X b).heap.setIfInBounds R mapO }
theorem put_facts (X : World) (b R : Nat) (m0 : X.cell? ⟨b, 0, none⟩ = some (.int .i64 0)) (m1 : X.cell? ⟨b, 1, none⟩ = some (.map (some R))) (m2 : X.heap[R]? = some (.map #[] 0)) (_mf : ∀ k, X.frozen? ⟨b, k, none⟩ = false) (hR : b < R) :
    (cntW X b).cell? ⟨b, 1, none⟩ = some (.map (some R)) ∧ (putW X b R).cell? ⟨b, 1, none⟩ = some (.map (some R)) ∧ (putW X b R).cell? ⟨b, 0, none⟩ = some (.int .i64 1) ∧ (putW X b R).heap[R]? = some mapO ∧
    (Instr.mapUpdate 50 (.map (some R)) (.string ⟨#[97]⟩) fileV).run Tryd.prog (cntW X b) = .ok () (putW X b R) ∧ (∀ B, B ≤ b → Below B X (putW X b R)) := by
  have c0 : X.drew.cell? ⟨b, 0, none⟩ = some (.int .i64 0) := m0
  have cm : (cntW X b).heap[R]? = some (.map #[] 0) := by
    unfold cntW
    rw [Below.heap_setCell _ _ _ _ (by show R ≠ b; omega)]; exact m2
  have hlt : R < (cntW X b).heap.size := by
    rcases Nat.lt_or_ge R (cntW X b).heap.size with h | h
    · exact h
    · rw [Array.getElem?_eq_none h] at cm; cases cm
  have a1 : (cntW X b).cell? ⟨b, 1, none⟩ = some (.map (some R)) := by
    unfold cntW; rw [World.cell?_setCell_other _ _ _ _ (by simp)]; exact m1
  have a0 : (cntW X b).cell? ⟨b, 0, none⟩ = some (.int .i64 1) := by unfold cntW; go_simp
  have far : ∀ k, k ≠ R → (putW X b R).heap[k]? = (cntW X b).heap[k]? := fun k hk => by
    unfold putW
    show ((cntW X b).heap.setIfInBounds R mapO)[k]? = _
    rw [Array.getElem?_setIfInBounds_ne (by omega)]
  refine ⟨a1, ?_, ?_, ?_, ?_, ?_⟩
  · exact (World.cell?_of_block (a := ⟨b, 1, none⟩) (w := cntW X b) (far b (by omega))).trans a1
  · exact (World.cell?_of_block (a := ⟨b, 0, none⟩) (w := cntW X b) (far b (by omega))).trans a0
  · show ((cntW X b).heap.setIfInBounds R mapO)[R]? = _
    simp [hlt]
  · exact run_mapUpdate_first _ _ _ _ R 0 ⟨#[97]⟩ fileV Tryd.underlying50 Tryd.underlying9 cm
  · intro B hB
    have h1 : Below B X (cntW X b) := (Below.drew (Below.refl B X)).setCell hB _
    exact h1.trans ⟨rfl, rfl, rfl, by show _ ≤ ((cntW X b).heap.setIfInBounds R mapO).size; simp, fun k hk => far k (by omega)⟩
set_option maxRecDepth 100000 in
theorem count_prog (W : World) (b : Nat) (h0 : W.cell? ⟨b, 0, none⟩ = some (.int .i64 0)) (hf : W.frozen? ⟨b, 0, none⟩ = false) :
    Calls Tryd.prog 48 #[.pointer (some ⟨b, 0, none⟩)] W fun e w' => e = .returned (.int .i64 1) ∧ w' = W.setCell ⟨b, 0, none⟩ (.int .i64 1) := by
  go_enter Tryd.func48, Tryd.ntmps48
  go_wp2
  go_ret
  exact ⟨rfl, rfl⟩
set_option maxRecDepth 100000 in
set_option maxHeartbeats 1000000 in
theorem put_prog (w : World) (b : Nat) (h0 : w.cell? ⟨b, 0, none⟩ = some (.int .i64 0)) (h1 : w.cell? ⟨b, 1, none⟩ = some (.map none)) (hf : ∀ k, w.frozen? ⟨b, k, none⟩ = false) (hbl : b < w.heap.size) (hT : Lib.Utf8Tabs 0 1 w)
   (N : ∀ W, Calls Tryd.prog 22 #[.string ⟨#[97]⟩] W fun e w' => e = .returned (.bool true) ∧ W = w') :
    Calls Tryd.prog 24 #[.pointer (some ⟨b, 0, none⟩), .string ⟨#[97]⟩, .string ⟨#[120]⟩] w fun e w' => e = .returned (.int .i64 0) ∧ ∃ R, w'.cell? ⟨b, 0, none⟩ = some (.int .i64 1) ∧ w'.cell? ⟨b, 1, none⟩ = some (.map (some R)) ∧ w'.heap[R]? = some mapO ∧ ∀ B, B ≤ b → Below B w w' := by
  have NN := Lib.hid N
  have CC := Lib.hid (check_prog ⟨#[120]⟩)
  have TT := Lib.hid hT
  clear N hT
  go_enter Tryd.func24, Tryd.ntmps24
  go_wp2_with fail
  refine (NN.out _).mono ?_
  rintro e w1 ⟨rfl, rfl⟩
  go_wp2_with fail
  refine (CC.out _ TT.out).mono ?_
  rintro e w1 ⟨rfl, hb1⟩
  rw [show checkR ⟨#[120]⟩ = (0, 0) by decide +kernel]
  have k0 := cell_later hb1 h0
  have k1 := cell_later hb1 h1
  have kf : ∀ k, w1.frozen? ⟨b, k, none⟩ = false := fun k => (hb1.frozen (p := ⟨b, k, none⟩) hbl).trans (hf k)
  clear h0 h1 hf
  have hz : ∀ W, (zeroValue 45).run Tryd.prog W = .ok (.agg #[.string ⟨#[]⟩, .string ⟨#[]⟩, .int .i64 0]) W := fun _ => by kernel_rfl
  have hl : ∀ W, (Instr.lookup 50 (.map none) (.string ⟨#[97]⟩) true).run Tryd.prog W = .ok (.tuple #[.agg #[.string ⟨#[]⟩, .string ⟨#[]⟩, .int .i64 0], .bool false]) W := fun W => lookup_none W _ _ _ _ _ Tryd.underlying50 Tryd.underlying9 (hz W)
  clear hz
  have F0 := obj_keep w1 b (.cells #[.string ⟨#[]⟩, .string ⟨#[]⟩, .int .i64 0] 45) k0 k1 kf
  have G0 := obj_keep _ b (.map #[] 0) F0.1 F0.2.1 F0.2.2
  have hmm := @run_makeMap Tryd.prog
  have hme : ∀ W, (binOp .eql 50 (.map none) (.map none)).run Tryd.prog W = .ok (.bool true) W := fun _ => by kernel_rfl
  obtain ⟨c0, c1, cf⟩ := F0
  obtain ⟨d0, d1, df⟩ := G0
  have MM := Lib.hid (made w1 b k0 k1 kf)
  go_wp2_with fail
  change Code.wp _ _ _ _ (madeW w1 b)
  obtain ⟨m0, m1, m2, mf, mb, ml⟩ := MM.out
  clear c0 c1 cf d0 d1 df k0 k1 kf hl hmm hme
  obtain ⟨a1, a2, a3, a4, hmu, hbb⟩ := put_facts (madeW w1 b) b (w1.heap.size + 1) m0 m1 m2 mf (by omega)
  have e0 : (madeW w1 b).drew.cell? ⟨b, 0, none⟩ = some (.int .i64 0) := m0
  have e1 : (madeW w1 b).drew.cell? ⟨b, 1, none⟩ = some (.map (some (w1.heap.size + 1))) := m1
  have KC := Lib.hid (count_prog (madeW w1 b).drew b e0 (mf 0))
  have hmu2 : (Instr.mapUpdate 50 (.map (some (w1.heap.size + 1))) (.string ⟨#[97]⟩) (.agg #[.string ⟨#[97]⟩, .string ⟨#[120]⟩, .int .i64 1])).run Tryd.prog ((madeW w1 b).drew.setCell ⟨b, 0, none⟩ (.int .i64 1)) = .ok () (putW (madeW w1 b) b (w1.heap.size + 1)) := hmu
  have a12 : ((madeW w1 b).drew.setCell ⟨b, 0, none⟩ (.int .i64 1)).cell? ⟨b, 1, none⟩ = some (.map (some (w1.heap.size + 1))) := a1
  have hsd : ((madeW w1 b).setCell ⟨b, 0, none⟩ (.int .i64 1)).drew = (madeW w1 b).drew.setCell ⟨b, 0, none⟩ (.int .i64 1) := by unfold World.setCell; rfl
  rw [← hsd] at hmu2
  have a13 := a12
  rw [← hsd] at a13
  clear hmu a1 hsd
  have HA := Lib.hid a3
  have HD := Lib.hid a4
  have HE := Lib.hid hbb
  clear a3 a4 hbb m0 m1 m2 mf
  generalize hX : madeW w1 b = X at *
  generalize hR : w1.heap.size + 1 = R at *
  go_region_held3 (fun w' => w'.cell? ⟨b, 1, none⟩ = some (.map (some R))) (first | exact e1 | exact a12 | exact a13 | exact a2) (first
    | (go_at_call 48; refine KC.out.mono ?_; rintro e w' ⟨rfl, rfl⟩))
  go_wp2_with fail
  go_ret
  exact ⟨rfl, R, HA.out, a2, HD.out, fun B hB => (hb1.mono (by omega)).trans ((mb B hB).trans (HE.out B hB))⟩

set_option maxRecDepth 100000 in
set_option maxHeartbeats 1000000 in
theorem get_prog (w : World) (b R : Nat) (h1 : w.cell? ⟨b, 1, none⟩ = some (.map (some R))) (hm : w.heap[R]? = some mapO) :
    Calls Tryd.prog 28 #[.pointer (some ⟨b, 0, none⟩), .string ⟨#[97]⟩] w fun e w' => e = .returned (.tuple #[fileV, .int .i64 0]) ∧ Below w.heap.size w w' := by
  have hb : Below w.heap.size w (w.alloc fileO) := (Below.refl w.heap.size w).alloc (Nat.le_refl _) fileO
  have hRl : R < w.heap.size := by
    rcases Nat.lt_or_ge R w.heap.size with h | h
    · exact h
    · rw [Array.getElem?_eq_none h] at hm; cases hm
  have hm2 : (w.alloc fileO).heap[R]? = some mapO := (hb.block R hRl).trans hm
  have hl : (Instr.lookup 50 (.map (some R)) (.string ⟨#[97]⟩) true).run Tryd.prog (w.alloc (.cells #[.string ⟨#[]⟩, .string ⟨#[]⟩, .int .i64 0] 45)) = .ok (.tuple #[.agg #[.string ⟨#[97]⟩, .string ⟨#[120]⟩, .int .i64 1], .bool true]) (w.alloc (.cells #[.string ⟨#[]⟩, .string ⟨#[]⟩, .int .i64 0] 45)) := lookup_one (P := Tryd.prog) (w.alloc fileO) _ _ _ fileV ⟨#[97]⟩ R 0 1 (by decide) Tryd.underlying50 Tryd.underlying9 hm2
  have h2 : (w.alloc (.cells #[.string ⟨#[]⟩, .string ⟨#[]⟩, .int .i64 0] 45)).cell? ⟨b, 1, none⟩ = some (.map (some R)) := cell_later hb h1
  clear hm hm2 h1
  go_enter Tryd.func28, Tryd.ntmps28
  go_wp2_with fail
  exact bodyPost_ret (v := .tuple #[fileV, .int .i64 0]) (by simp [results, Tryd.results28, go_sem, fileV]) rfl ⟨rfl, ((Below.refl w.heap.size w).alloc (Nat.le_refl _) _).alloc (by simp) _⟩
theorem rev_prog (w : World) (b : Nat) (h0 : w.cell? ⟨b, 0, none⟩ = some (.int .i64 1)) :
    Calls Tryd.prog 19 #[.pointer (some ⟨b, 0, none⟩)] w fun e w' => e = .returned (.int .i64 1) ∧ Below w.heap.size w w' := by
  go_enter Tryd.func19, Tryd.ntmps19
  go_wp2
  go_ret
  exact ⟨rfl, Below.refl _ _⟩
theorem new_prog (w : World) :
    Calls Tryd.prog 17 #[] w fun e w' => e = .returned (.pointer (some ⟨w.heap.size, 0, none⟩)) ∧ w' = w.alloc (.cells #[.int .i64 0, .map none] 52) := by
  go_enter Tryd.func17, Tryd.ntmps17
  go_wp2
  go_ret
  exact ⟨rfl, rfl⟩
end Go.Proofs.YtlgklkokadbpeaaDoor
