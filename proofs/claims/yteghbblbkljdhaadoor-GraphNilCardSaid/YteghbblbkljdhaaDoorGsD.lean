import Derived.Test.YteghbblbkljdhaaDoorGsA
namespace Go.Proofs.YteghbblbkljdhaaDoor
open Go.RowKit
theorem nilG_yes (w : World) : (binOp .eql 26 (.pointer none) (.pointer none)).run Tryd.prog w = .ok (.bool true) w := by kernel_rfl
theorem nilG_no (x : Nat) (w : World) : (binOp .eql 26 (.pointer (some ⟨x, 0, none⟩)) (.pointer none)).run Tryd.prog w = .ok (.bool false) w := by kernel_rfl
theorem Ask_nil (a : ByteArray) (w : World) : Calls Tryd.prog 16 #[.pointer none, .string a] w fun e w' => e = .returned (.tuple #[.string ⟨#[]⟩, .int .i64 3]) ∧ w' = w := by
  have ny := nilG_yes
  go_enter Tryd.func16, Tryd.ntmps16
  go_wp2_with fail
  go_ret2
  exact ⟨rfl, rfl⟩
theorem Set_nil (a t : ByteArray) (w : World) : Calls Tryd.prog 15 #[.pointer none, .string a, .string t] w fun e w' => e = .returned (.int .i64 3) ∧ w' = w := by
  have ny := nilG_yes
  go_enter Tryd.func15, Tryd.ntmps15
  go_wp2_with fail
  go_ret
  exact ⟨rfl, rfl⟩
theorem Runs_nil (w : World) : Calls Tryd.prog 17 #[.pointer none] w fun e w' => e = .returned (.int .i64 0) ∧ w' = w := by
  have ny := nilG_yes
  go_enter Tryd.func17, Tryd.ntmps17
  go_wp2_with fail
  go_ret
  exact ⟨rfl, rfl⟩
theorem Ran_nil (a : ByteArray) (w : World) : Calls Tryd.prog 22 #[.pointer none, .string a] w fun e w' => e = .returned (.int .i64 0) ∧ w' = w := by
  have ny := nilG_yes
  go_enter Tryd.func22, Tryd.ntmps22
  go_wp2_with fail
  go_ret
  exact ⟨rfl, rfl⟩
theorem Runs_zero {G : Nat} {w : World} (h : w.cell? ⟨G, 3, none⟩ = some (.int .i64 0)) : Calls Tryd.prog 17 #[.pointer (some ⟨G, 0, none⟩)] w fun e w' => e = .returned (.int .i64 0) ∧ w' = w := by
  have nn := nilG_no
  go_enter Tryd.func17, Tryd.ntmps17
  go_wp2_with fail
  go_ret
  exact ⟨rfl, rfl⟩
set_option maxRecDepth 100000 in
set_option maxHeartbeats 8000000 in
theorem ask_zero {W : World} {G : Nat} {I : Option Nat} {a t : ByteArray} {f : Bool} (hg0 : W.cell? ⟨G, 0, none⟩ = some (.map none)) (hg1 : W.cell? ⟨G, 1, none⟩ = some (.map I))
    (hl : ∀ w', Below W.heap.size W w' → (Instr.lookup 49 (.map I) (.string a) true).run Tryd.prog w' = .ok (.tuple #[.agg #[.string t, .int .i64 0], .bool f]) w') :
    Calls Tryd.prog 36 #[.pointer (some ⟨G, 0, none⟩), .string a] W fun e W' => e = .returned (.agg #[.string (if f then t else ⟨#[]⟩), .int .i64 (if f then 0 else 3)]) ∧ Below W.heap.size W W' := by
  have hb1 : Below W.heap.size W (W.alloc (.cells #[.string ⟨#[]⟩, .int .i64 0] 78)) := (Below.refl _ _).alloc (Nat.le_refl _) _
  have lo : ∀ w, (Instr.lookup 48 (.map none) (.string a) false).run Tryd.prog w = .ok (.pointer none) w := fun w => nodeMK.nil1 w a
  have g0 : (W.alloc (.cells #[.string ⟨#[]⟩, .int .i64 0] 78)).cell? ⟨G, 0, none⟩ = some (.map none) := cell_alloc_of _ hg0
  have g1 : ∀ o, ((W.alloc (.cells #[.string ⟨#[]⟩, .int .i64 0] 78)).alloc o).cell? ⟨G, 1, none⟩ = some (.map I) := fun o => cell_alloc_of _ (cell_alloc_of _ hg1)
  have l2 := fun o => hl _ (hb1.alloc (by simp) o)
  have nq := nil_eql none
  clear hl hb1 hg0 hg1
  cases f with
  | true =>
    go_enter_defers Tryd.func36, Tryd.ntmps36
    go_wp2_with fail
    have hb := (((Below.refl W.heap.size W).alloc (Nat.le_refl _) (.cells #[.string t, .int .i64 0] 78)).alloc (by simp) (.cells #[.pointer none] 74)).alloc (by simp; omega) (.cells #[.string t, .int .i64 0] 78)
    exact ⟨.agg #[.string t, .int .i64 0], by simp [results, Tryd.results36, go_sem], rfl, hb⟩
  | false =>
    go_enter_defers Tryd.func36, Tryd.ntmps36
    go_wp2_with fail
    have hb := (((Below.refl W.heap.size W).alloc (Nat.le_refl _) (.cells #[.string ⟨#[]⟩, .int .i64 3] 78)).alloc (by simp) (.cells #[.pointer none] 74)).alloc (by simp; omega) (.cells #[.string t, .int .i64 0] 78)
    exact ⟨.agg #[.string ⟨#[]⟩, .int .i64 3], by simp [results, Tryd.results36, go_sem], rfl, hb⟩
set_option maxRecDepth 100000 in
set_option maxHeartbeats 8000000 in
theorem Ask_zero {W : World} {G : Nat} {I : Option Nat} {a t : ByteArray} {f : Bool} (hg0 : W.cell? ⟨G, 0, none⟩ = some (.map none)) (hg1 : W.cell? ⟨G, 1, none⟩ = some (.map I))
    (hl : ∀ w', Below W.heap.size W w' → (Instr.lookup 49 (.map I) (.string a) true).run Tryd.prog w' = .ok (.tuple #[.agg #[.string t, .int .i64 0], .bool f]) w') :
    Calls Tryd.prog 16 #[.pointer (some ⟨G, 0, none⟩), .string a] W fun e W' => e = .returned (.tuple #[.string (if f then t else ⟨#[]⟩), .int .i64 (if f then 0 else 3)]) ∧ Below W.heap.size W W' := by
  have K := ask_zero hg0 hg1 hl
  have nn := nilG_no
  generalize (if f then t else ⟨#[]⟩) = x at K ⊢
  generalize (if f then (0 : Int) else 3) = y at K ⊢
  clear hl hg0 hg1
  go_enter Tryd.func16, Tryd.ntmps16
  go_wp2_with fail
  refine K.mono ?_
  rintro e W2 ⟨rfl, hb2⟩
  have HB := Lib.hid hb2
  clear hb2
  go_wp2_with fail
  go_quiet (fail)
  go_wp2_with fail
  go_ret2
  exact ⟨rfl, below_drewN (HB.out.alloc HB.out.size _) _⟩
set_option maxRecDepth 100000 in
set_option maxHeartbeats 8000000 in
theorem Set_zero {W : World} {G : Nat} {n t : ByteArray} (hG : W.heap[G]? = some (.cells #[.map none, .map none, .int .i64 0, .int .i64 0] 51 (0, 0))) (hn : n.size ≤ maxLen) (ht : t.size ≤ 262144) :
    Calls Tryd.prog 15 #[.pointer (some ⟨G, 0, none⟩), .string n, .string t] W fun e W' => e = .returned (.int .i64 0) ∧ W'.heap[G]? = some (.cells #[.map none, .map (some W.heap.size), .int .i64 1, .int .i64 0] 51 (0, 0)) ∧ MapIs outMK W' W.heap.size 1 (updF (fun _ => none) n ⟨t, 0⟩) ∧ ∀ B, B ≤ G → Below B W W' := by
  have nn := nilG_no
  have nq : ∀ (p : Option Addr) (w : World), (binOp .neq 74 (.pointer p) (.pointer none)).run Tryd.prog w = .ok (.bool p.isSome) w := fun p w => by cases p <;> kernel_rfl
  have mq : ∀ (p : Option Nat) (w : World), (binOp .eql 49 (.map p) (.map none)).run Tryd.prog w = .ok (.bool p.isNone) w := fun p w => by cases p <;> kernel_rfl
  have lo : ∀ w, (Instr.lookup 48 (.map none) (.string n) false).run Tryd.prog w = .ok (.pointer none) w := fun w => nodeMK.nil1 w n
  have g0 : W.cell? ⟨G, 0, none⟩ = some (.map none) := Lib.cell_of_heap hG 0
  have g1 : W.cell? ⟨G, 1, none⟩ = some (.map none) := Lib.cell_of_heap hG 1
  have zg := Lib.frozen_of_heap hG
  have tb : decide ((262144 : Int) < (t.size : Int)) = false := by simp; omega
  have gl := blk_lt hG
  obtain ⟨w3, hrun, hmap, hgr⟩ := MapIs.put (M := outMK) (W := (W.setCell ⟨G, 1, none⟩ (.map (some W.heap.size))).alloc (.map #[] 0)) (b := W.heap.size) (by have := MapIs.new outMK (W.setCell ⟨G, 1, none⟩ (.map (some W.heap.size))); rw [set_size] at this; exact this) (by decide) n hn ⟨t, 0⟩
  have hrun : (Instr.mapUpdate 49 (.map (some W.heap.size)) (.string n) (.agg #[.string t, .int .i64 0])).run Tryd.prog ((W.setCell ⟨G, 1, none⟩ (.map (some W.heap.size))).alloc (.map #[] 0)) = .ok () w3 := hrun
  have hx : ((W.setCell ⟨G, 1, none⟩ (.map (some W.heap.size))).alloc (.map #[] 0)).heap[G]? = some (.cells #[.map none, .map (some W.heap.size), .int .i64 0, .int .i64 0] 51 (0, 0)) := by
    rw [((Below.refl (W.setCell ⟨G, 1, none⟩ (.map (some W.heap.size))).heap.size (W.setCell ⟨G, 1, none⟩ (.map (some W.heap.size)))).alloc (Nat.le_refl _) (.map #[] 0)).block _ (by rw [set_size]; exact gl), set_block hG]
    rfl
  have m1 : ((W.setCell ⟨G, 1, none⟩ (.map (some W.heap.size))).alloc (.map #[] 0)).cell? ⟨G, 1, none⟩ = some (.map (some W.heap.size)) := Lib.cell_of_heap hx 1
  have gm : (W.alloc (.map #[] 0)).cell? ⟨G, 1, none⟩ = some (.map none) := cell_alloc_of _ g1
  have gmz : ∀ o, (W.alloc (.map #[] 0)).frozen? ⟨G, o, none⟩ = false := fun o => by
    have h1 : (W.alloc (.map #[] 0)).heap[G]? = some (.cells #[.map none, .map none, .int .i64 0, .int .i64 0] 51 (0, 0)) := by
      rw [((Below.refl W.heap.size W).alloc (Nat.le_refl _) (.map #[] 0)).block _ gl]; exact hG
    exact Lib.frozen_of_heap h1 o
  have hg3 : w3.heap[G]? = some (.cells #[.map none, .map (some W.heap.size), .int .i64 0, .int .i64 0] 51 (0, 0)) := by
    rw [hgr.block _ (by simp; omega) (fun e => by injection e; omega)]
    exact hx
  have x2 : w3.cell? ⟨G, 2, none⟩ = some (.int .i64 0) := Lib.cell_of_heap hg3 2
  have x2z := Lib.frozen_of_heap hg3
  have hmm := @run_makeMap Tryd.prog
  have HX := Lib.hid (And.intro hg3 (And.intro hmap (And.intro hgr gl)))
  clear hg3 hmap hgr hx hG ht hn
  go_enter Tryd.func15, Tryd.ntmps15
  go_wp2_with fail
  go_ret
  obtain ⟨hg3, hmap, hgr, hgl⟩ := HX.out
  refine ⟨rfl, by rw [set_block hg3]; rfl, hmap.keep (set_else _ (by omega)), fun B hB => ?_⟩
  refine ((((Below.refl B W).setCell (p := ⟨G, 1, none⟩) hB _).alloc (by rw [set_size]; omega) (.map #[] 0)).grown hgr (by simp; omega) (fun k hk => by injection hk with hk; omega)).setCell (p := ⟨G, 2, none⟩) hB _
end Go.Proofs.YteghbblbkljdhaaDoor
