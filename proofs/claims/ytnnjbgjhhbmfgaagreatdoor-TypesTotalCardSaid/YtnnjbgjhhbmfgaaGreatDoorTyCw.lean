import Derived.Test.YtnnjbgjhhbmfgaaGreatDoorTyBw
namespace Go.Proofs.YtnnjbgjhhbmfgaaGreatDoor
open Go.RowKit
set_option maxRecDepth 100000 in
set_option maxHeartbeats 16000000 in
theorem awake_any (w : World) : Calls Tryz.prog 4 #[] w fun e w' => e = .returned (.bool true) ∧ Below w.heap.size w w' := by
  have KU : Hid (∀ wx : World, Calls Tryz.prog 7 #[.slice (some ⟨wx.heap.size, 0, none⟩) 3 3] (wx.alloc (.cells #[.int .i64 7, .string ⟨#[]⟩, .int .i64 0, .slice none 0 0, .slice none 0 0, .slice none 0 0, .int .i64 9, .string ⟨#[]⟩, .int .i64 5, .slice none 0 0, .slice none 0 0, .slice none 0 0, .int .i64 4, .string ⟨#[]⟩, .int .i64 0, .slice none 0 0, .slice none 0 0, .slice none 0 0] 26)) fun e w' => ∃ A c A' c' A'' c'', e = .returned (.agg #[.int .i64 15, .string ⟨#[]⟩, .int .i64 0, .slice A 2 c, .slice A' 0 c', .slice A'' 0 c'']) ∧ (∃ K, RepT K w' nnT [.int .i64 15, .string ⟨#[]⟩, .int .i64 0, .slice A 2 c, .slice A' 0 c', .slice A'' 0 c'']) ∧ Below wx.heap.size wx w') := Lib.hid fun wx => by
    generalize hV : wx.alloc (.cells #[.int .i64 7, .string ⟨#[]⟩, .int .i64 0, .slice none 0 0, .slice none 0 0, .slice none 0 0, .int .i64 9, .string ⟨#[]⟩, .int .i64 5, .slice none 0 0, .slice none 0 0, .slice none 0 0, .int .i64 4, .string ⟨#[]⟩, .int .i64 0, .slice none 0 0, .slice none 0 0, .slice none 0 0] 26) = W
    have hrow : W.heap[wx.heap.size]? = some (.cells #[.int .i64 7, .string ⟨#[]⟩, .int .i64 0, .slice none 0 0, .slice none 0 0, .slice none 0 0, .int .i64 9, .string ⟨#[]⟩, .int .i64 5, .slice none 0 0, .slice none 0 0, .slice none 0 0, .int .i64 4, .string ⟨#[]⟩, .int .i64 0, .slice none 0 0, .slice none 0 0, .slice none 0 0] 26 (0, 0)) := by rw [← hV]; exact heap_alloc_new wx _
    have hbW : Below wx.heap.size wx W := by rw [← hV]; exact (Below.refl _ _).alloc (Nat.le_refl _) _
    have hlt : wx.heap.size < W.heap.size := by rw [← hV]; simp
    have hL : ListT (fun b => b < W.heap.size) W [tyK 7, .mk 9 emptyB 5 [] [] [], tyK 4] (some ⟨wx.heap.size, 0, none⟩) 3 := by
      refine ⟨wx.heap.size, 0, ⟨by simp, by decide, (fun h => by cases h), fun _ => ⟨rfl, hlt⟩⟩, fun i hi => ?_⟩
      match i, hi with
      | 0, _ =>
        refine ⟨_, fun j u hj => ?_, rep_leaf _ _ 7 0⟩
        rw [cell_of_row _ _ _ _ _ _ hrow]
        match j, hj with
        | 0, h => exact h
        | 1, h => exact h
        | 2, h => exact h
        | 3, h => exact h
        | 4, h => exact h
        | 5, h => exact h
        | n + 6, h => cases h
      | 1, _ =>
        refine ⟨_, fun j u hj => ?_, rep_leaf _ _ 9 5⟩
        rw [cell_of_row _ _ _ _ _ _ hrow]
        match j, hj with
        | 0, h => exact h
        | 1, h => exact h
        | 2, h => exact h
        | 3, h => exact h
        | 4, h => exact h
        | 5, h => exact h
        | n + 6, h => cases h
      | 2, _ =>
        refine ⟨_, fun j u hj => ?_, rep_leaf _ _ 4 0⟩
        rw [cell_of_row _ _ _ _ _ _ hrow]
        match j, hj with
        | 0, h => exact h
        | 1, h => exact h
        | 2, h => exact h
        | 3, h => exact h
        | 4, h => exact h
        | 5, h => exact h
        | n + 6, h => cases h
    have hfl : (flatU [tyK 7, .mk 9 emptyB 5 [] [] [], tyK 4]).length ≤ 1099511627776 := by
      unfold tyK
      rw [flatU_cons, flatU_cons, flatU_cons, parts1_mk, parts1_mk, parts1_mk]
      decide
    refine (union_all hL hfl (fun _ h => h)).mono ?_
    rintro e w' ⟨cs, rfl, hrep, hb⟩
    rw [union_nn] at hrep
    obtain ⟨A, c, A', c', A'', c'', rfl, -, -⟩ := RepT.inv hrep
    exact ⟨A, c, A', c', A'', c'', rfl, ⟨_, hrep⟩, below_then hbW hb⟩
  have KT : Hid (∀ (K : Nat → Prop) (wx : World) (A A' A'' : Option Addr) (c c' c'' : Nat), RepT K wx nnT [.int .i64 15, .string ⟨#[]⟩, .int .i64 0, .slice A 2 c, .slice A' 0 c', .slice A'' 0 c''] → ∀ wy, Below wx.heap.size wx wy → Calls Tryz.prog 9 #[.agg #[.int .i64 15, .string ⟨#[]⟩, .int .i64 0, .slice A 2 c, .slice A' 0 c', .slice A'' 0 c'']] wy fun e w' => e = .returned (.tuple #[.string ⟨#[110, 117, 108, 108, 32, 124, 32, 110, 117, 109, 98, 101, 114]⟩, .int .i64 0]) ∧ Below wy.heap.size wy w') := Lib.hid fun K wx A A' A'' c c' c'' h wy hy => text_nn (h.later hy)
  have KO : Hid (∀ wx : World, Calls Tryz.prog 6 #[.agg #[.int .i64 4, .string ⟨#[]⟩, .int .i64 0, .slice none 0 0, .slice none 0 0, .slice none 0 0], .agg #[.int .i64 7, .string ⟨#[]⟩, .int .i64 0, .slice none 0 0, .slice none 0 0, .slice none 0 0]] wx fun e w' => e = .returned (.int .i64 (-1)) ∧ Gw wx w') := Lib.hid fun wx => by
    have h := Order_any (rep_leaf (fun _ => True) wx 4 0) (rep_leaf (fun _ => True) wx 7 0)
    rw [ord_kind (by decide)] at h
    exact h
  go_enter Tryz.func4, Tryz.ntmps4
  go_wp2_with fail
  refine (of_any 7 _).mono ?_
  rintro e w1 ⟨rfl, hb1⟩
  have HB1 := Lib.hid hb1.below
  clear hb1
  go_wp2_with fail
  refine (of_any 4 _).mono ?_
  rintro e w2 ⟨rfl, hb2⟩
  have HB2 := Lib.hid (below_then HB1.out hb2.below)
  clear hb2
  go_wp2_with fail
  refine (KU.out _).mono ?_
  rintro e w3 ⟨A, c, A', c', A'', c'', rfl, ⟨K, hrep⟩, hb3⟩
  have HB3 := Lib.hid (below_then HB2.out hb3)
  have hba : ∀ o, Below w3.heap.size w3 (w3.alloc o) := fun o => (Below.refl _ _).alloc (Nat.le_refl _) _
  have KT3 := Lib.hid (KT.out K w3 A A' A'' c c' c'' hrep)
  have HBA := Lib.hid hba
  clear hrep hb3 hba KT KU
  go_wp2_with fail
  refine (KT3.out _ (HBA.out _)).mono ?_
  rintro e w4 ⟨rfl, hb4⟩
  have HB4 := Lib.hid (below_then (below_then HB3.out (HBA.out _)) hb4)
  clear hb4 KT3
  go_wp2_with fail
  refine (of_any 4 _).mono ?_
  rintro e w5 ⟨rfl, hb5⟩
  have HB5 := Lib.hid (below_then HB4.out hb5.below)
  clear hb5
  go_wp2_with fail
  refine (of_any 7 _).mono ?_
  rintro e w6 ⟨rfl, hb6⟩
  have HB6 := Lib.hid (below_then HB5.out hb6.below)
  clear hb6
  go_wp2_with fail
  refine (KO.out _).mono ?_
  rintro e w7 ⟨rfl, hb7⟩
  have HB7 := Lib.hid (below_then HB6.out hb7.below)
  clear hb7
  go_wp2_with fail
  go_ret
  exact ⟨rfl, HB7.out⟩
end Go.Proofs.YtnnjbgjhhbmfgaaGreatDoor
