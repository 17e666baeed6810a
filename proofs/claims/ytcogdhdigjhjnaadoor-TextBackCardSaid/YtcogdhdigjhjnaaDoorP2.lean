import Derived.Test.YtcogdhdigjhjnaaDoorP1
namespace Go.Proofs.YtcogdhdigjhjnaaDoor
open Go.RowKit
theorem starts_zero (s : ByteArray) : (startsN s s.size).getD 0 0 = 0 := by
  obtain ⟨m, e, _⟩ := starts_pre s 0 s.size (Nat.zero_le _)
  rw [e]; rfl
set_option maxRecDepth 100000 in
set_option maxHeartbeats 400000 in
theorem back_walk (s : ByteArray) (w : World) (hT : Lib.Utf8Tabs 0 1 w) :
    Calls Tryd.prog 5 #[.string s] w fun e w' => e = .returned (.bool true) ∧ Below w.heap.size w w' := by
  have T := Lib.hid hT
  clear hT
  by_cases hs : 2000 < s.size
  · go_enter Tryd.func5, Tryd.ntmps5
    go_wp2_with fail
    refine (awake_step T.out (Below.refl _ _)).mono ?_
    rintro e w1 ⟨rfl, hb1⟩
    go_wp2_with fail
    refine (awake_step T.out hb1).mono ?_
    rintro e w2 ⟨rfl, hb2⟩
    go_wp2_with fail
    go_ret
    exact ⟨rfl, below_step hb1 hb2⟩
  · go_enter Tryd.func5, Tryd.ntmps5
    go_wp2_with fail
    refine (awake_step T.out (Below.refl _ _)).mono ?_
    rintro e w1 ⟨rfl, hb1⟩
    have HB1 := Lib.hid hb1
    clear hb1
    go_wp2_with fail
    refine (lines_prog' s w1 (by omega)).mono ?_
    rintro e w2 ⟨g, d, rfl, hL⟩
    have hbd := lineN_bd s s.size
    have f0 := hL.cell 0 (by omega)
    rw [starts_zero] at f0
    have hcp := hL.len
    have HL := Lib.hid hL
    have hpos : (0 : Int) < (lineN s s.size : Int) := by omega
    have hne : ((lineN s s.size : Int) == 0) = false := by simp; omega
    clear hL
    go_wp2_with fail
    clear f0
    go_loopw [4] (fun i wr => (∃ k : Nat, k ≤ s.size + 1 ∧ i = .int .i64 k) ∧ Below w2.heap.size w2 wr) (fun i _ => s.size + 1 - (intOf i).toNat)
    case atStart => exact ⟨⟨0, by omega, by go_num⟩, Below.refl _ _⟩
    case round =>
      obtain ⟨⟨k, hk, rfl⟩, hB⟩ := hrel
      have HB := Lib.hid hB
      clear hB
      by_cases hlt : k ≤ s.size
      · have hl := lineN_bd s k
        have hc := colN_bd s k
        have hm := lineN_mono s k s.size hlt
        have hst := starts_at s k s.size hlt
        have hcell := HL.out.cell (lineN s k - 1) (by omega)
        rw [List.getD_eq_getElem?_getD, hst] at hcell
        have hcell2 := (HB.out.cell (p := ⟨g, lineN s k - 1, none⟩) HL.out.high).trans hcell
        have hcell3 : wr.cell? ⟨g, lineN s k - 1, none⟩ = some (.int .i64 ((k : Int) + 1 - colN s k)) := by
          rw [hcell2]; simp; omega
        have HC := Lib.hid hcell3
        have HK := Lib.hid hk
        clear hcell hcell2 hcell3 hst
        go_wp2_with fail
        refine (where_prog s k wr (by omega) hlt).mono ?_
        rintro e w3 ⟨rfl, rfl⟩
        go_wp2_with fail
        refine (at_prog s (lineN s k) (colN s k) wr (by omega) (by omega) (by omega) (by omega) (by omega)).mono ?_
        rintro e w4 ⟨p, q, rfl, hA, hb4⟩
        obtain ⟨rfl, rfl⟩ := AtR_one hA (.inl ⟨k, ⟨hlt, rfl, rfl⟩, rfl, rfl⟩)
        have f1 := (hb4.cell (p := ⟨g, lineN s k - 1, none⟩) (by have := HL.out.high; have := HB.out.size; show g < _; omega)).trans HC.out
        have HB4 := Lib.hid (below_step HB.out hb4)
        clear hA hb4
        obtain ⟨l, hlq⟩ : ∃ l : Nat, lineN s k = l + 1 := ⟨lineN s k - 1, by omega⟩
        rw [hlq] at f1 hl hm ⊢
        have e1 : l + 1 - 1 = l := by omega
        rw [e1] at f1
        clear e1 hlq
        have t1 : (((k : Int)) != (k : Int)) = false := by simp
        go_wp2_with fail
        go_roundw
        case rel => exact ⟨⟨k + 1, by omega, by go_num⟩, HB4.out⟩
        case measure => simp [intOf]; omega
      · obtain rfl : k = s.size + 1 := by omega
        go_wp2_with fail
        go_ret
        exact ⟨rfl, below_step (below_step HB1.out HL.out.below) HB.out⟩
end Go.Proofs.YtcogdhdigjhjnaaDoor
