import Derived.Test.YteghbblbkljdhaaDoorGsD
namespace Go.Proofs.YteghbblbkljdhaaDoor
open Go.RowKit
set_option maxRecDepth 100000 in
set_option maxHeartbeats 16000000 in
theorem nil_walk {W : World} {n t : ByteArray} (hT : TabG W) (hTl : ∀ k, Table k → k < W.heap.size) (hn : n.size ≤ 1000000000000000) (_ht : t.size ≤ 1000000000000000) :
    Calls Tryd.prog 6 #[.string n, .string t] W fun e W' => e = .returned (.bool true) ∧ Below W.heap.size W W' := by
  have AW := Lib.hid (fun wx (hb : Below W.heap.size W wx) => awake_true wx (tab_keep hT fun g hg => hb.block g (hTl g hg)) (fun k hk => Nat.lt_of_lt_of_le (hTl k hk) hb.size))
  have hnm : n.size ≤ maxLen := Nat.le_trans hn (by decide)
  have B0 := Lib.hid (Below.refl W.heap.size W)
  have HNm := Lib.hid hnm
  clear hT hTl hn hnm
  by_cases hbig : 262144 < t.size
  · have tb : decide ((262144 : Int) < (t.size : Int)) = true := by simp; omega
    clear hbig
    go_enter Tryd.func6, Tryd.ntmps6
    go_wp2_with fail
    refine (AW.out _ B0.out).mono ?_
    rintro e w1 ⟨rfl, hb1⟩
    have B1 := Lib.hid hb1
    clear hb1
    go_wp2_with fail
    refine (AW.out _ B1.out).mono ?_
    rintro e w2 ⟨rfl, hb2⟩
    go_wp2_with fail
    go_ret
    exact ⟨rfl, below_step B1.out hb2⟩
  · have tb : decide ((262144 : Int) < (t.size : Int)) = false := by simp; omega
    have HTs := Lib.hid (show t.size ≤ 262144 by omega)
    have st : (t.toList == t.toList) = true := by simp
    clear hbig
    go_enter Tryd.func6, Tryd.ntmps6
    go_wp2_with fail
    refine (AW.out _ B0.out).mono ?_
    rintro e w1 ⟨rfl, hb1⟩
    have B1 := Lib.hid hb1
    clear hb1
    go_wp2_with fail
    refine (Ask_nil n _).mono ?_
    rintro e wa ⟨rfl, rfl⟩
    have hG := heap_alloc_new wa (.cells #[.map none, .map none, .int .i64 0, .int .i64 0] 51)
    have KA := Lib.hid (Ask_zero (a := n) (I := none) (t := ⟨#[]⟩) (f := false) (Lib.cell_of_heap hG 0) (Lib.cell_of_heap hG 1) (fun w' _ => outMK.nil2 w' n))
    have HGb := Lib.hid hG
    clear hG
    go_wp2_with fail
    refine KA.out.mono ?_
    rintro e w2 ⟨rfl, hb2⟩
    have hG2 := (hb2.block _ (by simp)).trans HGb.out
    have B2 := Lib.hid (below_step (B1.out.alloc B1.out.size (.cells #[.map none, .map none, .int .i64 0, .int .i64 0] 51)) hb2)
    have KS := Lib.hid (Set_zero (t := t) hG2 HNm.out HTs.out)
    have HS2 := Lib.hid (show wa.heap.size < w2.heap.size by have := hb2.size; simp at this; omega)
    clear hG2 hb2 KA HGb
    go_wp2_with fail
    refine KS.out.mono ?_
    rintro e w3 ⟨rfl, hG3, hm3, hb3⟩
    have B3 := Lib.hid (B2.out.trans (hb3 _ B1.out.size))
    have KA := Lib.hid (Ask_zero (a := n) (t := t) (f := true) (Lib.cell_of_heap hG3 0) (Lib.cell_of_heap hG3 1) (fun w' hb => by
      have := (hm3.later hb).look2 n HNm.out
      unfold updF at this
      rw [if_pos rfl] at this
      exact this))
    have HG3 := Lib.hid hG3
    clear hG3 hm3 hb3 KS
    go_wp2_with fail
    refine KA.out.mono ?_
    rintro e w4 ⟨rfl, hb4⟩
    have hG4 := (hb4.block _ (blk_lt HG3.out)).trans HG3.out
    have B4 := Lib.hid (below_step B3.out hb4)
    have KR := Lib.hid (Runs_zero (w := w4) (Lib.cell_of_heap hG4 3))
    clear hb4 hG4 KA HG3
    go_wp2_with fail
    refine (Set_nil n t _).mono ?_
    rintro e w4' ⟨rfl, rfl⟩
    go_wp2_with fail
    refine (Runs_nil _).mono ?_
    rintro e w4' ⟨rfl, rfl⟩
    go_wp2_with fail
    refine (Ran_nil n _).mono ?_
    rintro e w4' ⟨rfl, rfl⟩
    go_wp2_with fail
    refine KR.out.mono ?_
    rintro e w4' ⟨rfl, rfl⟩
    go_wp2_with fail
    go_ret
    exact ⟨rfl, B4.out⟩
end Go.Proofs.YteghbblbkljdhaaDoor
