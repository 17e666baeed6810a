import Derived.Test.YtlgklkokadbpeaaDoorScL
namespace Go.Proofs.YtlgklkokadbpeaaDoor
open Go.RowKit
theorem many_push (k : Nat) : List.replicate (k + 1) (59 : UInt8) = List.replicate k 59 ++ [59] := List.replicate_succ'
theorem strC (s : ByteArray) : Lib.strCells s = bvals s.data.toList := rfl
set_option maxRecDepth 100000 in
set_option maxHeartbeats 2000000 in
theorem many_walk (x : Int) (s : ByteArray) (w : World) (h0 : 0 ≤ x) (h1 : x ≤ 255) (hM : HasMax w) (hE : HasErrs w) :
    Calls Tryd.prog 14 #[.int .u8 x, .string s] w (LawPost w) := by
  obtain ⟨i0, hi, hz0, hz1, hz2⟩ := info_parts info5
  have KA := Lib.hid (awake_true w hM hE)
  by_cases hbig : 100 < s.size
  · go_enter Tryd.func14, Tryd.ntmps14
    go_wp2_with fail
    refine KA.out.mono ?_
    rintro e w1 ⟨rfl, hb⟩
    have KA2 := Lib.hid (awake_true w1 (max_below hM hb) (errs_below hE hb))
    have HB := Lib.hid hb
    clear hb
    go_wp2_with fail
    refine KA2.out.mono ?_
    rintro e w2 ⟨rfl, hb2⟩
    have HB2 := Lib.hid hb2
    clear hb2
    go_wp2_with fail
    go_ret
    exact ⟨rfl, below_step HB.out HB2.out⟩
  · obtain ⟨m, hm1, hm2⟩ : ∃ m : Nat, (m : Int) ≤ 20000 - x % 3 ∧ 20000 - x % 3 ≤ (m : Int) := ⟨(20000 - x % 3).toNat, by omega, by omega⟩
    have hmlt : m ≤ 20000 := by omega
    go_enter Tryd.func14, Tryd.ntmps14
    go_wp2_with fail
    refine KA.out.mono ?_
    rintro e w1 ⟨rfl, hb⟩
    have hM1 := Lib.hid (max_below hM hb)
    have hE1 := Lib.hid (errs_below hE hb)
    have HB := Lib.hid hb
    clear hb
    go_wp2_with fail
    go_loopw [5, 6] (fun v i wr => ∃ k : Nat, k ≤ m ∧ i = .int .i64 k ∧ wr.ownsRow w1.heap.size 5 1 v (List.replicate k (59 : UInt8)).length (bvals (List.replicate k 59)) ∧ Below w1.heap.size w1 wr) (fun _ i _ => m - (intOf i).toNat)
    case atStart => exact ⟨0, by omega, by go_num, World.ownsRow_nil _ _ _ _, Below.refl _ _⟩
    case round =>
      obtain ⟨k, hk, rfl, hown, hB⟩ := hrel
      have HB1 := Lib.hid hB
      have hsz := hB.size
      clear hB
      have hln : (List.replicate k (59 : UInt8)).length = k := List.length_replicate
      by_cases hlt : k < m
      · have HN := Lib.hid (many_push k)
        have HL := Lib.hid hln
        clear hln
        generalize List.replicate k (59 : UInt8) = l at *
        have hll : l.length ≤ k := by have := HL.out; omega
        go_wp2_with (at_builtin; refine wpList_append_own _ rfl _ _ 65 rfl w1.heap.size 5 i0 (.int .u8 0) 1 1 Tryd.underlying65 hi hz0 hz1 hz2 rfl (by decide) _ _ _ rfl (hown.alloc _) ⟨wr.heap.size, 0, none⟩ 1 1 [.int .u8 59] rfl rfl ?a1 ?a2 ?a3 ?a4 ?a5 ?_)
        case a1 => exact cell_one_new _ _ _
        case a2 => simp [Value.oneCell']
        case a3 => unfold maxLen; omega
        case a4 => omega
        case a5 => simp; omega
        intro v' w2 hown' hgrow _
        have HR := Lib.hid (brow_more (m := [59]) HN.out HB1.out ((Below.refl _ _).alloc (Nat.le_refl _) _) hown hown' hgrow)
        clear hown hown' hgrow
        go_wp2_with fail
        go_roundw
        case rel => exact ⟨k + 1, by omega, by go_num, HR.out⟩
        case measure => simp [intOf]; omega
      · obtain rfl : k = m := by omega
        have HL := Lib.hid hln
        clear hln
        generalize List.replicate k (59 : UInt8) = l at *
        have hll : l.length ≤ k := by have := HL.out; omega
        go_wp2_with (at_builtin; refine Lib.wpList_append_own_string _ rfl _ _ 65 9 rfl w1.heap.size 5 i0 Tryd.underlying65 Tryd.underlying9 hi hz0 hz1 hz2 _ _ _ rfl hown s rfl ?c3 ?c4 ?c5 ?_)
        case c3 => unfold maxLen; omega
        case c4 => omega
        case c5 => omega
        intro v' w2 hown' hgrow _
        have hr2 := brow_more (l' := l ++ s.data.toList) (m := s.data.toList) rfl HB1.out (Below.refl _ _) hown (by rw [strC] at hown'; rw [Array.length_toList]; exact hown') hgrow
        have hrun := row_text hr2.1
        have HB2 := Lib.hid (below_step HB.out hr2.2)
        have hM2 := Lib.hid (max_below hM1.out hr2.2)
        have hE2 := Lib.hid (errs_below hE1.out hr2.2)
        have hsz2 : (⟨(l ++ s.data.toList).toArray⟩ : ByteArray).size ≤ 1000000 := by
          have e1 : (⟨(l ++ s.data.toList).toArray⟩ : ByteArray).size = l.length + s.data.size := by show (l ++ s.data.toList).toArray.size = _; simp
          rw [e1]
          have : s.data.size ≤ 100 := by show s.size ≤ 100; omega
          omega
        have hrunA : Hid (∀ W, Below w2.heap.size w2 W → (convert 65 9 v').run Tryd.prog W = .ok (.string ⟨(l ++ s.data.toList).toArray⟩) W) := Lib.hid fun W hW => row_text (own_below hr2.1 hW)
        clear hown hown' hgrow hr2
        generalize (⟨(l ++ s.data.toList).toArray⟩ : ByteArray) = t at *
        have KP := Lib.hid (cut_prog t w2 (by omega) hM2.out hE2.out)
        go_wp2_with fail
        refine KP.out.mono ?_
        rintro e w3 ⟨v, rfl, ho, hb⟩
        have KR := Lib.hid (cut_ref t w3 (by omega))
        have hrun2 := hrunA.out w3 hb
        have HB3 := Lib.hid (below_step HB2.out hb)
        have HO := Lib.hid ho
        clear hb ho hrun hm1 hm2
        go_wp2_with fail
        refine KR.out.mono ?_
        rintro e w4 ⟨v2, rfl, ho2, hb⟩
        have KS := Lib.hid (same_true (cutL t) v v2 w4 _ _ (by have := cutL_len t; omega) (own_below HO.out hb) ho2)
        have HB4 := Lib.hid (below_step HB3.out hb)
        clear hb ho2 hrun2
        go_wp2_with fail
        refine KS.out.mono ?_
        rintro e w5 ⟨rfl, n, rfl⟩
        go_wp2_with fail
        go_ret
        exact ⟨rfl, below_drewN HB4.out n⟩
end Go.Proofs.YtlgklkokadbpeaaDoor
