import Derived.Test.YteghbblbkljdhaaDoorSoZ
import Derived.Test.YteghbblbkljdhaaDoorSoO
namespace Go.Proofs.YteghbblbkljdhaaDoor
open Go.RowKit
set_option maxRecDepth 100000 in
set_option maxHeartbeats 4000000 in
theorem counts_any (A : Option Addr) (n c : Nat) (f : Nat → DiagD) (w : World) (hR : RepOk w) (hA : NilOk A n c) (h : Src w A n f) (hfs : ∀ k, k < n → (f k).f.size ≤ 1048576 ∧ (f k).t.size ≤ 1048576) :
    Calls Tryd.prog 10 #[.slice A n c] w fun e w' => e = .returned (.bool true) ∧ Below w.heap.size w w' := by
  have KA := Lib.hid (fun w1 (hb : Below w.heap.size w w1) => awake_any w1 (hR.later hb))
  have HR := Lib.hid hR
  have HS := Lib.hid h
  have HA := Lib.hid hA
  have HF := Lib.hid hfs
  clear hR h hA hfs
  by_cases hn : 300 < n
  · have tn : decide ((300 : Int) < (n : Int)) = true := by simp; omega
    go_enter Tryd.func10, Tryd.ntmps10
    go_wp2_with fail
    refine (KA.out _ (Below.refl _ _)).mono ?_
    rintro e w1 ⟨rfl, hb1⟩
    go_wp2_with fail
    refine (KA.out _ hb1).mono ?_
    rintro e w2 ⟨rfl, hb2⟩
    go_wp2_with fail
    go_ret
    exact ⟨rfl, hb1.trans (hb2.mono hb1.size)⟩
  have tn : decide ((300 : Int) < (n : Int)) = false := by simp; omega
  go_enter Tryd.func10, Tryd.ntmps10
  go_wp2_with fail
  refine (KA.out _ (Below.refl _ _)).mono ?_
  rintro e w1 ⟨rfl, hb1⟩
  have HB1 := Lib.hid hb1
  clear hb1
  go_wp2_with fail
  go_loopw [3] (fun v wr => ∃ i : Nat, i ≤ n ∧ v = .int .i64 i ∧ (∀ k, k < i → (10 : UInt8) ∉ (f k).f.data.toList ∧ (10 : UInt8) ∉ (f k).t.data.toList) ∧ Below w.heap.size w wr) (fun v _ => n - (intOf v).toNat)
  case atStart => exact ⟨0, by omega, rfl, fun k hk => by omega, HB1.out⟩
  case round =>
    obtain ⟨i, hi, rfl, hno, hb⟩ := hrel
    have HNo := Lib.hid hno
    have HBi := Lib.hid hb
    by_cases hlt : i < n
    case neg =>
      obtain rfl : i = n := by omega
      have tl : decide ((i : Int) < (i : Int)) = false := by simp
      clear hlt hno hb
      go_wp2_with fail
      refine (all_any none 0 0 (fun _ => zeroF) A i c f _ (.inl rfl) (by decide) (by omega) (by omega) (by omega) 1048576 (by decide) HF.out (Nat.le_trans (Nat.mul_le_mul_right _ (by omega : i ≤ 300)) (by decide)) HA.out (HS.out.later HBi.out) (HR.out.later HBi.out).1 (HR.out.later HBi.out).2).mono ?_
      rintro e w2 ⟨fs, rfl, _, hc, hb2⟩
      have HC := Lib.hid hc
      have HB2 := Lib.hid (HBi.out.trans (hb2.mono HBi.out.size))
      have HX := Lib.hid (lines_count (srcOf (fun _ => zeroF) 0) fs i (fun k hk => by
        have h1 := all_of_cnt2 (fun d => decide ((10 : UInt8) ∈ d.f.data.toList ∨ (10 : UInt8) ∈ d.t.data.toList)) HC.out (fun k hk => decide_eq_false (by have := HNo.out k hk; simp [this.1, this.2])) k hk
        have h2 := of_decide_eq_false h1
        exact ⟨fun h => h2 (.inl h), fun h => h2 (.inr h)⟩))
      have HLn := Lib.hid (Nat.le_trans (lines_len (srcOf (fun _ => zeroF) 0) fs 1048576 (src_size (fun k hk => by omega)) i (all_of_cnt HC.out HF.out)) (Nat.mul_le_mul_right _ (by omega : i ≤ 300)))
      clear hc hb2
      generalize hl : linesL (srcOf (fun _ => zeroF) 0) fs i = l at HX HLn ⊢
      clear hl
      have HY := Lib.hid (show (ByteArray.mk l.toArray).data.toList.count 10 = i from HX.out)
      have HLm : (ByteArray.mk l.toArray).size ≤ 1000000000000 := Nat.le_trans HLn.out (by decide)
      generalize ByteArray.mk l.toArray = s at HY HLm ⊢
      clear HX HLn
      go_wp2_with fail
      go_loopw [7, 8] (fun cv v wx => ∃ k : Nat, k ≤ s.size ∧ v = .int .i64 k ∧ cv = .int .i64 (((s.data.toList.take k).count 10 : Nat) : Int) ∧ Below w.heap.size w wx) (fun _ v _ => s.size - (intOf v).toNat)
      case atStart => exact ⟨0, by omega, rfl, rfl, HB2.out⟩
      case round =>
        obtain ⟨k, hk, rfl, rfl, hbk⟩ := hrel
        have HBk := Lib.hid hbk
        clear hbk
        by_cases hks : k < s.size
        case neg =>
          obtain rfl : k = s.size := by omega
          have tk : decide ((s.size : Int) < (s.size : Int)) = false := by simp
          have hct : (s.data.toList.take s.size).count 10 = i := by
            rw [List.take_of_length_le (by rw [Array.length_toList]; exact Nat.le_refl _)]
            exact HY.out
          rw [hct]
          have te : ((i : Int) == (i : Int)) = true := by simp
          clear hct hks
          go_wp2_with fail
          go_ret
          exact ⟨rfl, HBk.out⟩
        have tk : decide ((k : Int) < (s.size : Int)) = true := by simp; omega
        have hb := nl_at s k hks
        have hcn := nl_count s k hks
        have hcl : (s.data.toList.take k).count 10 ≤ 1000000000000 := Nat.le_trans List.count_le_length (by rw [List.length_take]; omega)
        generalize hq : (s.data.toList.take k).count 10 = q at hcn hcl ⊢
        cases hn : nl s k with
        | true =>
          rw [hn] at hb hcn
          have HCn := Lib.hid hcn
          clear hcn hn hq
          go_wp2_with fail
          refine ⟨⟨k + 1, hks, by simp, by rw [HCn.out]; simp, HBk.out⟩, by simp [intOf]; omega⟩
        | false =>
          rw [hn] at hb hcn
          have HCn := Lib.hid hcn
          clear hcn hn hq
          go_wp2_with fail
          refine ⟨⟨k + 1, hks, by simp, by rw [HCn.out]; simp, HBk.out⟩, by simp [intOf]; omega⟩
    have tl : decide ((i : Int) < (n : Int)) = true := by simp; omega
    obtain ⟨b, off, hA2, c0, c1, c2, c3⟩ := (HS.out.later hb).at hlt
    subst hA2
    have HFi := Lib.hid (HF.out i hlt)
    clear hb hno c1 c2
    have n0 : ¬ (9223372036854775807 < (f i).f.size + (f i).t.size) := by have := HFi.out; omega
    go_upto_region 6 with fail
    go_region_held3 (fun w' => w'.cell? ⟨b, off + i * 4, none⟩ = some (.string (f i).f) ∧ w'.cell? ⟨b, off + i * 4 + 3, none⟩ = some (.string (f i).t)) (first | exact ⟨c0, c3⟩) (fail)
    go_wp2_with fail
    have HBd := Lib.hid (show Below w.heap.size w wr.drew from HBi.out.drew)
    have hsz : ((f i).f ++ (f i).t).size ≤ 1000000000000 := by rw [ByteArray.size_append]; have := HFi.out; omega
    have HPt := Lib.hid (@no_parts (f i).f (f i).t)
    generalize (f i).f ++ (f i).t = s at hsz HPt ⊢
    clear c0 c3 n0
    go_loopw [5] (fun v wx => ∃ k : Nat, k ≤ s.size ∧ v = .int .i64 k ∧ (∀ j, j < k → nl s j = false) ∧ Below w.heap.size w wx) (fun v _ => s.size - (intOf v).toNat)
    case atStart => exact ⟨0, by omega, rfl, fun j hj => by omega, HBd.out⟩
    case round =>
      obtain ⟨k, hk, rfl, hnl, hbk⟩ := hrel
      have HBk := Lib.hid hbk
      have HNl := Lib.hid hnl
      clear hbk hnl
      by_cases hks : k < s.size
      case neg =>
        obtain rfl : k = s.size := by omega
        have tk : decide ((s.size : Int) < (s.size : Int)) = false := by simp
        clear hks
        go_wp2_with fail
        refine ⟨⟨i + 1, hlt, by simp, fun k hk => ?_, HBk.out⟩, by simp [intOf]; omega⟩
        rcases Nat.lt_or_ge k i with h1 | h1
        · exact HNo.out k h1
        · obtain rfl : k = i := by omega
          exact HPt.out (no_of_nl HNl.out)
      have tk : decide ((k : Int) < (s.size : Int)) = true := by simp; omega
      have hb := nl_at s k hks
      cases hn : nl s k with
      | true =>
        rw [hn] at hb
        clear hn
        go_wp2_with fail
        go_ret
        exact ⟨rfl, HBk.out⟩
      | false =>
        rw [hn] at hb
        have HN := Lib.hid hn
        clear hn
        go_wp2_with fail
        refine ⟨⟨k + 1, hks, by simp, fun j hj => ?_, HBk.out⟩, by simp [intOf]; omega⟩
        rcases Nat.lt_or_ge j k with h1 | h1
        · exact HNl.out j h1
        · obtain rfl : j = k := by omega
          exact HN.out
end Go.Proofs.YteghbblbkljdhaaDoor
