import Derived.Test.YtlgklkokadbpeaaDoorChA
namespace Go.Proofs.YtlgklkokadbpeaaDoor
open Go.RowKit
theorem get_B (s : ByteArray) (k : Nat) : (s.get! k).toNat = B s k := rfl
theorem B_ext (s : ByteArray) (i k : Nat) (_hi : i ≤ s.size) : B (s.extract i s.size) k = B s (i + k) := by
  have hs : s.size = s.data.size := rfl
  unfold B
  rw [ByteArray.data_extract]
  rcases Nat.lt_or_ge (i + k) s.size with h | h
  · rw [getElem!_pos _ k (by simp; omega), getElem!_pos s.data (i + k) (by omega)]
    simp
  · rw [getElem!_neg _ k (by simp; omega), getElem!_neg s.data (i + k) (by omega)]
theorem dec_ext (s : ByteArray) (i : Nat) (hi : i < s.size) : Lib.decodeGo (s.extract i s.size) = Lib.decodeN (s.size - i) (B s i) (B s (i + 1)) (B s (i + 2)) (B s (i + 3)) := by
  have hz : (s.extract i s.size).size = s.size - i := by rw [ByteArray.size_extract]; omega
  unfold Lib.decodeGo
  rw [if_neg (by omega), Lib.decode_at, hz]
  simp only [get_B, B_ext s i _ (Nat.le_of_lt hi), Nat.add_zero, Nat.sub_zero, Nat.zero_add]
theorem dec_seq (s : ByteArray) (i : Nat) (hi : i < s.size) :
    (seqN s i = 0 ∧ Lib.decodeGo (s.extract i s.size) = (65533, 1)) ∨
    (seqN s i ≠ 0 ∧ ∃ r, Lib.decodeGo (s.extract i s.size) = (r, seqN s i) ∧ ¬ (r = 65533 ∧ seqN s i ≤ 1)) := by
  rw [dec_ext s i hi]
  exact seqD_decode _ _ _ _ _ (UInt8.toNat_lt _) (by omega)
def chkN (s : ByteArray) : Nat → Nat → Nat × Nat
  | 0, _ => (0, 0)
  | k + 1, i => if i < s.size then (if seqN s i = 0 then (i, 5) else chkN s k (i + seqN s i)) else (0, 0)
theorem chk_fuel (s : ByteArray) : ∀ k k' i, s.size - i ≤ k → s.size - i ≤ k' → chkN s k i = chkN s k' i := by
  intro k
  induction k with
  | zero =>
    intro k' i h _
    cases k' with
    | zero => rfl
    | succ k' => simp only [chkN]; rw [if_neg (by omega)]
  | succ k ih =>
    intro k' i h h'
    cases k' with
    | zero => simp only [chkN]; rw [if_neg (by omega)]
    | succ k' =>
      simp only [chkN]
      split
      · split
        · rfl
        · exact ih k' _ (by omega) (by omega)
      · rfl
theorem chk_go (s : ByteArray) (i : Nat) (hi : i < s.size) (h : seqN s i ≠ 0) : chkN s (s.size - i) i = chkN s (s.size - (i + seqN s i)) (i + seqN s i) := by
  obtain ⟨k, hk⟩ : ∃ k, s.size - i = k + 1 := ⟨s.size - i - 1, by omega⟩
  rw [hk, chkN, if_pos hi, if_neg h]
  exact chk_fuel s _ _ _ (by omega) (by omega)
theorem chk_bad (s : ByteArray) (i : Nat) (hi : i < s.size) (h : seqN s i = 0) : chkN s (s.size - i) i = (i, 5) := by
  obtain ⟨k, hk⟩ : ∃ k, s.size - i = k + 1 := ⟨s.size - i - 1, by omega⟩
  rw [hk, chkN, if_pos hi, if_pos h]
theorem chk_end (s : ByteArray) : chkN s (s.size - s.size) s.size = (0, 0) := by rw [Nat.sub_self]; rfl
/-- What Check answers. -/
def checkR (s : ByteArray) : Nat × Nat := if 262144 < s.size then (0, 1) else chkN s s.size 0
theorem check_long {s : ByteArray} (h : 262144 < s.size) : checkR s = (0, 1) := if_pos h
theorem check_short {s : ByteArray} (h : ¬ 262144 < s.size) : checkR s = chkN s s.size 0 := if_neg h
theorem ret_two {k k' : IntKind} {a b c d : Int} (h : a = b) (h' : c = d) : Ending.returned (.tuple #[.int k a, .int k' c]) = .returned (.tuple #[.int k b, .int k' d]) := by rw [h, h']

set_option maxHeartbeats 400000 in
theorem check_ref (s : ByteArray) (w : World) :
    Calls Tryd.prog 49 #[.string s] w fun e w' => e = .returned (.tuple #[.int .i64 (checkR s).1, .int .i64 (checkR s).2]) ∧ w = w' := by
  by_cases hs : 262144 < s.size
  · have D := Lib.hid (check_long hs)
    go_enter Tryd.func49, Tryd.ntmps49
    go_wp2
    go_ret2
    exact ⟨by rw [D.out]; rfl, rfl⟩
  · have D := Lib.hid (check_short hs)
    have hz : s.size ≤ 262144 := by omega
    have t0 : decide (262144 < s.size) = false := by simp; omega
    go_enter Tryd.func49, Tryd.ntmps49
    go_wp2
    go_loop [4] (fun i => ∃ k : Nat, k ≤ s.size ∧ i = .int .i64 k ∧ chkN s (s.size - k) k = chkN s s.size 0) (fun i => s.size - (intOf i).toNat)
    case atStart => exact ⟨0, by omega, by go_num, rfl⟩
    case round =>
      obtain ⟨k, hk, rfl, hc⟩ := hrel
      have HC := Lib.hid hc
      clear hc
      by_cases hlt : k < s.size
      · have hle := seqN_le s k hlt
        have hb := Lib.hid (chk_bad s k hlt)
        have hg := Lib.hid (chk_go s k hlt)
        have cS := seq_ref s k w (by omega) hlt
        generalize hq : seqN s k = q at *
        clear hq
        have CS := Lib.hid cS
        clear cS
        by_cases hq0 : q = 0
        · subst hq0
          have hb' := Lib.hid (hb.out rfl)
          clear hb hg
          go_wp2_with (go_at_call 67; refine CS.out.mono ?_; rintro e w1 ⟨rfl, rfl⟩)
          go_ret2
          exact ⟨by rw [D.out, ← HC.out, hb'.out]; rfl, rfl⟩
        · have t1 : ((q : Int) == 0) = false := by simp; omega
          have hp : 1 ≤ q := by omega
          have hg' := Lib.hid (hg.out hq0)
          clear hq0
          go_wp2_with (go_at_call 67; refine CS.out.mono ?_; rintro e w1 ⟨rfl, rfl⟩)
          go_round
          case rel => exact ⟨k + q, by omega, by go_num, by rw [← HC.out, hg'.out]⟩
          case measure => simp [intOf]; omega
      · obtain rfl : k = s.size := by omega
        go_wp2
        go_ret2
        exact ⟨by rw [D.out, ← HC.out, chk_end]; rfl, rfl⟩
theorem below_step {w a b : World} (h : Below w.heap.size w a) (h' : Below a.heap.size a b) : Below w.heap.size w b := h.trans (h'.mono h.size)
theorem tabs_below {w w' : World} (h : Lib.Utf8Tabs 0 1 w) (hb : Below w.heap.size w w') : Lib.Utf8Tabs 0 1 w' :=
  ⟨fun c hc => cell_later hb (h.1 c hc), fun i hi => ⟨cell_later hb (h.2 i hi).1, cell_later hb (h.2 i hi).2⟩⟩

set_option maxHeartbeats 400000 in
theorem check_prog (s : ByteArray) (w : World) (hT : Lib.Utf8Tabs 0 1 w) :
    Calls Tryd.prog 47 #[.string s] w fun e w' => e = .returned (.tuple #[.int .i64 (checkR s).1, .int .i64 (checkR s).2]) ∧ Below w.heap.size w w' := by
  by_cases hs : 262144 < s.size
  · have D := Lib.hid (check_long hs)
    have T := Lib.hid hT
    clear hT
    go_enter Tryd.func47, Tryd.ntmps47
    go_wp2
    go_ret2
    exact ⟨by rw [D.out]; rfl, Below.refl _ _⟩
  · have D := Lib.hid (check_short hs)
    have hz : s.size ≤ 262144 := by omega
    have t0 : decide (262144 < s.size) = false := by simp; omega
    have T := Lib.hid hT
    clear hT
    go_enter Tryd.func47, Tryd.ntmps47
    go_wp2
    go_loopw [4] (fun i wr => (∃ k : Nat, k ≤ s.size ∧ i = .int .i64 k ∧ chkN s (s.size - k) k = chkN s s.size 0) ∧ Lib.Utf8Tabs 0 1 wr ∧ Below w.heap.size w wr) (fun i _ => s.size - (intOf i).toNat)
    case atStart => exact ⟨⟨0, by omega, by go_num, rfl⟩, T.out, Below.refl _ _⟩
    case round =>
      obtain ⟨⟨k, hk, rfl, hc⟩, hTr, hB⟩ := hrel
      have HC := Lib.hid hc
      have HB := Lib.hid hB
      clear hc hB
      by_cases hlt : k < s.size
      · have hle := seqN_le s k hlt
        have cS := Tryd.utf8_DecodeRuneInString (s.extract k s.size) wr hTr
        have HT := Lib.hid hTr
        have hd := dec_seq s k hlt
        have hg := Lib.hid (chk_go s k hlt)
        have hb := Lib.hid (chk_bad s k hlt)
        rcases hd with ⟨h0, hd⟩ | ⟨h0, r, hd, hr⟩
        · rw [hd] at cS
          have CS := Lib.hid cS
          have hb' := Lib.hid (hb.out h0)
          clear hTr cS hd h0 hg hb hle
          go_wp2_with (go_at_call 66; refine CS.out.mono ?_; rintro e w1 ⟨rfl, hb1⟩)
          go_ret2
          exact ⟨by rw [D.out, ← HC.out, hb'.out]; rfl, below_step HB.out hb1⟩
        · rw [hd] at cS
          have CS := Lib.hid cS
          have hg' := Lib.hid (hg.out h0)
          clear hTr cS hd hg hb
          generalize hq : seqN s k = q at *
          clear hq
          have hp : 1 ≤ q := by omega
          by_cases hr2 : r = 65533
          · subst hr2
            have hq2 : 2 ≤ q := by omega
            clear hr h0
            go_wp2_with (go_at_call 66; refine CS.out.mono ?_; rintro e w1 ⟨rfl, hb1⟩)
            go_roundw
            case rel => exact ⟨⟨k + q, by omega, by go_num, by rw [← HC.out, hg'.out]⟩, tabs_below HT.out hb1, below_step HB.out hb1⟩
            case measure => simp [intOf]; omega
          · have t1 : ((r : Int) == 65533) = false := by simp; omega
            clear hr h0 hr2
            go_wp2_with (go_at_call 66; refine CS.out.mono ?_; rintro e w1 ⟨rfl, hb1⟩)
            go_roundw
            case rel => exact ⟨⟨k + q, by omega, by go_num, by rw [← HC.out, hg'.out]⟩, tabs_below HT.out hb1, below_step HB.out hb1⟩
            case measure => simp [intOf]; omega
      · obtain rfl : k = s.size := by omega
        clear hTr
        go_wp2
        go_ret2
        exact ⟨by rw [D.out, ← HC.out, chk_end]; rfl, HB.out⟩
end Go.Proofs.YtlgklkokadbpeaaDoor
