import Derived.Test.YtlgklkokadbpeaaDoorSc13
import Derived.Test.YtlgklkokadbpeaaDoorSc8
import Derived.Test.YtlgklkokadbpeaaDoorSc11
namespace Go.Proofs.YtlgklkokadbpeaaDoor
open Go.RowKit

/-- Where the bytes from 128 on end. -/
def highF (s : ByteArray) : Nat → Nat → Nat
  | 0, i => i
  | k + 1, i => if i < s.size ∧ 128 ≤ B s i then highF s k (i + 1) else i
def highN (s : ByteArray) (i : Nat) : Nat := if 128 ≤ B s i then highF s (s.size - (i + 1)) (i + 1) else i + 1
/-- The token that begins at a place. -/
def oneT (s : ByteArray) (i : Nat) : Tok :=
  if letterB (B s i) = true then wordT s i
  else if digitB (B s i) = true then numT s i
  else if B s i = 34 then quotedT s i
  else if occ s i [47, 42] = true then pieceT s 7 i s.size
  else if 0 < signN s i then pieceT s 4 i (i + signN s i)
  else pieceT s 7 i (highN s i)
theorem longs_fit (s : ByteArray) (_i : Nat) : ∀ (l : List UInt8) (i : Nat), (∀ c ∈ l, 0 < c.toNat) → occ s i l = true → i ≤ s.size → i + l.length ≤ s.size := by
  intro l
  induction l with
  | nil => intro i _ _ h; simpa using h
  | cons c r ih =>
    intro i hp h hi
    simp only [occ, Bool.and_eq_true, beq_iff_eq] at h
    have hlt : i < s.size := by
      rcases Nat.lt_or_ge i s.size with h2 | h2
      · exact h2
      · have := B_end s i h2; have := hp c (.head _); omega
    have := ih (i + 1) (fun c hc => hp c (.tail _ hc)) h.2 (by omega)
    simp only [List.length_cons]; omega
theorem sign_fit (s : ByteArray) (i : Nat) (hi : i < s.size) : i + signN s i ≤ s.size := by
  unfold signN
  cases hf : longsL.find? (occ s i) with
  | none => dsimp only; split <;> omega
  | some l => exact longs_fit s i l i (longs_pos l (List.mem_of_find?_eq_some hf)) (List.find?_some hf) (by omega)
theorem high_go (s : ByteArray) (i : Nat) (h : i < s.size) (hb : 128 ≤ B s i) : highF s (s.size - i) i = highF s (s.size - (i + 1)) (i + 1) := by
  rw [show s.size - i = (s.size - (i + 1)) + 1 by omega, highF, if_pos ⟨h, hb⟩]
theorem high_stop (s : ByteArray) (i : Nat) (h : ¬ (i < s.size ∧ 128 ≤ B s i)) : highF s (s.size - i) i = i := by
  cases hk : s.size - i with
  | zero => rfl
  | succ k => rw [highF, if_neg h]
theorem high_bd (s : ByteArray) : ∀ k i, i ≤ s.size → i ≤ highF s k i ∧ highF s k i ≤ s.size := by
  intro k
  induction k with
  | zero => intro i h; exact ⟨Nat.le_refl _, h⟩
  | succ k ih =>
    intro i h
    unfold highF
    split
    · have := ih (i + 1) (by omega); omega
    · exact ⟨Nat.le_refl _, h⟩

set_option maxRecDepth 100000 in
set_option maxHeartbeats 2000000 in
theorem one_prog (s : ByteArray) (i : Nat) (w : World) (hs : s.size ≤ 1000000000) (hi : i < s.size) (hE : HasErrs w) :
    Calls Tryd.prog 54 #[.string s, .int .i64 i] w fun e w' => e = .returned (oneT s i).val ∧ Below w.heap.size w w' := by
  have hx : (s[i]).toNat = B s i := B_at s i hi
  have hE2 : HasErrs (w.alloc zeroTok) := errs_below hE ((Below.refl _ _).alloc (Nat.le_refl _) _)
  have KL0 := fun W => letter_prog (B s i) W (B_lt s i)
  have KD0 := fun W => digit_prog (B s i) W (B_lt s i)
  cases hl : letterB (B s i) with
  | true =>
    rw [hl] at KL0
    have KL := Lib.hid KL0
    have D := Lib.hid (show oneT s i = wordT s i by rw [oneT, if_pos hl])
    have KT := Lib.hid (wordtok_prog s i (w.alloc zeroTok) hs (by omega))
    clear KL0 KD0 hE hE2 hl
    generalize wordT s i = tk at *
    go_enter Tryd.func54, Tryd.ntmps54
    go_wp2_with fail
    refine (KL.out _).mono ?_
    rintro e w1 ⟨rfl, rfl⟩
    go_wp2_with fail
    refine KT.out.mono ?_
    rintro e w1 ⟨rfl, hb⟩
    obtain ⟨c0, c1, c2, c3, c4, cf, cz⟩ := zero_cells hb
    simp only [Tok.val, Tok.cells]
    go_wp2_with fail
    refine bodyPost_ret (v := tk.val) (by simp [results, Tryd.results54, go_sem, Tok.val, Tok.cells, c0, c1, c2, c3, c4]) rfl ?_; exact ⟨by rw [D.out], below_five (below_box hb) _ _ _ _ _⟩
  | false =>
    rw [hl] at KL0
    have KL := Lib.hid KL0
    cases hd : digitB (B s i) with
    | true =>
      rw [hd] at KD0
      have KD := Lib.hid KD0
      have D := Lib.hid (show oneT s i = numT s i by rw [oneT, if_neg (by simp [hl]), if_pos hd])
      have KT := Lib.hid (number_prog s i (w.alloc zeroTok) hs hi hd hE2)
      clear KL0 KD0 hE hE2 hl hd
      generalize numT s i = tk at *
      go_enter Tryd.func54, Tryd.ntmps54
      go_wp2_with fail
      refine (KL.out _).mono ?_
      rintro e w1 ⟨rfl, rfl⟩
      go_wp2_with fail
      refine (KD.out _).mono ?_
      rintro e w1 ⟨rfl, rfl⟩
      go_wp2_with fail
      refine KT.out.mono ?_
      rintro e w1 ⟨rfl, hb⟩
      obtain ⟨c0, c1, c2, c3, c4, cf, cz⟩ := zero_cells hb
      simp only [Tok.val, Tok.cells]
      go_wp2_with fail
      refine bodyPost_ret (v := tk.val) (by simp [results, Tryd.results54, go_sem, Tok.val, Tok.cells, c0, c1, c2, c3, c4]) rfl ?_; exact ⟨by rw [D.out], below_five (below_box hb) _ _ _ _ _⟩
    | false =>
      rw [hd] at KD0
      have KD := Lib.hid KD0
      by_cases hq : B s i = 34
      · have e34 : (((B s i : Nat) : Int) == 34) = true := by simp; omega
        have D := Lib.hid (show oneT s i = quotedT s i by rw [oneT, if_neg (by simp [hl]), if_neg (by simp [hd]), if_pos hq])
        have KT := Lib.hid (quoted_prog s i (w.alloc zeroTok) hs hi)
        clear KL0 KD0 hE hE2 hl hd hq
        generalize quotedT s i = tk at *
        go_enter Tryd.func54, Tryd.ntmps54
        go_wp2_with fail
        refine (KL.out _).mono ?_
        rintro e w1 ⟨rfl, rfl⟩
        go_wp2_with fail
        refine (KD.out _).mono ?_
        rintro e w1 ⟨rfl, rfl⟩
        go_wp2_with fail
        refine KT.out.mono ?_
        rintro e w1 ⟨rfl, hb⟩
        obtain ⟨c0, c1, c2, c3, c4, cf, cz⟩ := zero_cells hb
        simp only [Tok.val, Tok.cells]
        go_wp2_with fail
        refine bodyPost_ret (v := tk.val) (by simp [results, Tryd.results54, go_sem, Tok.val, Tok.cells, c0, c1, c2, c3, c4]) rfl ?_; exact ⟨by rw [D.out], below_five (below_box hb) _ _ _ _ _⟩
      · have e34 : (((B s i : Nat) : Int) == 34) = false := by simp; omega
        have K2 : Hid (∀ W, Calls Tryd.prog 68 #[.string (s.extract i s.size), .string ⟨#[47, 42]⟩] W fun e w' => e = .returned (.bool (occ s i [47, 42])) ∧ W = w') := Lib.hid fun W => by
          have := Tryd.strings_HasPrefix (s.extract i s.size) ⟨#[47, 42]⟩ W
          rw [show (s.extract i s.size).data.toList = s.data.toList.drop i from Lib.extract_to_end s i, pre_ext s i [47, 42] (by decide) ⟨#[47, 42]⟩ rfl] at this
          exact this.mono fun e w' h => ⟨h.1, h.2.symm⟩
        cases ho : occ s i [47, 42] with
        | true =>
          rw [ho] at K2
          have D := Lib.hid (show oneT s i = pieceT s 7 i s.size by rw [oneT, if_neg (by simp [hl]), if_neg (by simp [hd]), if_neg hq, if_pos ho])
          have KT := Lib.hid (piece_prog s 7 i s.size (w.alloc zeroTok) (by omega) (Nat.le_refl _))
          clear KL0 KD0 hE hE2 hl hd hq ho
          generalize pieceT s 7 i s.size = tk at *
          go_enter Tryd.func54, Tryd.ntmps54
          go_wp2_with fail
          refine (KL.out _).mono ?_
          rintro e w1 ⟨rfl, rfl⟩
          go_wp2_with fail
          refine (KD.out _).mono ?_
          rintro e w1 ⟨rfl, rfl⟩
          go_wp2_with fail
          refine (K2.out _).mono ?_
          rintro e w1 ⟨rfl, rfl⟩
          go_wp2_with fail
          refine KT.out.mono ?_
          rintro e w1 ⟨rfl, hb⟩
          obtain ⟨c0, c1, c2, c3, c4, cf, cz⟩ := zero_cells hb
          simp only [Tok.val, Tok.cells]
          go_wp2_with fail
          refine bodyPost_ret (v := tk.val) (by simp [results, Tryd.results54, go_sem, Tok.val, Tok.cells, c0, c1, c2, c3, c4]) rfl ?_; exact ⟨by rw [D.out], below_five (below_box hb) _ _ _ _ _⟩
        | false =>
          rw [ho] at K2
          have KS := Lib.hid (sign_prog s i (w.alloc zeroTok) hs hi)
          have hfit := sign_fit s i hi
          by_cases hsg : 0 < signN s i
          · have D := Lib.hid (show oneT s i = pieceT s 4 i (i + signN s i) by rw [oneT, if_neg (by simp [hl]), if_neg (by simp [hd]), if_neg hq, if_neg (by simp [ho]), if_pos hsg])
            have KT := Lib.hid (fun W => piece_prog s 4 i (i + signN s i) W (by omega) hfit)
            generalize signN s i = n at *
            have tn : decide ((0 : Int) < (n : Int)) = true := by simp; omega
            clear KL0 KD0 hE hE2 hl hd hq ho
            go_enter Tryd.func54, Tryd.ntmps54
            go_wp2_with fail
            refine (KL.out _).mono ?_
            rintro e w1 ⟨rfl, rfl⟩
            go_wp2_with fail
            refine (KD.out _).mono ?_
            rintro e w1 ⟨rfl, rfl⟩
            go_wp2_with fail
            refine (K2.out _).mono ?_
            rintro e w1 ⟨rfl, rfl⟩
            go_wp2_with fail
            refine KS.out.mono ?_
            rintro e w1 ⟨rfl, hb1⟩
            go_wp2_with fail
            refine (KT.out _).mono ?_
            rintro e w2 ⟨rfl, hb2⟩
            have hb := below_step hb1 hb2
            clear hb1 hb2
            obtain ⟨c0, c1, c2, c3, c4, cf, cz⟩ := zero_cells hb
            generalize pieceT s 4 i (i + n) = tk at *
            simp only [Tok.val, Tok.cells]
            go_wp2_with fail
            refine bodyPost_ret (v := tk.val) (by simp [results, Tryd.results54, go_sem, Tok.val, Tok.cells, c0, c1, c2, c3, c4]) rfl ?_; exact ⟨by rw [D.out], below_five (below_box hb) _ _ _ _ _⟩
          · have D := Lib.hid (show oneT s i = pieceT s 7 i (highN s i) by rw [oneT, if_neg (by simp [hl]), if_neg (by simp [hd]), if_neg hq, if_neg (by simp [ho]), if_neg hsg])
            have hn0 : signN s i = 0 := by omega
            rw [hn0] at KS
            clear KL0 KD0 hE hE2 hl hd hq ho hfit hsg hn0
            by_cases hh : 128 ≤ B s i
            · have th : decide (((B s i : Nat) : Int) < 128) = false := by simp; omega
              have th2 : decide ((128 : Int) ≤ ((B s i : Nat) : Int)) = true := by simp; omega
              have D3 := Lib.hid (show highN s i = highF s (s.size - (i + 1)) (i + 1) from if_pos hh)
              clear hh
              go_enter Tryd.func54, Tryd.ntmps54
              go_wp2_with fail
              refine (KL.out _).mono ?_
              rintro e w1 ⟨rfl, rfl⟩
              go_wp2_with fail
              refine (KD.out _).mono ?_
              rintro e w1 ⟨rfl, rfl⟩
              go_wp2_with fail
              refine (K2.out _).mono ?_
              rintro e w1 ⟨rfl, rfl⟩
              go_wp2_with fail
              refine KS.out.mono ?_
              rintro e w1 ⟨rfl, hb1⟩
              go_wp2_with fail
              go_loopw [7] (fun v wr => (∃ k : Nat, i + 1 ≤ k ∧ k ≤ s.size ∧ v = .int .i64 k ∧ highF s (s.size - k) k = highF s (s.size - (i + 1)) (i + 1)) ∧ Below (w.alloc zeroTok).heap.size (w.alloc zeroTok) wr) (fun v _ => s.size - (intOf v).toNat)
              case atStart => exact ⟨⟨i + 1, by omega, by omega, by go_num, rfl⟩, hb1⟩
              case round =>
                obtain ⟨⟨k, hk1, hk, rfl, hn⟩, hbr⟩ := hrel
                have HBR := Lib.hid hbr
                clear hbr
                by_cases hlt : k < s.size
                · have hxk : (s[k]).toNat = B s k := B_at s k hlt
                  have t1 : decide ((k : Int) < (s.size : Int)) = true := by simp; omega
                  by_cases hk2 : 128 ≤ B s k
                  · have t2 : decide ((128 : Int) ≤ ((B s k : Nat) : Int)) = true := by simp; omega
                    have D2 := Lib.hid ((high_go s k hlt hk2).symm.trans hn)
                    clear hn hk2
                    go_wp2_with fail
                    go_roundw
                    case rel => exact ⟨⟨k + 1, by omega, by omega, by go_num, D2.out⟩, HBR.out⟩
                    case measure => simp [intOf]; omega
                  · have e7 : highN s i = k := D3.out.trans (hn.symm.trans (high_stop s k (by omega)))
                    rw [e7] at D
                    have KT := Lib.hid (fun W => piece_prog s 7 i k W (by omega) hk)
                    generalize pieceT s 7 i k = tk at *
                    have t2 : decide ((128 : Int) ≤ ((B s k : Nat) : Int)) = false := by simp; omega
                    clear hn e7 hk2
                    go_wp2_with fail
                    refine (KT.out _).mono ?_
                    rintro e w2 ⟨rfl, hb2⟩
                    have hb := below_step HBR.out hb2
                    clear hb2
                    obtain ⟨c0, c1, c2, c3, c4, cf, cz⟩ := zero_cells hb
                    simp only [Tok.val, Tok.cells]
                    go_wp2_with fail
                    refine bodyPost_ret (v := tk.val) (by simp [results, Tryd.results54, go_sem, Tok.val, Tok.cells, c0, c1, c2, c3, c4]) rfl ?_; exact ⟨by rw [D.out], below_five (below_box hb) _ _ _ _ _⟩
                · have e7 : highN s i = k := D3.out.trans (hn.symm.trans (high_stop s k (by omega)))
                  rw [e7] at D
                  have KT := Lib.hid (fun W => piece_prog s 7 i k W (by omega) hk)
                  generalize pieceT s 7 i k = tk at *
                  have t1 : decide ((k : Int) < (s.size : Int)) = false := by simp; omega
                  have t1n : decide (k < s.size) = false := decide_eq_false hlt
                  clear hn e7
                  go_wp2_with fail
                  refine (KT.out _).mono ?_
                  rintro e w2 ⟨rfl, hb2⟩
                  have hb := below_step HBR.out hb2
                  clear hb2
                  obtain ⟨c0, c1, c2, c3, c4, cf, cz⟩ := zero_cells hb
                  simp only [Tok.val, Tok.cells]
                  go_wp2_with fail
                  refine bodyPost_ret (v := tk.val) (by simp [results, Tryd.results54, go_sem, Tok.val, Tok.cells, c0, c1, c2, c3, c4]) rfl ?_; exact ⟨by rw [D.out], below_five (below_box hb) _ _ _ _ _⟩
            · have th : decide (((B s i : Nat) : Int) < 128) = true := by simp; omega
              have th2 : decide ((128 : Int) ≤ ((B s i : Nat) : Int)) = false := by simp; omega
              rw [show highN s i = i + 1 from if_neg hh] at D
              have KT := Lib.hid (fun W => piece_prog s 7 i (i + 1) W (by omega) (by omega))
              generalize pieceT s 7 i (i + 1) = tk at *
              clear hh
              go_enter Tryd.func54, Tryd.ntmps54
              go_wp2_with fail
              refine (KL.out _).mono ?_
              rintro e w1 ⟨rfl, rfl⟩
              go_wp2_with fail
              refine (KD.out _).mono ?_
              rintro e w1 ⟨rfl, rfl⟩
              go_wp2_with fail
              refine (K2.out _).mono ?_
              rintro e w1 ⟨rfl, rfl⟩
              go_wp2_with fail
              refine KS.out.mono ?_
              rintro e w1 ⟨rfl, hb1⟩
              go_wp2_with fail
              refine (KT.out _).mono ?_
              rintro e w2 ⟨rfl, hb2⟩
              have hb := below_step hb1 hb2
              clear hb1 hb2
              obtain ⟨c0, c1, c2, c3, c4, cf, cz⟩ := zero_cells hb
              simp only [Tok.val, Tok.cells]
              go_wp2_with fail
              refine bodyPost_ret (v := tk.val) (by simp [results, Tryd.results54, go_sem, Tok.val, Tok.cells, c0, c1, c2, c3, c4]) rfl ?_; exact ⟨by rw [D.out], below_five (below_box hb) _ _ _ _ _⟩
end Go.Proofs.YtlgklkokadbpeaaDoor
