import Derived.Test.YtlgklkokadbpeaaDoorSc14
import Derived.Test.YtlgklkokadbpeaaDoorSc12
import Derived.Test.YtlgklkokadbpeaaDoorScR2
namespace Go.Proofs.YtlgklkokadbpeaaDoor
open Go.RowKit
theorem zero_here (w : World) : Below (w.alloc zeroTok).heap.size (w.alloc zeroTok) (w.alloc zeroTok) := Below.refl _ _
set_option maxRecDepth 100000 in
set_option maxHeartbeats 4000000 in
theorem token_ref (s : ByteArray) (i : Nat) (w : World) (hs : s.size ≤ 1000000000) (hi : i < s.size) :
    Calls Tryd.prog 56 #[.string s, .int .i64 i] w fun e w' => e = .returned (oneT s i).val ∧ Below w.heap.size w w' := by
  have hx : (s[i]).toNat = B s i := B_at s i hi
  have hu := B_lt s i
  have KL0 := fun W => letter_ref (B s i) W hu
  have KD0 := fun W => digit_ref (B s i) W hu
  obtain ⟨c0, c1, c2, c3, c4, cf, cz⟩ := zero_cells (zero_here w)
  cases hl : letterB (B s i) with
  | true =>
    rw [hl] at KL0
    have KL := Lib.hid KL0
    have hw := word_le s i (by omega)
    have KW := Lib.hid (fun W => word_ref s i W (by omega) (by omega))
    have D0 : oneT s i = wordT s i := by rw [oneT, if_pos hl]
    rw [wordT] at D0
    generalize wordN s i = j at *
    have KR0 := fun W => reserved_ref (s.extract i j) W
    cases hr : resL (s.extract i j).toList with
    | true =>
      rw [hr] at KR0 D0
      have KR := Lib.hid KR0
      have D := Lib.hid D0
      clear KL0 KD0 KR0 D0 hl hr hu c0 c1 c2 c3 c4 cf cz
      go_enter Tryd.func56, Tryd.ntmps56
      go_wp2_with fail
      refine (KL.out _).mono ?_
      rintro e w1 ⟨rfl, rfl⟩
      go_wp2_with fail
      refine (KW.out _).mono ?_
      rintro e w1 ⟨rfl, rfl⟩
      go_wp2_with fail
      refine (KR.out _).mono ?_
      rintro e w1 ⟨rfl, hb⟩
      obtain ⟨c0, c1, c2, c3, c4, cf, cz⟩ := zero_cells hb
      go_wp2_with fail
      refine bodyPost_ret (v := (pieceT s 5 i j : Tok).val) (by simp [results, Tryd.results56, go_sem, Tok.val, Tok.cells, pieceT, c0, c1, c2, c3, c4]) rfl ?_
      exact ⟨by rw [D.out]; rfl, below_five (below_box hb) _ _ _ _ _⟩
    | false =>
      rw [hr] at KR0 D0
      have KR := Lib.hid KR0
      have D := Lib.hid D0
      clear KL0 KD0 KR0 D0 hl hr hu c0 c1 c2 c3 c4 cf cz
      go_enter Tryd.func56, Tryd.ntmps56
      go_wp2_with fail
      refine (KL.out _).mono ?_
      rintro e w1 ⟨rfl, rfl⟩
      go_wp2_with fail
      refine (KW.out _).mono ?_
      rintro e w1 ⟨rfl, rfl⟩
      go_wp2_with fail
      refine (KR.out _).mono ?_
      rintro e w1 ⟨rfl, hb⟩
      obtain ⟨c0, c1, c2, c3, c4, cf, cz⟩ := zero_cells hb
      go_wp2_with fail
      refine bodyPost_ret (v := (pieceT s 1 i j : Tok).val) (by simp [results, Tryd.results56, go_sem, Tok.val, Tok.cells, pieceT, c0, c1, c2, c3, c4]) rfl ?_
      exact ⟨by rw [D.out]; rfl, below_five (below_box hb) _ _ _ _ _⟩
  | false =>
    rw [hl] at KL0
    have KL := Lib.hid KL0
    cases hd : digitB (B s i) with
    | true =>
      rw [hd] at KD0
      have KD := Lib.hid KD0
      have D := Lib.hid (show oneT s i = numT s i by rw [oneT, if_neg (by simp [hl]), if_pos hd])
      have KT := Lib.hid (number_ref s i (w.alloc zeroTok) hs hi hd)
      clear KL0 KD0 hl hd hu c0 c1 c2 c3 c4 cf cz
      generalize numT s i = tk at *
      go_enter Tryd.func56, Tryd.ntmps56
      go_wp2_with fail
      refine (KL.out _).mono ?_
      rintro e w1 ⟨rfl, rfl⟩
      go_wp2_with fail
      refine (KD.out _).mono ?_
      rintro e w1 ⟨rfl, rfl⟩
      go_wp2_with fail
      refine (KT.out).mono ?_
      rintro e w1 ⟨rfl, hb⟩
      obtain ⟨c0, c1, c2, c3, c4, cf, cz⟩ := zero_cells hb
      simp only [Tok.val, Tok.cells]
      go_wp2_with fail
      refine bodyPost_ret (v := (tk : Tok).val) (by simp [results, Tryd.results56, go_sem, Tok.val, Tok.cells, c0, c1, c2, c3, c4]) rfl ?_
      exact ⟨by rw [D.out], below_five (below_box hb) _ _ _ _ _⟩
    | false =>
      rw [hd] at KD0
      have KD := Lib.hid KD0
      by_cases hq : B s i = 34
      · have e34 : (((B s i : Nat) : Int) == 34) = true := by simp; omega
        have D := Lib.hid (show oneT s i = quotedT s i by rw [oneT, if_neg (by simp [hl]), if_neg (by simp [hd]), if_pos hq])
        have KT := Lib.hid (quoted_ref s i (w.alloc zeroTok) hs hi)
        clear KL0 KD0 hl hd hq hu c0 c1 c2 c3 c4 cf cz
        generalize quotedT s i = tk at *
        go_enter Tryd.func56, Tryd.ntmps56
        go_wp2_with fail
        refine (KL.out _).mono ?_
        rintro e w1 ⟨rfl, rfl⟩
        go_wp2_with fail
        refine (KD.out _).mono ?_
        rintro e w1 ⟨rfl, rfl⟩
        go_wp2_with fail
        refine (KT.out).mono ?_
        rintro e w1 ⟨rfl, hb⟩
        obtain ⟨c0, c1, c2, c3, c4, cf, cz⟩ := zero_cells hb
        simp only [Tok.val, Tok.cells]
        go_wp2_with fail
        refine bodyPost_ret (v := (tk : Tok).val) (by simp [results, Tryd.results56, go_sem, Tok.val, Tok.cells, c0, c1, c2, c3, c4]) rfl ?_
        exact ⟨by rw [D.out], below_five (below_box hb) _ _ _ _ _⟩
      · have e34 : (((B s i : Nat) : Int) == 34) = false := by simp; omega
        have K0 := fun W => begins_ref s ⟨#[47, 42]⟩ i W hs (by omega) (by decide) (by decide)
        rw [show (⟨#[47, 42]⟩ : ByteArray).data.toList = [47, 42] from rfl] at K0
        cases ho : occ s i [47, 42] with
        | true =>
          rw [ho] at K0
          have K2 := Lib.hid K0
          have D := Lib.hid (show oneT s i = pieceT s 7 i s.size by rw [oneT, if_neg (by simp [hl]), if_neg (by simp [hd]), if_neg hq, if_pos ho])
          clear KL0 KD0 K0 hl hd hq ho hu
          go_enter Tryd.func56, Tryd.ntmps56
          go_wp2_with fail
          refine (KL.out _).mono ?_
          rintro e w1 ⟨rfl, rfl⟩
          go_wp2_with fail
          refine (KD.out _).mono ?_
          rintro e w1 ⟨rfl, rfl⟩
          go_wp2_with fail
          refine (K2.out _).mono ?_
          rintro e w1 ⟨rfl, rfl⟩
          go_wp2_with fail
          refine bodyPost_ret (v := (pieceT s 7 i s.size : Tok).val) (by simp [results, Tryd.results56, go_sem, Tok.val, Tok.cells, pieceT]) rfl ?_
          exact ⟨by rw [D.out], (Below.refl _ _).alloc (Nat.le_refl _) _⟩
        | false =>
          rw [ho] at K0
          have K2 := Lib.hid K0
          have KS := Lib.hid (sign_ref s i (w.alloc zeroTok) hs hi)
          have hfit := sign_fit s i hi
          clear c0 c1 c2 c3 c4 cf cz
          by_cases hsg : 0 < signN s i
          · have D := Lib.hid (show oneT s i = pieceT s 4 i (i + signN s i) by rw [oneT, if_neg (by simp [hl]), if_neg (by simp [hd]), if_neg hq, if_neg (by simp [ho]), if_pos hsg])
            generalize signN s i = n at *
            have tn : decide ((0 : Int) < (n : Int)) = true := by simp; omega
            clear KL0 KD0 K0 hl hd hq ho hu
            go_enter Tryd.func56, Tryd.ntmps56
            go_wp2_with fail
            refine (KL.out _).mono ?_
            rintro e w1 ⟨rfl, rfl⟩
            go_wp2_with fail
            refine (KD.out _).mono ?_
            rintro e w1 ⟨rfl, rfl⟩
            go_wp2_with fail
            refine (K2.out _).mono ?_
            rintro e w1 ⟨rfl, rfl⟩
            go_wp2_with fail
            refine (KS.out).mono ?_
            rintro e w1 ⟨rfl, hb⟩
            obtain ⟨c0, c1, c2, c3, c4, cf, cz⟩ := zero_cells hb
            go_wp2_with fail
            refine bodyPost_ret (v := (pieceT s 4 i (i + n) : Tok).val) (by simp [results, Tryd.results56, go_sem, Tok.val, Tok.cells, pieceT, c0, c1, c2, c3, c4]) rfl ?_
            exact ⟨by rw [D.out], below_five (below_box hb) _ _ _ _ _⟩
          · have D := Lib.hid (show oneT s i = pieceT s 7 i (highN s i) by rw [oneT, if_neg (by simp [hl]), if_neg (by simp [hd]), if_neg hq, if_neg (by simp [ho]), if_neg hsg])
            have hn0 : signN s i = 0 := by omega
            rw [hn0] at KS
            have hcase : (128 ≤ B s i ∧ highN s i = highF s (s.size - (i + 1)) (i + 1)) ∨ (B s i < 128 ∧ highN s i = i + 1) := by
              by_cases hh : 128 ≤ B s i
              · exact .inl ⟨hh, if_pos hh⟩
              · exact .inr ⟨by omega, if_neg hh⟩
            clear KL0 KD0 K0 hl hd hq ho hfit hsg hn0
            rcases hcase with ⟨hh, hH⟩ | ⟨hh, hH⟩
            · have th2 : decide ((128 : Int) ≤ ((B s i : Nat) : Int)) = true := by simp; omega
              have D3 := Lib.hid hH
              clear hh hH
              generalize B s i = b at *
              go_enter Tryd.func56, Tryd.ntmps56
              go_wp2_with fail
              refine (KL.out _).mono ?_
              rintro e w1 ⟨rfl, rfl⟩
              go_wp2_with fail
              refine (KD.out _).mono ?_
              rintro e w1 ⟨rfl, rfl⟩
              go_wp2_with fail
              refine (K2.out _).mono ?_
              rintro e w1 ⟨rfl, rfl⟩
              go_wp2_with fail
              refine (KS.out).mono ?_
              rintro e w1 ⟨rfl, hb⟩
              obtain ⟨c0, c1, c2, c3, c4, cf, cz⟩ := zero_cells hb
              go_wp2_with fail
              go_loop [7] (fun v => ∃ k : Nat, i + 1 ≤ k ∧ k ≤ s.size ∧ v = .int .i64 k ∧ highF s (s.size - k) k = highF s (s.size - (i + 1)) (i + 1)) (fun v => s.size - (intOf v).toNat)
              case atStart => exact ⟨i + 1, by omega, by omega, by go_num, rfl⟩
              case round =>
                obtain ⟨k, hk1, hk, rfl, hn⟩ := hrel
                by_cases hlt : k < s.size
                · have hxk : (s[k]).toNat = B s k := B_at s k hlt
                  by_cases hk2 : 128 ≤ B s k
                  · have t2 : decide ((128 : Int) ≤ ((B s k : Nat) : Int)) = true := by simp; omega
                    have D2 := Lib.hid ((high_go s k hlt hk2).symm.trans hn)
                    clear hn hk2
                    go_wp2_with fail
                    go_round
                    case rel => exact ⟨k + 1, by omega, by omega, by go_num, D2.out⟩
                    case measure => simp [intOf]; omega
                  · have e7 : highN s i = k := D3.out.trans (hn.symm.trans (high_stop s k (by omega)))
                    rw [e7] at D
                    have t2 : decide ((128 : Int) ≤ ((B s k : Nat) : Int)) = false := by simp; omega
                    clear hn e7 hk2
                    go_wp2_with fail
                    refine bodyPost_ret (v := (pieceT s 7 i k : Tok).val) (by simp [results, Tryd.results56, go_sem, Tok.val, Tok.cells, pieceT, c0, c1, c2, c3, c4]) rfl ?_
                    exact ⟨by rw [D.out], below_five (below_box hb) _ _ _ _ _⟩
                · have e7 : highN s i = k := D3.out.trans (hn.symm.trans (high_stop s k (by omega)))
                  rw [e7] at D
                  have t1n : decide (k < s.size) = false := decide_eq_false hlt
                  clear hn e7
                  go_wp2_with fail
                  refine bodyPost_ret (v := (pieceT s 7 i k : Tok).val) (by simp [results, Tryd.results56, go_sem, Tok.val, Tok.cells, pieceT, c0, c1, c2, c3, c4]) rfl ?_
                  exact ⟨by rw [D.out], below_five (below_box hb) _ _ _ _ _⟩
            · have th2 : decide ((128 : Int) ≤ ((B s i : Nat) : Int)) = false := by simp; omega
              rw [hH] at D
              clear hh hH
              generalize B s i = b at *
              go_enter Tryd.func56, Tryd.ntmps56
              go_wp2_with fail
              refine (KL.out _).mono ?_
              rintro e w1 ⟨rfl, rfl⟩
              go_wp2_with fail
              refine (KD.out _).mono ?_
              rintro e w1 ⟨rfl, rfl⟩
              go_wp2_with fail
              refine (K2.out _).mono ?_
              rintro e w1 ⟨rfl, rfl⟩
              go_wp2_with fail
              refine (KS.out).mono ?_
              rintro e w1 ⟨rfl, hb⟩
              obtain ⟨c0, c1, c2, c3, c4, cf, cz⟩ := zero_cells hb
              go_wp2_with fail
              go_loop [7] (fun v => v = .int .i64 ((i + 1 : Nat) : Int)) (fun v => 0)
              case atStart => exact (by go_num)
              case round =>
                subst hrel
                go_wp2_with fail
                refine bodyPost_ret (v := (pieceT s 7 i (i + 1) : Tok).val) (by simp [results, Tryd.results56, go_sem, Tok.val, Tok.cells, pieceT, c0, c1, c2, c3, c4]) rfl ?_
                exact ⟨by rw [D.out], below_five (below_box hb) _ _ _ _ _⟩
end Go.Proofs.YtlgklkokadbpeaaDoor
