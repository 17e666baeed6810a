import Derived.Test.YtlgklkokadbpeaaDoorSc9
import Derived.Lib.BufferRead
namespace Go.Proofs.YtlgklkokadbpeaaDoor
open Go.RowKit

theorem alloc_size (w : World) (o : Obj) : (w.alloc o).heap.size = w.heap.size + 1 := by simp
theorem row_text {w : World} {base n : Nat} {v : Value} {l : List UInt8} (h : w.ownsRow base 5 1 v n (bvals l)) :
    (convert 65 9 v).run Tryd.prog w = .ok (.string ⟨l.toArray⟩) w := by
  have hn : l.length = n := by have := h.1; simpa [bvals] using this
  rcases h.2 with ⟨rfl, h0⟩ | ⟨g, cap, cur, rfl, _, hg, _⟩
  · have hl : l = [] := List.eq_nil_of_length_eq_zero (by omega)
    rw [hl]
    exact Lib.run_convert_nil_bytes w 65 9 5 0 Tryd.underlying65 Tryd.underlying5 Tryd.underlying9
  · have hc := h.cells (g := g) rfl
    subst hn
    exact run_convert_bytes_back (P := Tryd.prog) w 65 9 5 ⟨g, 0, none⟩ cap l Tryd.underlying65 Tryd.underlying5 Tryd.underlying9 (fun j hj => hc j _ (by simp [bvals, List.getElem?_eq_getElem hj]))
set_option maxRecDepth 100000 in
set_option maxHeartbeats 4000000 in
theorem quoted_prog (s : ByteArray) (i : Nat) (w : World) (hs : s.size ≤ 1000000000) (hi : i < s.size) :
    Calls Tryd.prog 74 #[.string s, .int .i64 i] w fun e w' => e = .returned (quotedT s i).val ∧ Below w.heap.size w w' := by
  obtain ⟨i0, hi0, hz0, hz1, hz2⟩ := info_parts info5
  go_enter Tryd.func74, Tryd.ntmps74
  go_wp2
  go_loopw [5, 6, 7] (fun v r c wr => ∃ (k : Nat) (ok : Bool) (said : List UInt8), i + 1 ≤ k ∧ k ≤ s.size ∧ c = .int .i64 k ∧ r = .bool ok ∧ wr.ownsRow (w.alloc zeroTok).heap.size 5 1 v said.length (bvals said) ∧ said.length ≤ k ∧ quo s i k ok said = quotedT s i ∧ Below (w.alloc zeroTok).heap.size (w.alloc zeroTok) wr) (fun _ _ c _ => s.size - (intOf c).toNat)
  case atStart => exact ⟨i + 1, true, [], Nat.le_refl _, hi, by go_num, rfl, World.ownsRow_nil _ _ _ _, by simp, rfl, Below.refl _ _⟩
  case round =>
    obtain ⟨k, ok, said, hk1, hk, rfl, rfl, hown, hln, hq, hB⟩ := hrel
    have HB := Lib.hid hB
    have HQ := Lib.hid hq
    clear hB hq
    by_cases hlt : k < s.size
    · have hb := B_at s k hlt
      have hu := B_lt s k
      by_cases hnl : B s k = 10
      · have D := Lib.hid (show quotedT s i = pieceT s 7 i k by rw [← HQ.out]; exact quo_stop (fun h => h.2 hnl))
        have t1 : (((B s k : Nat) : Int) != 10) = false := by simp; omega
        clear hnl hu
        generalize B s k = b at *
        go_wp2_with fail
        refine (piece_prog s 7 i k wr (by omega) hk).mono ?_
        rintro e w2 ⟨rfl, hb2⟩
        have hb := below_step HB.out hb2
        obtain ⟨c0, c1, c2, c3, c4, cf, cz⟩ := zero_cells hb
        simp only [Tok.val, Tok.cells, pieceT]
        go_wp2_with fail
        refine bodyPost_ret (v := (pieceT s 7 i k).val) (by simp [results, Tryd.results74, go_sem, Tok.val, Tok.cells, pieceT, c0, c1, c2, c3, c4]) rfl ?_; exact ⟨by rw [D.out], below_five (below_box hb) _ _ _ _ _⟩

      have t1 : (((B s k : Nat) : Int) != 10) = true := by simp; omega
      by_cases hqt : B s k = 34
      · have t2 : (((B s k : Nat) : Int) == 34) = true := by simp; omega
        cases ok with
        | true =>
          have D := Lib.hid (show quotedT s i = ⟨3, ⟨said.toArray⟩, 0, i, k + 1⟩ by rw [← HQ.out, quo_open hlt, if_pos hnl, if_pos hqt, if_pos rfl])
          have hrun := row_text hown
          have hb' := HB.out
          obtain ⟨c0, c1, c2, c3, c4, cf, cz⟩ := zero_cells hb'
          clear hnl hu hqt hb'
          generalize B s k = b at *
          go_wp2_with fail
          refine bodyPost_ret (v := Tok.val ⟨3, ⟨said.toArray⟩, 0, i, k + 1⟩) (by simp [results, Tryd.results74, go_sem, Tok.val, Tok.cells, c0, c1, c2, c3, c4]) rfl ?_
          exact ⟨by rw [D.out], below_five (below_box HB.out) _ _ _ _ _⟩
        | false =>
          have D := Lib.hid (show quotedT s i = pieceT s 7 i (k + 1) by rw [← HQ.out, quo_open hlt, if_pos hnl, if_pos hqt, if_neg (by simp)])
          clear hnl hu hqt
          generalize B s k = b at *
          go_wp2_with fail
          refine (piece_prog s 7 i (k + 1) wr (by omega) hlt).mono ?_
          rintro e w2 ⟨rfl, hb2⟩
          have hb := below_step HB.out hb2
          obtain ⟨c0, c1, c2, c3, c4, cf, cz⟩ := zero_cells hb
          simp only [Tok.val, Tok.cells, pieceT]
          go_wp2_with fail
          refine bodyPost_ret (v := (pieceT s 7 i (k + 1)).val) (by simp [results, Tryd.results74, go_sem, Tok.val, Tok.cells, pieceT, c0, c1, c2, c3, c4]) rfl ?_; exact ⟨by rw [D.out], below_five (below_box hb) _ _ _ _ _⟩

      have t2 : (((B s k : Nat) : Int) == 34) = false := by simp; omega
      by_cases hes : B s k = 92 ∧ k + 1 < s.size ∧ B s (k + 1) ≠ 10
      · have D := Lib.hid (show quo s i (k + 2) (ok && (escB (B s (k + 1))).2) (said ++ [UInt8.ofNat (escB (B s (k + 1))).1]) = quotedT s i by rw [← HQ.out, quo_open hlt, if_pos hnl, if_neg hqt, if_pos hes])
        have t3 : (((B s k : Nat) : Int) == 92) = true := by simp; omega
        have hes2 := hes.2.2
        have t4 : (((B s (k + 1) : Nat) : Int) != 10) = true := by simp; omega
        have hk2 := hes.2.1
        have hb1 := B_at s (k + 1) hk2
        have hu1 := B_lt s (k + 1)
        have KE := Lib.hid (fun W => escape_prog (B s (k + 1)) W hu1)
        have hE := esc_lt (B s (k + 1))
        clear hnl hqt hes hes2 hu hu1
        generalize B s k = b at *
        generalize B s (k + 1) = b1 at *
        generalize escB b1 = x at *
        obtain ⟨xb, xo⟩ := x
        simp only at hE KE D
        have hpush := Lib.hid (pushes said xb hE)
        have HL := Lib.hid hln
        cases ok with
        | true =>
          simp only [Bool.true_and] at D
          go_wp2_with (first | (go_at_call 89; refine (KE.out _).mono ?_; rintro e w1 ⟨rfl, rfl⟩) | (at_builtin; refine wpList_append_own _ rfl _ _ 65 rfl (w.alloc zeroTok).heap.size 5 i0 (.int .u8 0) 1 1 Tryd.underlying65 hi0 hz0 hz1 hz2 rfl (by decide) _ _ _ rfl (hown.alloc _) ⟨wr.heap.size, 0, none⟩ 1 1 [.int .u8 xb] rfl rfl ?a1 ?a2 ?a3 ?a4 ?a5 ?_))
          case a1 => exact cell_one_new _ _ _
          case a2 => simp [Value.oneCell']
          case a3 => unfold maxLen; omega
          case a4 => omega
          case a5 => have := HB.out.size; simp at this ⊢; omega
          intro v' w1 hown' hgrow _
          have HR := Lib.hid (brow_more (w := w.alloc zeroTok) (m := [UInt8.ofNat xb]) rfl HB.out ((Below.refl _ _).alloc (Nat.le_refl _) _) hown (by rw [← bvals_app, hpush.out, alloc_size]; exact hown') hgrow)
          clear hown hown' hgrow
          go_wp2_with fail
          go_roundw
          case rel => exact ⟨k + 2, xo, said ++ [UInt8.ofNat xb], by omega, by omega, by go_num, rfl, HR.out.1, by simp; omega, D.out, HR.out.2⟩
          case measure => simp [intOf]; omega
        | false =>
          simp only [Bool.false_and] at D
          go_wp2_with (first | (go_at_call 89; refine (KE.out _).mono ?_; rintro e w1 ⟨rfl, rfl⟩) | (at_builtin; refine wpList_append_own _ rfl _ _ 65 rfl (w.alloc zeroTok).heap.size 5 i0 (.int .u8 0) 1 1 Tryd.underlying65 hi0 hz0 hz1 hz2 rfl (by decide) _ _ _ rfl (hown.alloc _) ⟨wr.heap.size, 0, none⟩ 1 1 [.int .u8 xb] rfl rfl ?b1 ?b2 ?b3 ?b4 ?b5 ?_))
          case b1 => exact cell_one_new _ _ _
          case b2 => simp [Value.oneCell']
          case b3 => unfold maxLen; omega
          case b4 => omega
          case b5 => have := HB.out.size; simp at this ⊢; omega
          intro v' w1 hown' hgrow _
          have HR := Lib.hid (brow_more (w := w.alloc zeroTok) (m := [UInt8.ofNat xb]) rfl HB.out ((Below.refl _ _).alloc (Nat.le_refl _) _) hown (by rw [← bvals_app, hpush.out, alloc_size]; exact hown') hgrow)
          clear hown hown' hgrow
          go_wp2_with fail
          go_roundw
          case rel => exact ⟨k + 2, false, said ++ [UInt8.ofNat xb], by omega, by omega, by go_num, rfl, HR.out.1, by simp; omega, D.out, HR.out.2⟩
          case measure => simp [intOf]; omega
      · have D := Lib.hid (show quo s i (k + 1) ok (said ++ [s.data[k]!]) = quotedT s i by rw [← HQ.out, quo_open hlt, if_pos hnl, if_neg hqt, if_neg hes])
        have hpush := Lib.hid (pushes_at s said k)
        have hcase : (((B s k : Nat) : Int) == 92) = false ∨ ((((B s k : Nat) : Int) == 92) = true ∧ s.size ≤ k + 1) ∨ ((((B s k : Nat) : Int) == 92) = true ∧ k + 1 < s.size ∧ (((B s (k + 1) : Nat) : Int) != 10) = false) := by
          by_cases h1 : B s k = 92
          · by_cases h2 : k + 1 < s.size
            · refine .inr (.inr ⟨by simp; omega, h2, ?_⟩)
              have : B s (k + 1) = 10 := Decidable.byContradiction fun h => hes ⟨h1, h2, h⟩
              simp; omega
            · exact .inr (.inl ⟨by simp; omega, by omega⟩)
          · exact .inl (by simp; omega)
        have hb1 : ∀ h : k + 1 < s.size, (s[k + 1]).toNat = B s (k + 1) := fun h => B_at s (k + 1) h
        clear hnl hqt hes hu
        generalize B s k = b at *
        generalize B s (k + 1) = b1 at *
        rcases hcase with t3 | ⟨t3, t4⟩ | ⟨t3, t5, t4⟩
        · go_wp2_with (at_builtin; refine wpList_append_own _ rfl _ _ 65 rfl (w.alloc zeroTok).heap.size 5 i0 (.int .u8 0) 1 1 Tryd.underlying65 hi0 hz0 hz1 hz2 rfl (by decide) _ _ _ rfl (hown.alloc _) ⟨wr.heap.size, 0, none⟩ 1 1 [.int .u8 b] rfl rfl ?c1 ?c2 ?c3 ?c4 ?c5 ?_)
          case c1 => exact cell_one_new _ _ _
          case c2 => simp [Value.oneCell']
          case c3 => unfold maxLen; omega
          case c4 => omega
          case c5 => have := HB.out.size; simp at this ⊢; omega
          intro v' w1 hown' hgrow _
          have HR := Lib.hid (brow_more (w := w.alloc zeroTok) (m := [s.data[k]!]) rfl HB.out ((Below.refl _ _).alloc (Nat.le_refl _) _) hown (by rw [← bvals_app, hpush.out, alloc_size]; exact hown') hgrow)
          clear hown hown' hgrow
          go_wp2_with fail
          go_roundw
          case rel => exact ⟨k + 1, ok, said ++ [s.data[k]!], by omega, by omega, by go_num, rfl, HR.out.1, by simp; omega, D.out, HR.out.2⟩
          case measure => simp [intOf]; omega
        · go_wp2_with (at_builtin; refine wpList_append_own _ rfl _ _ 65 rfl (w.alloc zeroTok).heap.size 5 i0 (.int .u8 0) 1 1 Tryd.underlying65 hi0 hz0 hz1 hz2 rfl (by decide) _ _ _ rfl (hown.alloc _) ⟨wr.heap.size, 0, none⟩ 1 1 [.int .u8 b] rfl rfl ?d1 ?d2 ?d3 ?d4 ?d5 ?_)
          case d2 => simp [Value.oneCell']
          case d3 => unfold maxLen; omega
          case d4 => omega
          case d5 => have := HB.out.size; simp at this ⊢; omega
          intro v' w1 hown' hgrow _
          have HR := Lib.hid (brow_more (w := w.alloc zeroTok) (m := [s.data[k]!]) rfl HB.out ((Below.refl _ _).alloc (Nat.le_refl _) _) hown (by rw [← bvals_app, hpush.out, alloc_size]; exact hown') hgrow)
          clear hown hown' hgrow
          go_wp2_with fail
          go_roundw
          case rel => exact ⟨k + 1, ok, said ++ [s.data[k]!], by omega, by omega, by go_num, rfl, HR.out.1, by simp; omega, D.out, HR.out.2⟩
          case measure => simp [intOf]; omega
        · go_wp2_with (at_builtin; refine wpList_append_own _ rfl _ _ 65 rfl (w.alloc zeroTok).heap.size 5 i0 (.int .u8 0) 1 1 Tryd.underlying65 hi0 hz0 hz1 hz2 rfl (by decide) _ _ _ rfl (hown.alloc _) ⟨wr.heap.size, 0, none⟩ 1 1 [.int .u8 b] rfl rfl ?e1 ?e2 ?e3 ?e4 ?e5 ?_)
          case e1 => exact cell_one_new _ _ _
          case e2 => simp [Value.oneCell']
          case e3 => unfold maxLen; omega
          case e4 => omega
          case e5 => have := HB.out.size; simp at this ⊢; omega
          intro v' w1 hown' hgrow _
          have HR := Lib.hid (brow_more (w := w.alloc zeroTok) (m := [s.data[k]!]) rfl HB.out ((Below.refl _ _).alloc (Nat.le_refl _) _) hown (by rw [← bvals_app, hpush.out, alloc_size]; exact hown') hgrow)
          clear hown hown' hgrow
          go_wp2_with fail
          go_roundw
          case rel => exact ⟨k + 1, ok, said ++ [s.data[k]!], by omega, by omega, by go_num, rfl, HR.out.1, by simp; omega, D.out, HR.out.2⟩
          case measure => simp [intOf]; omega
    · obtain rfl : k = s.size := by omega
      have D := Lib.hid (show quotedT s i = pieceT s 7 i s.size by rw [← HQ.out]; exact quo_stop (by omega))
      go_wp2_with fail
      refine (piece_prog s 7 i s.size wr (by omega) (Nat.le_refl _)).mono ?_
      rintro e w2 ⟨rfl, hb2⟩
      have hb := below_step HB.out hb2
      obtain ⟨c0, c1, c2, c3, c4, cf, cz⟩ := zero_cells hb
      simp only [Tok.val, Tok.cells, pieceT]
      go_wp2_with fail
      refine bodyPost_ret (v := (pieceT s 7 i s.size).val) (by simp [results, Tryd.results74, go_sem, Tok.val, Tok.cells, pieceT, c0, c1, c2, c3, c4]) rfl ?_; exact ⟨by rw [D.out], below_five (below_box hb) _ _ _ _ _⟩

end Go.Proofs.YtlgklkokadbpeaaDoor
