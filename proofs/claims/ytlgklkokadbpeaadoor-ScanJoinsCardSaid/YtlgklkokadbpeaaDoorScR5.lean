import Derived.Test.YtlgklkokadbpeaaDoorSc16
import Derived.Test.YtlgklkokadbpeaaDoorScR3
import Derived.Test.YtlgklkokadbpeaaDoorScR4
namespace Go.Proofs.YtlgklkokadbpeaaDoor
open Go.RowKit
theorem cut_skipN (s : ByteArray) (l : List Tok) : ∀ f i, s.size - i = f → i ≤ s.size → cut s (skipN s i) l = cut s i l := by
  intro f
  induction f using Nat.strongRecOn with
  | _ f ih =>
    intro i hf hi
    by_cases h : i < s.size
    · cases hs : skipStep s i with
      | some j =>
        have hb := skip_bd h hs
        rw [skip_go h hs, cut_skip h hs]
        exact ih (s.size - j) (by omega) j rfl hb.2
      | none => rw [skip_stop hs]
    · rw [skip_end (by omega)]
set_option maxRecDepth 100000 in
set_option maxHeartbeats 4000000 in
theorem cut_ref (s : ByteArray) (w : World) (hs : s.size ≤ 1000000000) :
    Calls Tryd.prog 31 #[.string s] w (CutPost s w) := by
  obtain ⟨i0, hi0, hz0, hz1, hz2⟩ := info_parts infoT
  have K0 := Lib.hid (skip_ref s 0 w hs (Nat.zero_le _))
  have hb0 := skipN_bd s _ 0 rfl (Nat.zero_le _)
  have hq0 := Lib.hid (cut_skipN s [] _ 0 rfl (Nat.zero_le _))
  generalize skipN s 0 = k0 at *
  obtain ⟨-, hk0, hn0⟩ := hb0
  have HN0 := Lib.hid hn0
  clear hn0
  go_enter Tryd.func31, Tryd.ntmps31
  go_wp2_with fail
  refine K0.out.mono ?_
  rintro e w1 ⟨rfl, rfl⟩
  go_wp2_with fail
  go_loopw [4, 5, 6] (fun v c _ wr => ∃ (k : Nat) (l : List Tok), k ≤ s.size ∧ (k < s.size → skipStep s k = none) ∧ c = .int .i64 k ∧ wr.ownsRow w.heap.size 63 5 v l.length (tokCells l) ∧ l.length ≤ 20000 ∧ cut s k l = cut s 0 [] ∧ Below w.heap.size w wr) (fun _ c _ _ => s.size - (intOf c).toNat)
  case atStart => exact ⟨k0, [], hk0, HN0.out, rfl, World.ownsRow_nil _ _ _ _, by simp, hq0.out, Below.refl _ _⟩
  case round =>
    obtain ⟨k, l, hk, hsk0, rfl, hown, hln, hq, hB⟩ := hrel
    obtain ⟨A, c, rfl⟩ := own_form hown
    have HB := Lib.hid hB
    have HQ := Lib.hid hq
    clear hB hq
    by_cases hlt : k < s.size
    · have hsk := hsk0 hlt
      clear hsk0
      by_cases hfull : l.length = 20000
      · have hcn := HQ.out.symm.trans (cut_full hlt hsk hfull)
        have DL := Lib.hid (cutL_none hcn)
        have DE := Lib.hid (cutE_none hcn)
        have tf : (((l.length : Nat) : Int) == 20000) = true := by simp; omega
        clear hsk hfull hcn hown HQ
        go_wp2_with fail
        go_ret2
        exact cut_ret rfl DL.out DE.out (World.ownsRow_nil _ _ _ _) HB.out
      · have D0 := (cut_tok hlt hsk hfull).symm.trans HQ.out
        have hob := one_bd s k hlt
        have tf : (((l.length : Nat) : Int) == 20000) = false := by simp; omega
        have hl2 : l.length + 1 ≤ 20000 := by omega
        have KO := Lib.hid (token_ref s k wr hs hlt)
        clear hsk hfull
        generalize oneT s k = tk at *
        have hcell := Lib.hid (fun W => cell_five_new W tk)
        have hones := Lib.hid (cells_one tk)
        have KS := Lib.hid (fun W => skip_ref s tk.end_ W hs hob.2)
        have hbs := skipN_bd s _ tk.end_ rfl hob.2
        rw [← cut_skipN s _ _ tk.end_ rfl hob.2] at D0
        have D := Lib.hid D0
        clear D0
        generalize skipN s tk.end_ = e2 at *
        obtain ⟨hb1', hb2', hb3'⟩ := hbs
        have HN := Lib.hid hb3'
        clear hb3'
        have HO := Lib.hid hown
        clear hown
        go_wp2_with fail
        refine KO.out.mono ?_
        rintro e w1 ⟨rfl, hb1⟩
        have hown1 := own_below HO.out hb1
        have hsz1 := hb1.size
        have HB1 := Lib.hid hb1
        clear hb1
        simp only [Tok.val, Tok.cells]
        go_wp2_with (at_builtin; refine wpList_append_own _ rfl _ _ 57 rfl w.heap.size 63 i0 (.agg #[.int .i64 0, .string ⟨#[]⟩, .int .i64 0, .int .i64 0, .int .i64 0]) 5 48 Tryd.underlying57 hi0 hz0 hz1 hz2 rfl (by decide) _ _ _ rfl ((hown1.alloc _).alloc _) ⟨w1.heap.size + 1, 0, none⟩ 1 1 tk.cells rfl rfl ?a1 ?a2 ?a3 ?a4 ?a5 ?_)
        case a1 => have := hcell.out (w1.alloc (.cells tk.cells.toArray 63)); rw [alloc_size] at this; exact this
        case a2 => exact hones.out
        case a3 => unfold maxLen; omega
        case a4 => omega
        case a5 => have := HB.out.size; simp at this ⊢; omega
        intro v' w2 hown' hgrow _
        have hc8 : w2.cell? ⟨w1.heap.size, 4, none⟩ = some (.int .i64 tk.end_) := by
          rw [World.cell?_of_block (hgrow.block w1.heap.size (by rw [alloc_size, alloc_size]; omega) (fun e => by have := (HO.out.lt _ e.symm).2; omega))]
          exact (cell_box w1 _ _ _ 4).trans rfl
        have HR := Lib.hid (trow_more (t := tk) HB.out ((HB1.out.alloc HB1.out.size _).alloc (by have := HB1.out.size; simp; omega) _) HO.out hown' hgrow)
        clear hown' hgrow hown1
        go_wp2_with fail
        refine (KS.out _).mono ?_
        rintro e w3 ⟨rfl, rfl⟩
        go_wp2_with fail
        go_roundw
        case rel => exact ⟨e2, l ++ [tk], hb2', HN.out, rfl, HR.out.1, by simp; omega, D.out, HR.out.2⟩
        case measure => show s.size - (e2 : Int).toNat < s.size - (k : Int).toNat; omega
    · obtain rfl : k = s.size := by omega
      have hcs := HQ.out.symm.trans (cut_stop (l := l) (Nat.le_refl _))
      have DL := Lib.hid (cutL_some hcs)
      have DE := Lib.hid (cutE_some hcs)
      have hcell := Lib.hid (fun W => cell_five_new W (endT s))
      have hones := Lib.hid (cells_one (endT s))
      clear hcs HQ hsk0
      go_wp2_with (at_builtin; refine wpList_append_own _ rfl _ _ 57 rfl w.heap.size 63 i0 (.agg #[.int .i64 0, .string ⟨#[]⟩, .int .i64 0, .int .i64 0, .int .i64 0]) 5 48 Tryd.underlying57 hi0 hz0 hz1 hz2 rfl (by decide) _ _ _ rfl (hown.alloc _) ⟨wr.heap.size, 0, none⟩ 1 1 (endT s).cells rfl rfl ?b1 ?b2 ?b3 ?b4 ?b5 ?_)
      case b1 => exact hcell.out _
      case b2 => exact hones.out
      case b3 => unfold maxLen; omega
      case b4 => omega
      case b5 => have := HB.out.size; simp at this ⊢; omega
      intro v' w2 hown' hgrow _
      have HR := Lib.hid (trow_more (t := endT s) HB.out ((Below.refl _ _).alloc (Nat.le_refl _) _) hown hown' hgrow)
      clear hown' hgrow hown
      go_wp2_with fail
      go_ret2
      exact cut_ret rfl DL.out DE.out HR.out.1 HR.out.2
end Go.Proofs.YtlgklkokadbpeaaDoor
