import Derived.Test.YtlgklkokadbpeaaDoorSc15
namespace Go.Proofs.YtlgklkokadbpeaaDoor
open Go.RowKit
theorem infoT : (Tryd.prog.info? 63).map (fun i => (i.zero, i.size, i.bytes)) = some (some (.agg #[.int .i64 0, .string ⟨#[]⟩, .int .i64 0, .int .i64 0, .int .i64 0]), 5, 48) := by kernel_rfl
theorem cell_five_new (w : World) (t : Tok) : ∀ j u, t.cells[j]? = some u → (w.alloc (.cells t.cells.toArray 63)).cell? ((⟨w.heap.size, 0, none⟩ : Addr).add j) = some u := by
  intro j u hj
  match j, hj with
  | 0, hj => simp [Tok.cells] at hj; subst hj; simp [Addr.add, Tok.cells]
  | 1, hj => simp [Tok.cells] at hj; subst hj; simp [Addr.add, Tok.cells]
  | 2, hj => simp [Tok.cells] at hj; subst hj; simp [Addr.add, Tok.cells]
  | 3, hj => simp [Tok.cells] at hj; subst hj; simp [Addr.add, Tok.cells]
  | 4, hj => simp [Tok.cells] at hj; subst hj; simp [Addr.add, Tok.cells]
  | (j + 5), hj => simp [Tok.cells] at hj
theorem cells_one (t : Tok) : ∀ u ∈ t.cells, u.oneCell' = true := by
  intro u hu
  simp only [Tok.cells, List.mem_cons, List.not_mem_nil, or_false] at hu
  rcases hu with rfl | rfl | rfl | rfl | rfl <;> rfl
/-- what an append does to the list of tokens -/
theorem trow_more {w wr w1 wo : World} {v v' : Value} {l : List Tok} {t : Tok} (hb : Below w.heap.size w wr) (ho : Below wr.heap.size wr wo)
    (hown : wr.ownsRow w.heap.size 63 5 v l.length (tokCells l))
    (hown' : w1.ownsRow w.heap.size 63 5 v' (l.length + 1) (tokCells l ++ t.cells)) (hg : wo.grownBy w1 v.ownBlock) :
    w1.ownsRow w.heap.size 63 5 v' (l ++ [t]).length (tokCells (l ++ [t])) ∧ Below w.heap.size w w1 := by
  refine ⟨?_, (below_step hb ho).grown hg (by have := hb.size; have := ho.size; omega) (fun j hj => (hown.lt j hj).1)⟩
  rw [tokCells_app, List.length_append, show tokCells [t] = t.cells from by simp [tokCells]]; exact hown'
theorem own_form {w : World} {base : Nat} {e : TypeId} {size n : Nat} {v : Value} {xs : List Value} (h : w.ownsRow base e size v n xs) : ∃ A c, v = .slice A n c := by
  rcases h.2 with ⟨hv, hn⟩ | ⟨g, cap, cur, hv, _⟩
  · exact ⟨none, 0, by rw [hv, hn]⟩
  · exact ⟨_, cap, hv⟩
theorem own_below {w w' : World} {base : Nat} {e : TypeId} {size n : Nat} {v : Value} {xs : List Value} (h : w.ownsRow base e size v n xs) (hb : Below w.heap.size w w') : w'.ownsRow base e size v n xs := by
  refine ⟨h.1, ?_⟩
  rcases h.2 with h0 | ⟨g, cap, cur, hv, hbg, hg, h1, h2, h3, h4⟩
  · exact .inl h0
  · have hlt : g < w.heap.size := by
      rcases Nat.lt_or_ge g w.heap.size with h | h
      · exact h
      · rw [Array.getElem?_eq_none h] at hg; cases hg
    exact .inr ⟨g, cap, cur, hv, hbg, (hb.block g hlt).trans hg, h1, h2, h3, h4⟩
theorem cell_box (w : World) (cs : Array Value) (t : TypeId) (o : Obj) (i : Nat) : ((w.alloc (.cells cs t)).alloc o).cell? ⟨w.heap.size, i, none⟩ = cs[i]? := by
  rw [World.cell?_alloc_lt _ _ _ (by simp)]
  exact cell_of_row _ _ _ _ _ _ (heap_alloc_new w _)
theorem cut_ret {s : ByteArray} {w w' : World} {e : Ending} {v : Value} {l : List Tok} {r : Nat} (he : e = .returned (.tuple #[v, .int .i64 r])) (hl : cutL s = l) (hr : cutE s = r)
    (ho : w'.ownsRow w.heap.size 63 5 v l.length (tokCells l)) (hb : Below w.heap.size w w') : CutPost s w e w' := by
  subst hl hr
  exact ⟨v, he, ho, hb⟩
set_option maxRecDepth 100000 in
set_option maxHeartbeats 4000000 in
theorem cut_prog (s : ByteArray) (w : World) (hs : s.size ≤ 1000000000) (hM : HasMax w) (hE : HasErrs w) :
    Calls Tryd.prog 30 #[.string s] w (CutPost s w) := by
  obtain ⟨i0, hi0, hz0, hz1, hz2⟩ := info_parts infoT
  go_enter Tryd.func30, Tryd.ntmps30
  go_wp2_with fail
  go_step3
  go_wp2_with fail
  go_step3
  go_wp2_with fail
  go_loopw [4, 5, 6, 7, 8] (fun v c _ _ _ wr => ∃ (k : Nat) (l : List Tok), k ≤ s.size ∧ c = .int .i64 k ∧ wr.ownsRow w.heap.size 63 5 v l.length (tokCells l) ∧ l.length ≤ 20000 ∧ cut s k l = cut s 0 [] ∧ Below w.heap.size w wr) (fun _ c _ _ _ _ => s.size - (intOf c).toNat)
  case atStart => exact ⟨0, [], Nat.zero_le _, by go_num, World.ownsRow_nil _ _ _ _, by simp, rfl, Below.refl _ _⟩
  case round =>
    obtain ⟨k, l, hk, rfl, hown, hln, hq, hB⟩ := hrel
    obtain ⟨A, c, rfl⟩ := own_form hown
    have HB := Lib.hid hB
    have HQ := Lib.hid hq
    clear hB hq
    by_cases hlt : k < s.size
    · have hb := B_at s k hlt
      have hu := B_lt s k
      have KB0 := fun W => blank_prog (B s k) W hu
      cases hbl : blankB (B s k) with
      | true =>
        rw [hbl] at KB0
        have KB := Lib.hid KB0
        have D := Lib.hid ((cut_skip (l := l) hlt (show skipStep s k = some (k + 1) from if_pos hbl)).symm.trans HQ.out)
        have HO := Lib.hid hown
        clear KB0 hbl hown
        go_wp2_with fail
        refine (KB.out _).mono ?_
        rintro e w1 ⟨rfl, rfl⟩
        go_wp2_with fail
        go_roundw
        case rel => exact ⟨k + 1, l, by omega, by go_num, HO.out, hln, D.out, HB.out⟩
        case measure => simp [intOf]; omega
      | false =>
        rw [hbl] at KB0
        have KB := Lib.hid KB0
        have hM' := max_below hM HB.out
        have hE' := errs_below hE HB.out
        have KR0 := remark_prog s k wr hs hlt hM'
        have hrem : (∃ j, skipStep s k = some j ∧ remarkR s k = (j, true)) ∨ (skipStep s k = none ∧ remarkR s k = (0, false)) := by
          unfold skipStep remarkR
          rw [if_neg (by simp [hbl])]
          split
          · exact .inl ⟨_, rfl, rfl⟩
          · split
            · exact .inl ⟨_, rfl, rfl⟩
            · exact .inr ⟨rfl, rfl⟩
        rcases hrem with ⟨j, hsk, hrr⟩ | ⟨hsk, hrr⟩
        · rw [hrr] at KR0
          have KR := Lib.hid KR0
          have D := Lib.hid ((cut_skip (l := l) hlt hsk).symm.trans HQ.out)
          have hj := skip_bd hlt hsk
          have HO := Lib.hid hown
          clear KB0 KR0 hbl hown hsk hrr hM' hE'
          go_wp2_with fail
          refine (KB.out _).mono ?_
          rintro e w1 ⟨rfl, rfl⟩
          go_wp2_with fail
          refine KR.out.mono ?_
          rintro e w1 ⟨rfl, rfl⟩
          go_wp2_with fail
          go_roundw
          case rel => exact ⟨j, l, by omega, rfl, HO.out, hln, D.out, HB.out⟩
          case measure => simp [intOf]; omega
        · rw [hrr] at KR0
          have KR := Lib.hid KR0
          by_cases hfull : l.length = 20000
          · have hcn := HQ.out.symm.trans (cut_full hlt hsk hfull)
            have DL := Lib.hid (cutL_none hcn)
            have DE := Lib.hid (cutE_none hcn)
            have tf : (((l.length : Nat) : Int) == 20000) = true := by simp; omega
            clear KB0 KR0 hbl hsk hrr hM' hE' hfull hcn hown HQ
            go_wp2_with fail
            refine (KB.out _).mono ?_
            rintro e w1 ⟨rfl, rfl⟩
            go_wp2_with fail
            refine KR.out.mono ?_
            rintro e w1 ⟨rfl, rfl⟩
            go_wp2_with fail
            try rw [Exit.noGoto_ret]
            go_ret2
            exact cut_ret rfl DL.out DE.out (World.ownsRow_nil _ _ _ _) HB.out
          · have D := Lib.hid ((cut_tok hlt hsk hfull).symm.trans HQ.out)
            have hob := one_bd s k hlt
            have tf : (((l.length : Nat) : Int) == 20000) = false := by simp; omega
            have hl2 : l.length + 1 ≤ 20000 := by omega
            have KO := Lib.hid (one_prog s k wr hs hlt hE')
            clear KB0 KR0 hbl hsk hrr hM' hE' hfull
            generalize oneT s k = tk at *
            have hcell := Lib.hid (fun W => cell_five_new W tk)
            have hones := Lib.hid (cells_one tk)
            have HO := Lib.hid hown
            clear hown
            go_wp2_with fail
            refine (KB.out _).mono ?_
            rintro e w1 ⟨rfl, rfl⟩
            go_wp2_with fail
            refine KR.out.mono ?_
            rintro e w1 ⟨rfl, rfl⟩
            go_wp2_with fail
            refine KO.out.mono ?_
            rintro e w1 ⟨rfl, hb1⟩
            have hown1 := own_below HO.out hb1
            have hsz1 := hb1.size
            have HB1 := Lib.hid hb1
            clear hb1
            simp only [Tok.val, Tok.cells]
            go_wp2_with (at_builtin; refine wpList_append_own _ rfl _ _ 57 rfl w.heap.size 63 i0 (.agg #[.int .i64 0, .string ⟨#[]⟩, .int .i64 0, .int .i64 0, .int .i64 0]) 5 48 Tryd.underlying57 hi0 hz0 hz1 hz2 rfl (by decide) _ _ _ rfl ((hown1.alloc _).alloc _) ⟨w1.heap.size + 1, 0, none⟩ 1 1 tk.cells rfl rfl ?a1 ?a2 ?a3 ?a4 ?a5 ?_)
            case a1 => have := hcell.out (w1.alloc (.cells tk.cells.toArray 63)); rw [alloc_size] at this; exact this
            case a2 => exact hones.out
            case a3 => unfold maxLen; omega
            case a4 => omega
            case a5 => have := HB.out.size; simp at this ⊢; omega
            intro v' w2 hown' hgrow _
            have hc8 : w2.cell? ⟨w1.heap.size, 4, none⟩ = some (.int .i64 tk.end_) := by
              rw [World.cell?_of_block (hgrow.block w1.heap.size (by rw [alloc_size, alloc_size]; omega) (fun e => by have := (HO.out.lt _ e.symm).2; omega))]
              exact (cell_box w1 _ _ _ 4).trans rfl
            have HR := Lib.hid (trow_more (t := tk) HB.out ((HB1.out.alloc HB1.out.size _).alloc (by have := HB1.out.size; simp; omega) _) HO.out hown' hgrow)
            clear hown' hgrow hown1
            go_wp2_with fail
            go_roundw
            case rel => exact ⟨tk.end_, l ++ [tk], hob.2, rfl, HR.out.1, by simp; omega, D.out, HR.out.2⟩
            case measure => show s.size - (tk.end_ : Int).toNat < s.size - (k : Int).toNat; omega
    · obtain rfl : k = s.size := by omega
      have hcs := HQ.out.symm.trans (cut_stop (l := l) (Nat.le_refl _))
      have DL := Lib.hid (cutL_some hcs)
      have DE := Lib.hid (cutE_some hcs)
      have hcell := Lib.hid (fun W => cell_five_new W (endT s))
      have hones := Lib.hid (cells_one (endT s))
      clear hcs HQ
      go_wp2_with (at_builtin; refine wpList_append_own _ rfl _ _ 57 rfl w.heap.size 63 i0 (.agg #[.int .i64 0, .string ⟨#[]⟩, .int .i64 0, .int .i64 0, .int .i64 0]) 5 48 Tryd.underlying57 hi0 hz0 hz1 hz2 rfl (by decide) _ _ _ rfl (hown.alloc _) ⟨wr.heap.size, 0, none⟩ 1 1 (endT s).cells rfl rfl ?b1 ?b2 ?b3 ?b4 ?b5 ?_)
      case b1 => exact hcell.out _
      case b2 => exact hones.out
      case b3 => unfold maxLen; omega
      case b4 => omega
      case b5 => have := HB.out.size; simp at this ⊢; omega
      intro v' w2 hown' hgrow _
      have HR := Lib.hid (trow_more (t := endT s) HB.out ((Below.refl _ _).alloc (Nat.le_refl _) _) hown hown' hgrow)
      clear hown' hgrow hown
      go_wp2_with fail
      try rw [Exit.noGoto_ret]
      go_ret2
      exact cut_ret rfl DL.out DE.out HR.out.1 HR.out.2
end Go.Proofs.YtlgklkokadbpeaaDoor
