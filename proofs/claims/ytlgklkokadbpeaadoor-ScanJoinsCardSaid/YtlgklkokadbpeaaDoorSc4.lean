import Derived.Test.YtlgklkokadbpeaaDoorSc3
import Derived.Lib.AppendStr
import Derived.Laws.IdiomStrings
import Derived.WalkSmall
namespace Go.Proofs.YtlgklkokadbpeaaDoor
open Go.RowKit

theorem info5 : (Tryd.prog.info? 5).map (fun i => (i.zero, i.size, i.bytes)) = some (some (.int .u8 0), 1, 1) := by kernel_rfl
def bvals (l : List UInt8) : List Value := l.map fun b => Value.int .u8 (b.toNat : Int)
theorem bvals_app (l m : List UInt8) : bvals (l ++ m) = bvals l ++ bvals m := by simp [bvals]
def escL (b : UInt8) : List UInt8 := if b = 10 then [92, 110] else if b = 9 then [92, 116] else if b = 92 then [92, 92] else if b = 34 then [92, 34] else [b]
/-- What stands behind the first mark, of the first k bytes. -/
def quoteF (s : ByteArray) : Nat → List UInt8
  | 0 => [34]
  | k + 1 => quoteF s k ++ escL (s.data[k]!)
def quoteL (s : ByteArray) : List UInt8 := quoteF s s.size ++ [34]
theorem escL_len (b : UInt8) : (escL b).length ≤ 2 := by unfold escL; repeat' split
                                                         all_goals simp
theorem quoteF_len (s : ByteArray) (k : Nat) : (quoteF s k).length ≤ 2 * k + 1 := by
  induction k with
  | zero => simp [quoteF]
  | succ k ih => have := escL_len (s.data[k]!); simp only [quoteF, List.length_append]; omega
theorem byte_of {s : ByteArray} {k n : Nat} (h : B s k = n) (hn : n < 256) : s.data[k]! = UInt8.ofNat n := by
  apply UInt8.toNat_inj.1
  have : (s.data[k]!).toNat = n := h
  rw [this]; simp; omega
theorem quote_hit {s : ByteArray} {k n : Nat} (h : B s k = n) (m : List UInt8) (hn : n < 256) (he : escL (UInt8.ofNat n) = m) : quoteF s (k + 1) = quoteF s k ++ m := by
  rw [quoteF, byte_of h hn, he]
theorem quote_miss {s : ByteArray} {k : Nat} (h1 : ¬ B s k = 10) (h2 : ¬ B s k = 9) (h3 : ¬ B s k = 92) (h4 : ¬ B s k = 34) : quoteF s (k + 1) = quoteF s k ++ [s.data[k]!] := by
  have e : ∀ n : Nat, n < 256 → ¬ B s k = n → ¬ s.data[k]! = UInt8.ofNat n := fun n hn h h2 => h (by unfold B; rw [h2]; simp; omega)
  rw [quoteF, escL, if_neg (show ¬ s.data[k]! = 10 from e 10 (by omega) h1), if_neg (show ¬ s.data[k]! = 9 from e 9 (by omega) h2), if_neg (show ¬ s.data[k]! = 92 from e 92 (by omega) h3), if_neg (show ¬ s.data[k]! = 34 from e 34 (by omega) h4)]
theorem owns_byte (w : World) (x : Value) : (w.alloc (.cells #[x] 5)).ownsRow w.heap.size 5 1 (.slice (some ⟨w.heap.size, 0, none⟩) 1 1) 1 [x] :=
  ⟨rfl, .inr ⟨w.heap.size, 1, #[x], rfl, Nat.le_refl _, heap_alloc_new w _, Nat.le_refl _, by decide, rfl, rfl⟩⟩
theorem below_step {w a b : World} (h : Below w.heap.size w a) (h' : Below a.heap.size a b) : Below w.heap.size w b := h.trans (h'.mono h.size)
/-- what an append does to the loop's relation -/
theorem brow_more {w wr w1 wo : World} {v v' : Value} {l l' m : List UInt8} (hn : l' = l ++ m) (hb : Below w.heap.size w wr) (ho : Below wr.heap.size wr wo)
    (hown : wr.ownsRow w.heap.size 5 1 v l.length (bvals l))
    (hown' : w1.ownsRow w.heap.size 5 1 v' (l.length + m.length) (bvals l ++ bvals m)) (hg : wo.grownBy w1 v.ownBlock) :
    w1.ownsRow w.heap.size 5 1 v' l'.length (bvals l') ∧ Below w.heap.size w w1 := by
  refine ⟨by rw [hn, bvals_app]; simpa using hown', (below_step hb ho).grown hg (by have := hb.size; have := ho.size; omega) (fun j hj => (hown.lt j hj).1)⟩
/-- the row, read back as a string -/
theorem row_string {w : World} {base n : Nat} {v : Value} {l : List UInt8} (h : w.ownsRow base 5 1 v n (bvals l)) (hl : 0 < l.length) :
    (convert 65 9 v).run Tryd.prog w = .ok (.string ⟨l.toArray⟩) w := by
  have hn : l.length = n := by have := h.1; simpa [bvals] using this
  rcases h.2 with ⟨_, h0⟩ | ⟨g, cap, cur, rfl, _, hg, _⟩
  · omega
  · have hc := h.cells (g := g) rfl
    subst hn
    exact run_convert_bytes_back (P := Tryd.prog) w 65 9 5 ⟨g, 0, none⟩ cap l Tryd.underlying65 Tryd.underlying5 Tryd.underlying9 (fun j hj => hc j _ (by simp [bvals, List.getElem?_eq_getElem hj]))
def QuotePost (s : ByteArray) (w : World) (e : Ending) (w' : World) : Prop := e = .returned (.string ⟨(quoteL s).toArray⟩) ∧ Below w.heap.size w w'

set_option maxRecDepth 100000 in
set_option maxHeartbeats 1000000 in
theorem quote_prog (s : ByteArray) (w : World) (hs : s.size ≤ 1000000000) : Calls Tryd.prog 37 #[.string s] w (QuotePost s w) := by
  obtain ⟨i0, hi, hz0, hz1, hz2⟩ := info_parts info5
  go_enter Tryd.func37, Tryd.ntmps37
  go_wp2
  go_loopw [3, 9] (fun v i wr => ∃ k : Nat, k ≤ s.size ∧ i = .int .i64 k ∧ wr.ownsRow w.heap.size 5 1 v (quoteF s k).length (bvals (quoteF s k)) ∧ Below w.heap.size w wr) (fun _ i _ => s.size - (intOf i).toNat)
  case atStart => exact ⟨0, by omega, by go_num, owns_byte w _, (Below.refl _ _).alloc (Nat.le_refl _) _⟩
  case round =>
    obtain ⟨k, hk, rfl, hown, hB⟩ := hrel
    have HB := Lib.hid hB
    have hsz := hB.size
    clear hB
    have hln := quoteF_len s k
    by_cases hlt : k < s.size
    · have hb := B_at s k hlt
      have hu := B_lt s k
      by_cases ha : B s k = 10
      · have HN := Lib.hid (quote_hit ha [92, 110] (by omega) (by decide))
        rw [ha] at hb
        clear ha hu
        go_wp2_with (at_builtin; refine wpList_append_own _ rfl _ _ 65 rfl w.heap.size 5 i0 (.int .u8 0) 1 1 Tryd.underlying65 hi hz0 hz1 hz2 rfl (by decide) _ _ _ rfl (hown.alloc _) ⟨wr.heap.size, 0, none⟩ 2 2 [.int .u8 92, .int .u8 110] rfl rfl ?a1 ?a2 ?a3 ?a4 ?a5 ?_)
        case a1 => exact cell_two_new _ _ _ _
        case a2 => simp [Value.oneCell']
        case a3 => unfold maxLen; omega
        case a4 => omega
        case a5 => simp; omega
        intro v' w1 hown' hgrow _
        have HR := Lib.hid (brow_more HN.out HB.out ((Below.refl _ _).alloc (Nat.le_refl _) _) hown hown' hgrow)
        clear hown hown' hgrow
        go_wp2
        go_roundw
        case rel => exact ⟨k + 1, by omega, by go_num, HR.out⟩
        case measure => simp [intOf]; omega
      by_cases hb' : B s k = 9
      · have HN := Lib.hid (quote_hit hb' [92, 116] (by omega) (by decide))
        rw [hb'] at hb
        clear hb' hu
        go_wp2_with (at_builtin; refine wpList_append_own _ rfl _ _ 65 rfl w.heap.size 5 i0 (.int .u8 0) 1 1 Tryd.underlying65 hi hz0 hz1 hz2 rfl (by decide) _ _ _ rfl (hown.alloc _) ⟨wr.heap.size, 0, none⟩ 2 2 [.int .u8 92, .int .u8 116] rfl rfl ?b1 ?b2 ?b3 ?b4 ?b5 ?_)
        case b1 => exact cell_two_new _ _ _ _
        case b2 => simp [Value.oneCell']
        case b3 => unfold maxLen; omega
        case b4 => omega
        case b5 => simp; omega
        intro v' w1 hown' hgrow _
        have HR := Lib.hid (brow_more HN.out HB.out ((Below.refl _ _).alloc (Nat.le_refl _) _) hown hown' hgrow)
        clear hown hown' hgrow
        go_wp2
        go_roundw
        case rel => exact ⟨k + 1, by omega, by go_num, HR.out⟩
        case measure => simp [intOf]; omega
      by_cases hc : B s k = 92
      · have HN := Lib.hid (quote_hit hc [92, 92] (by omega) (by decide))
        rw [hc] at hb
        clear hc hu
        go_wp2_with (at_builtin; refine wpList_append_own _ rfl _ _ 65 rfl w.heap.size 5 i0 (.int .u8 0) 1 1 Tryd.underlying65 hi hz0 hz1 hz2 rfl (by decide) _ _ _ rfl (hown.alloc _) ⟨wr.heap.size, 0, none⟩ 2 2 [.int .u8 92, .int .u8 92] rfl rfl ?c1 ?c2 ?c3 ?c4 ?c5 ?_)
        case c1 => exact cell_two_new _ _ _ _
        case c2 => simp [Value.oneCell']
        case c3 => unfold maxLen; omega
        case c4 => omega
        case c5 => simp; omega
        intro v' w1 hown' hgrow _
        have HR := Lib.hid (brow_more HN.out HB.out ((Below.refl _ _).alloc (Nat.le_refl _) _) hown hown' hgrow)
        clear hown hown' hgrow
        go_wp2
        go_roundw
        case rel => exact ⟨k + 1, by omega, by go_num, HR.out⟩
        case measure => simp [intOf]; omega
      by_cases hd : B s k = 34
      · have HN := Lib.hid (quote_hit hd [92, 34] (by omega) (by decide))
        rw [hd] at hb
        clear hd hu
        go_wp2_with (at_builtin; refine wpList_append_own _ rfl _ _ 65 rfl w.heap.size 5 i0 (.int .u8 0) 1 1 Tryd.underlying65 hi hz0 hz1 hz2 rfl (by decide) _ _ _ rfl (hown.alloc _) ⟨wr.heap.size, 0, none⟩ 2 2 [.int .u8 92, .int .u8 34] rfl rfl ?d1 ?d2 ?d3 ?d4 ?d5 ?_)
        case d1 => exact cell_two_new _ _ _ _
        case d2 => simp [Value.oneCell']
        case d3 => unfold maxLen; omega
        case d4 => omega
        case d5 => simp; omega
        intro v' w1 hown' hgrow _
        have HR := Lib.hid (brow_more HN.out HB.out ((Below.refl _ _).alloc (Nat.le_refl _) _) hown hown' hgrow)
        clear hown hown' hgrow
        go_wp2
        go_roundw
        case rel => exact ⟨k + 1, by omega, by go_num, HR.out⟩
        case measure => simp [intOf]; omega
      have HN := Lib.hid (quote_miss ha hb' hc hd)
      have t1 : (((B s k : Nat) : Int) == 10) = false := by simp; omega
      have t2 : (((B s k : Nat) : Int) == 9) = false := by simp; omega
      have t3 : (((B s k : Nat) : Int) == 92) = false := by simp; omega
      have t4 : (((B s k : Nat) : Int) == 34) = false := by simp; omega
      go_wp2_with (at_builtin; refine wpList_append_own _ rfl _ _ 65 rfl w.heap.size 5 i0 (.int .u8 0) 1 1 Tryd.underlying65 hi hz0 hz1 hz2 rfl (by decide) _ _ _ rfl (hown.alloc _) ⟨wr.heap.size, 0, none⟩ 1 1 [.int .u8 (B s k)] rfl rfl ?e1 ?e2 ?e3 ?e4 ?e5 ?_)
      case e1 => exact cell_one_new _ _ _
      case e2 => simp [Value.oneCell']
      case e3 => unfold maxLen; omega
      case e4 => omega
      case e5 => simp; omega
      intro v' w1 hown' hgrow _
      have HR := Lib.hid (brow_more HN.out HB.out ((Below.refl _ _).alloc (Nat.le_refl _) _) hown hown' hgrow)
      clear hown hown' hgrow ha hb' hc hd
      go_wp2
      go_roundw
      case rel => exact ⟨k + 1, by omega, by go_num, HR.out⟩
      case measure => simp [intOf]; omega
    · obtain rfl : k = s.size := by omega
      go_wp2_with (at_builtin; refine wpList_append_own _ rfl _ _ 65 rfl w.heap.size 5 i0 (.int .u8 0) 1 1 Tryd.underlying65 hi hz0 hz1 hz2 rfl (by decide) _ _ _ rfl (hown.alloc _) ⟨wr.heap.size, 0, none⟩ 1 1 [.int .u8 34] rfl rfl ?g1 ?g2 ?g3 ?g4 ?g5 ?_)
      case g1 => exact cell_one_new _ _ _
      case g2 => simp [Value.oneCell']
      case g3 => unfold maxLen; omega
      case g4 => omega
      case g5 => simp; omega
      intro v' w1 hown' hgrow _
      have HR := Lib.hid (brow_more (l' := quoteL s) (m := [34]) rfl HB.out ((Below.refl _ _).alloc (Nat.le_refl _) _) hown hown' hgrow)
      have hrun := row_string HR.out.1 (by simp [quoteL])
      clear hown hown' hgrow
      go_wp2
      go_ret
      exact ⟨rfl, HR.out.2⟩

set_option maxRecDepth 100000 in
set_option maxHeartbeats 1000000 in
theorem quote_ref (s : ByteArray) (w : World) (hs : s.size ≤ 1000000000) : Calls Tryd.prog 38 #[.string s] w (QuotePost s w) := by
  obtain ⟨i0, hi, hz0, hz1, hz2⟩ := info_parts info5
  go_enter Tryd.func38, Tryd.ntmps38
  go_wp2
  go_loopw [3, 4] (fun v i wr => ∃ k : Nat, k ≤ s.size ∧ i = .int .i64 k ∧ wr.ownsRow w.heap.size 5 1 v (quoteF s k).length (bvals (quoteF s k)) ∧ Below w.heap.size w wr) (fun _ i _ => s.size - (intOf i).toNat)
  case atStart => exact ⟨0, by omega, by go_num, owns_byte w _, (Below.refl _ _).alloc (Nat.le_refl _) _⟩
  case round =>
    obtain ⟨k, hk, rfl, hown, hB⟩ := hrel
    have HB := Lib.hid hB
    have hsz := hB.size
    clear hB
    have hln := quoteF_len s k
    by_cases hlt : k < s.size
    · have hb := B_at s k hlt
      have hu := B_lt s k
      by_cases ha : B s k = 10
      · have HN := Lib.hid (quote_hit ha [92, 110] (by omega) (by decide))
        rw [ha] at hb
        clear ha hu
        go_wp2_with (at_builtin; go_loud (refine Lib.wpList_append_own_string _ rfl _ _ 65 9 rfl w.heap.size 5 i0 Tryd.underlying65 Tryd.underlying9 hi hz0 hz1 hz2 _ _ _ rfl hown ⟨#[92, 110]⟩ rfl ?a3 ?a4 ?a5 ?_))
        case a3 => show _ + 2 ≤ _; unfold maxLen; omega
        case a4 => show _ + 2 ≤ _; omega
        case a5 => omega
        intro v' w1 hown' hgrow _
        have HR := Lib.hid (brow_more HN.out HB.out (Below.refl _ _) hown hown' hgrow)
        clear hown hown' hgrow
        go_wp2
        go_roundw
        case rel => exact ⟨k + 1, by omega, by go_num, HR.out⟩
        case measure => simp [intOf]; omega
      by_cases hb' : B s k = 9
      · have HN := Lib.hid (quote_hit hb' [92, 116] (by omega) (by decide))
        rw [hb'] at hb
        clear hb' hu
        go_wp2_with (at_builtin; go_loud (refine Lib.wpList_append_own_string _ rfl _ _ 65 9 rfl w.heap.size 5 i0 Tryd.underlying65 Tryd.underlying9 hi hz0 hz1 hz2 _ _ _ rfl hown ⟨#[92, 116]⟩ rfl ?b3 ?b4 ?b5 ?_))
        case b3 => show _ + 2 ≤ _; unfold maxLen; omega
        case b4 => show _ + 2 ≤ _; omega
        case b5 => omega
        intro v' w1 hown' hgrow _
        have HR := Lib.hid (brow_more HN.out HB.out (Below.refl _ _) hown hown' hgrow)
        clear hown hown' hgrow
        go_wp2
        go_roundw
        case rel => exact ⟨k + 1, by omega, by go_num, HR.out⟩
        case measure => simp [intOf]; omega
      by_cases hc : B s k = 92
      · have HN := Lib.hid (quote_hit hc [92, 92] (by omega) (by decide))
        rw [hc] at hb
        clear hc hu
        go_wp2_with (at_builtin; go_loud (refine Lib.wpList_append_own_string _ rfl _ _ 65 9 rfl w.heap.size 5 i0 Tryd.underlying65 Tryd.underlying9 hi hz0 hz1 hz2 _ _ _ rfl hown ⟨#[92, 92]⟩ rfl ?c3 ?c4 ?c5 ?_))
        case c3 => show _ + 2 ≤ _; unfold maxLen; omega
        case c4 => show _ + 2 ≤ _; omega
        case c5 => omega
        intro v' w1 hown' hgrow _
        have HR := Lib.hid (brow_more HN.out HB.out (Below.refl _ _) hown hown' hgrow)
        clear hown hown' hgrow
        go_wp2
        go_roundw
        case rel => exact ⟨k + 1, by omega, by go_num, HR.out⟩
        case measure => simp [intOf]; omega
      by_cases hd : B s k = 34
      · have HN := Lib.hid (quote_hit hd [92, 34] (by omega) (by decide))
        rw [hd] at hb
        clear hd hu
        go_wp2_with (at_builtin; go_loud (refine Lib.wpList_append_own_string _ rfl _ _ 65 9 rfl w.heap.size 5 i0 Tryd.underlying65 Tryd.underlying9 hi hz0 hz1 hz2 _ _ _ rfl hown ⟨#[92, 34]⟩ rfl ?d3 ?d4 ?d5 ?_))
        case d3 => show _ + 2 ≤ _; unfold maxLen; omega
        case d4 => show _ + 2 ≤ _; omega
        case d5 => omega
        intro v' w1 hown' hgrow _
        have HR := Lib.hid (brow_more HN.out HB.out (Below.refl _ _) hown hown' hgrow)
        clear hown hown' hgrow
        go_wp2
        go_roundw
        case rel => exact ⟨k + 1, by omega, by go_num, HR.out⟩
        case measure => simp [intOf]; omega
      have HN := Lib.hid (quote_miss ha hb' hc hd)
      have t1 : (((B s k : Nat) : Int) == 10) = false := by simp; omega
      have t2 : (((B s k : Nat) : Int) == 9) = false := by simp; omega
      have t3 : (((B s k : Nat) : Int) == 92) = false := by simp; omega
      have t4 : (((B s k : Nat) : Int) == 34) = false := by simp; omega
      go_wp2_with (at_builtin; refine wpList_append_own _ rfl _ _ 65 rfl w.heap.size 5 i0 (.int .u8 0) 1 1 Tryd.underlying65 hi hz0 hz1 hz2 rfl (by decide) _ _ _ rfl (hown.alloc _) ⟨wr.heap.size, 0, none⟩ 1 1 [.int .u8 (B s k)] rfl rfl ?e1 ?e2 ?e3 ?e4 ?e5 ?_)
      case e1 => exact cell_one_new _ _ _
      case e2 => simp [Value.oneCell']
      case e3 => unfold maxLen; omega
      case e4 => omega
      case e5 => simp; omega
      intro v' w1 hown' hgrow _
      have HR := Lib.hid (brow_more HN.out HB.out ((Below.refl _ _).alloc (Nat.le_refl _) _) hown hown' hgrow)
      clear hown hown' hgrow ha hb' hc hd
      go_wp2
      go_roundw
      case rel => exact ⟨k + 1, by omega, by go_num, HR.out⟩
      case measure => simp [intOf]; omega
    · obtain rfl : k = s.size := by omega
      go_wp2_with (at_builtin; refine wpList_append_own _ rfl _ _ 65 rfl w.heap.size 5 i0 (.int .u8 0) 1 1 Tryd.underlying65 hi hz0 hz1 hz2 rfl (by decide) _ _ _ rfl (hown.alloc _) ⟨wr.heap.size, 0, none⟩ 1 1 [.int .u8 34] rfl rfl ?g1 ?g2 ?g3 ?g4 ?g5 ?_)
      case g1 => exact cell_one_new _ _ _
      case g2 => simp [Value.oneCell']
      case g3 => unfold maxLen; omega
      case g4 => omega
      case g5 => simp; omega
      intro v' w1 hown' hgrow _
      have HR := Lib.hid (brow_more (l' := quoteL s) (m := [34]) rfl HB.out ((Below.refl _ _).alloc (Nat.le_refl _) _) hown hown' hgrow)
      have hrun := row_string HR.out.1 (by simp [quoteL])
      clear hown hown' hgrow
      go_wp2
      go_ret
      exact ⟨rfl, HR.out.2⟩
end Go.Proofs.YtlgklkokadbpeaaDoor
