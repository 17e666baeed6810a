import Derived.Test.YtcogdhdigjhjnaaDoorW4
import Derived.OwnWalk
import Derived.LoopTactic
namespace Go.Proofs.YtcogdhdigjhjnaaDoor
open Go.RowKit
theorem info3 : (Tryd.prog.info? 3).map (fun i => (i.zero, i.size, i.bytes)) = some (some (.int .i64 0), 1, 8) := by kernel_rfl
def ivals (l : List Nat) : List Value := l.map fun (n : Nat) => Value.int .i64 (n : Int)
theorem ivals_snoc (l : List Nat) (n : Nat) : ivals (l ++ [n]) = ivals l ++ [.int .i64 (n : Int)] := by simp [ivals]
theorem ivals_len (l : List Nat) : (ivals l).length = l.length := by simp [ivals]
theorem owns_one (w : World) (x : Value) : (w.alloc (.cells #[x] 3)).ownsRow w.heap.size 3 1 (.slice (some ⟨w.heap.size, 0, none⟩) 1 1) 1 [x] :=
  ⟨rfl, .inr ⟨w.heap.size, 1, #[x], rfl, Nat.le_refl _, heap_alloc_new w _, Nat.le_refl _, by decide, rfl, rfl⟩⟩
/-- what one append of a new line's beginning does to the loop's relation -/
theorem row_more {w wr w1 : World} {v v' : Value} {s : ByteArray} {k : Nat} {o : Obj} (hn : startsN s (k + 1) = startsN s k ++ [k + 1]) (hb : Below w.heap.size w wr)
    (hown : wr.ownsRow w.heap.size 3 1 v (startsN s k).length (ivals (startsN s k)))
    (hown' : w1.ownsRow w.heap.size 3 1 v' ((startsN s k).length + 1) (ivals (startsN s k) ++ [.int .i64 ((k : Int) + 1)])) (hg : (wr.alloc o).grownBy w1 v.ownBlock) :
    w1.ownsRow w.heap.size 3 1 v' (startsN s (k + 1)).length (ivals (startsN s (k + 1))) ∧ Below w.heap.size w w1 := by
  refine ⟨by rw [hn, ivals_snoc]; simpa using hown', (hb.alloc hb.size o).grown hg (by simp; have := hb.size; omega) (fun j hj => (hown.lt j hj).1)⟩
def LinesPost (s : ByteArray) (w : World) (e : Ending) (w' : World) : Prop :=
  ∃ v, e = .returned v ∧ w'.ownsRow w.heap.size 3 1 v (startsN s s.size).length (ivals (startsN s s.size)) ∧ Below w.heap.size w w'
set_option maxHeartbeats 400000 in
theorem lines_prog (s : ByteArray) (w : World) (hs : s.size ≤ 1000000000000) :
    Calls Tryd.prog 17 #[.string s] w (LinesPost s w) := by
  obtain ⟨i0, hi, hz0, hz1, hz2⟩ := info_parts info3
  go_enter Tryd.func17, Tryd.ntmps17
  go_wp2
  go_loopw [3, 8] (fun v i wr => ∃ k : Nat, k ≤ s.size ∧ i = .int .i64 k ∧ wr.ownsRow w.heap.size 3 1 v (startsN s k).length (ivals (startsN s k)) ∧ Below w.heap.size w wr) (fun _ i _ => s.size - (intOf i).toNat)
  case atStart => exact ⟨0, by omega, by go_num, owns_one w _, (Below.refl _ _).alloc (Nat.le_refl _) _⟩
  case round =>
    obtain ⟨k, hk, rfl, hown, hB⟩ := hrel
    have HB := Lib.hid hB
    clear hB
    by_cases hlt : k < s.size
    · have hb := nl_at s k hlt
      have hbd := lineN_bd s k
      have hle := starts_len s k
      have hln : (startsN s k).length ≤ k + 1 := by omega
      clear hle hbd
      have hsz := HB.out.size
      cases hn : nl s k with
      | true =>
        rw [hn] at hb
        have HN := Lib.hid (starts_hit hn)
        clear hn
        go_wp2_with (at_builtin; refine wpList_append_own _ rfl _ _ 32 rfl w.heap.size 3 i0 (.int .i64 0) 1 8 Tryd.underlying32 hi hz0 hz1 hz2 rfl (by decide) _ _ _ rfl (hown.alloc _) ⟨wr.heap.size, 0, none⟩ 1 1 [.int .i64 ((k : Int) + 1)] rfl rfl ?c1 ?c2 ?c3 ?c4 ?c5 ?_)
        case c1 => exact cell_one_new _ _ _
        case c2 => simp [Value.oneCell']
        case c3 => unfold maxLen; omega
        case c4 => omega
        case c5 => simp; omega
        intro v' w1 hown' hgrow _
        have HR := Lib.hid (row_more HN.out HB.out hown hown' hgrow)
        clear hown hown' hgrow
        go_wp2
        go_roundw
        case rel => exact ⟨k + 1, by omega, by go_num, HR.out⟩
        case measure => simp [intOf]; omega
      | false =>
        rw [hn] at hb
        have HN := Lib.hid (starts_miss hn)
        clear hn
        have HO := Lib.hid hown
        clear hown
        go_wp2
        go_roundw
        case rel => exact ⟨k + 1, by omega, by go_num, by rw [HN.out]; exact HO.out, HB.out⟩
        case measure => simp [intOf]; omega
    · obtain rfl : k = s.size := by omega
      have HO := Lib.hid hown
      clear hown
      go_wp2
      go_ret
      exact ⟨_, rfl, HO.out, HB.out⟩

set_option maxHeartbeats 400000 in
theorem lines_ref (s : ByteArray) (w : World) (hs : s.size ≤ 1000000000000) :
    Calls Tryd.prog 18 #[.string s] w (LinesPost s w) := by
  obtain ⟨i0, hi, hz0, hz1, hz2⟩ := info_parts info3
  have hnil := World.ownsRow_nil (w.alloc (.cells #[.int .i64 0] 3)) w.heap.size 3 1
  go_enter Tryd.func18, Tryd.ntmps18
  go_wp2_with (at_builtin; refine wpList_append_own _ rfl _ _ 32 rfl w.heap.size 3 i0 (.int .i64 0) 1 8 Tryd.underlying32 hi hz0 hz1 hz2 rfl (by decide) _ _ _ rfl hnil ⟨w.heap.size, 0, none⟩ 1 1 [.int .i64 0] rfl rfl ?c1 ?c2 ?c3 ?c4 ?c5 ?_)
  case c1 => exact cell_one_new _ _ _
  case c2 => simp [Value.oneCell']
  case c3 => unfold maxLen; omega
  case c4 => omega
  case c5 => simp
  intro v0 w0 hown0 hgrow0 _
  have HO := Lib.hid hown0
  have HB : Hid (Below w.heap.size w w0) := Lib.hid (((Below.refl _ _).alloc (Nat.le_refl _) _).grown hgrow0 (by simp) (fun j hj => by simp [Value.ownBlock] at hj))
  clear hown0 hgrow0 hnil
  go_wp2
  go_loopw [3, 4] (fun v i wr => ∃ k : Nat, k ≤ s.size ∧ i = .int .i64 k ∧ wr.ownsRow w.heap.size 3 1 v (startsN s k).length (ivals (startsN s k)) ∧ Below w.heap.size w wr) (fun _ i _ => s.size - (intOf i).toNat)
  case atStart => exact ⟨0, by omega, by go_num, HO.out, HB.out⟩
  case round =>
    obtain ⟨k, hk, rfl, hown, hB⟩ := hrel
    clear HO HB
    have HB := Lib.hid hB
    clear hB
    by_cases hlt : k < s.size
    · have hb := nl_at s k hlt
      have hbd := lineN_bd s k
      have hle := starts_len s k
      have hln : (startsN s k).length ≤ k + 1 := by omega
      clear hle hbd
      have hsz := HB.out.size
      cases hn : nl s k with
      | true =>
        rw [hn] at hb
        have HN := Lib.hid (starts_hit hn)
        clear hn
        go_wp2_with (at_builtin; refine wpList_append_own _ rfl _ _ 32 rfl w.heap.size 3 i0 (.int .i64 0) 1 8 Tryd.underlying32 hi hz0 hz1 hz2 rfl (by decide) _ _ _ rfl (hown.alloc _) ⟨wr.heap.size, 0, none⟩ 1 1 [.int .i64 ((k : Int) + 1)] rfl rfl ?d1 ?d2 ?d3 ?d4 ?d5 ?_)
        case d1 => exact cell_one_new _ _ _
        case d2 => simp [Value.oneCell']
        case d3 => unfold maxLen; omega
        case d4 => omega
        case d5 => simp; omega
        intro v' w1 hown' hgrow _
        have HR := Lib.hid (row_more HN.out HB.out hown hown' hgrow)
        clear hown hown' hgrow
        go_wp2
        go_roundw
        case rel => exact ⟨k + 1, by omega, by go_num, HR.out⟩
        case measure => simp [intOf]; omega
      | false =>
        rw [hn] at hb
        have HN := Lib.hid (starts_miss hn)
        clear hn
        have HO := Lib.hid hown
        clear hown
        go_wp2
        go_roundw
        case rel => exact ⟨k + 1, by omega, by go_num, by rw [HN.out]; exact HO.out, HB.out⟩
        case measure => simp [intOf]; omega
    · obtain rfl : k = s.size := by omega
      have HO := Lib.hid hown
      clear hown
      go_wp2
      go_ret
      exact ⟨_, rfl, HO.out, HB.out⟩
/-- The answered list in the words of a reader: where it lies, and what its cells hold. -/
structure ListAt (s : ByteArray) (w w' : World) (g cap : Nat) : Prop where
  len : lineN s s.size ≤ cap
  low : w.heap.size ≤ g
  high : g < w'.heap.size
  cell : ∀ j, j < lineN s s.size → w'.cell? ⟨g, j, none⟩ = some (.int .i64 (((startsN s s.size).getD j 0 : Nat) : Int))
  below : Below w.heap.size w w'
theorem list_at {s : ByteArray} {w w' : World} {e : Ending} (h : LinesPost s w e w') : ∃ g cap, e = .returned (.slice (some ⟨g, 0, none⟩) (lineN s s.size) cap) ∧ ListAt s w w' g cap := by
  obtain ⟨v, rfl, ho, hb⟩ := h
  have hl := starts_len s s.size
  have hbd := lineN_bd s s.size
  rcases ho.2 with ⟨_, h0⟩ | ⟨g, cap, cur, rfl, hg, hh, hc, hm, hsz, ht⟩
  · omega
  · refine ⟨g, cap, by rw [hl], ⟨by omega, hg, ?_, fun j hj => ?_, hb⟩⟩
    · exact (ho.lt g rfl).2
    · have hx : (ivals (startsN s s.size))[j]? = some (.int .i64 (((startsN s s.size).getD j 0 : Nat) : Int)) := by
        rw [ivals, List.getElem?_map, List.getD_eq_getElem?_getD, List.getElem?_eq_getElem (by omega)]
        rfl
      have := ho.cells (g := g) rfl j _ hx
      unfold Addr.add at this
      split at this <;> simp_all
theorem lines_prog' (s : ByteArray) (w : World) (hs : s.size ≤ 1000000000000) :
    Calls Tryd.prog 17 #[.string s] w fun e w' => ∃ g cap, e = .returned (.slice (some ⟨g, 0, none⟩) (lineN s s.size) cap) ∧ ListAt s w w' g cap := (lines_prog s w hs).mono fun _ _ h => list_at h
theorem lines_ref' (s : ByteArray) (w : World) (hs : s.size ≤ 1000000000000) :
    Calls Tryd.prog 18 #[.string s] w fun e w' => ∃ g cap, e = .returned (.slice (some ⟨g, 0, none⟩) (lineN s s.size) cap) ∧ ListAt s w w' g cap := (lines_ref s w hs).mono fun _ _ h => list_at h
end Go.Proofs.YtcogdhdigjhjnaaDoor
