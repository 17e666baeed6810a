import Derived.Test.YtcogdhdigjhjnaaDoorA3
namespace Go.Proofs.YtcogdhdigjhjnaaDoor
open Go.RowKit
theorem list_ext {a b : ByteArray} (h : a.data.toList = b.data.toList) : a = b := by
  cases a; cases b
  congr
  exact Array.toList_inj.1 h
theorem cut_list (b : ByteArray) (x : EditD) : (cut b x).data.toList = b.data.toList.take x.From.toNat ++ x.Text.data.toList ++ b.data.toList.drop x.To.toNat := by
  have hs : b.size = b.data.size := rfl
  unfold cut
  rw [ByteArray.data_append, ByteArray.data_append, ByteArray.data_extract, ByteArray.data_extract, hs]
  simp
  apply List.take_of_length_le
  simp
theorem cut_back (s t : ByteArray) (x y : Nat) (h1 : x ≤ y) (h2 : y ≤ s.size) : cut (cut s ⟨x, y, t⟩) ⟨x, (x : Int) + t.size, s.extract x y⟩ = s := by
  have hs : s.size = s.data.toList.length := by simp
  have ht : t.size = t.data.toList.length := by simp
  have e1 : (cut s ⟨x, y, t⟩).data.toList = s.data.toList.take x ++ t.data.toList ++ s.data.toList.drop y := cut_list s ⟨x, y, t⟩
  have hc : (cut s ⟨x, y, t⟩).size = (s.data.toList.take x ++ t.data.toList ++ s.data.toList.drop y).length := by rw [← e1]; simp
  have hl : (s.data.toList.take x).length = x := by rw [List.length_take]; omega
  apply list_ext
  have e2 := cut_list (cut s ⟨x, y, t⟩) ⟨x, (x : Int) + t.size, s.extract x y⟩
  rw [e2, e1]
  have n1 : ((x : Int) + (t.size : Int)).toNat = x + t.size := by omega
  simp only [Int.toNat_natCast, n1]
  have e3 : (s.extract x y).data.toList = (s.data.toList.drop x).take (y - x) := by
    simp [ByteArray.data_extract]
  rw [e3]
  generalize s.data.toList = l at *
  have a1 : (l.take x ++ t.data.toList ++ l.drop y).take x = l.take x := by
    rw [List.append_assoc, List.take_append_of_le_length (by omega), List.take_take]; simp
  have a2 : (l.take x ++ t.data.toList ++ l.drop y).drop (x + t.size) = l.drop y := by
    rw [List.drop_append, List.drop_of_length_le (by simp only [List.length_append, hl]; omega)]
    simp only [List.length_append, hl, ← ht]
    simp
  rw [a1, a2]
  have a3 : (l.drop x).take (y - x) ++ l.drop y = l.drop x := by
    have : l.drop y = (l.drop x).drop (y - x) := by rw [List.drop_drop]; congr 1; omega
    rw [this, List.take_append_drop]
  rw [List.append_assoc, a3, List.take_append_drop]
theorem apply_one (s t : ByteArray) (x y : Nat) (h1 : x ≤ y) (h2 : y ≤ s.size) (h3 : s.size + t.size ≤ 262144) : applyE s [⟨x, y, t⟩] = (cut s ⟨x, y, t⟩, 0) := by
  have hb : ¬ bad s ⟨x, y, t⟩ := by unfold bad; simp only; omega
  have hz := cut_size s ⟨x, y, t⟩ hb
  simp only at hz
  rw [applyE, if_neg hb, if_neg (by omega)]; rfl
theorem apply_back (s t : ByteArray) (x y : Nat) (h1 : x ≤ y) (h2 : y ≤ s.size) (h3 : s.size + t.size ≤ 262144) : applyE s [⟨x, y, t⟩, ⟨x, (x : Int) + t.size, s.extract x y⟩] = (s, 0) := by
  have hb : ¬ bad s ⟨x, y, t⟩ := by unfold bad; simp only; omega
  have hz := cut_size s ⟨x, y, t⟩ hb
  simp only at hz
  have hb2 : ¬ bad (cut s ⟨x, y, t⟩) ⟨x, (x : Int) + t.size, s.extract x y⟩ := by unfold bad; simp only; omega
  rw [applyE, if_neg hb, if_neg (by omega), applyE, if_neg hb2, cut_back s t x y h1 h2, if_neg (by omega)]; rfl
theorem edits_one (w : World) (x : EditD) : EditsAt (w.alloc (.cells #[.int .i64 x.From, .int .i64 x.To, .string x.Text] 43)) w.heap.size 0 [x] := by
  intro i hi
  obtain rfl : i = 0 := by simp at hi; omega
  refine ⟨?_, ?_, ?_⟩ <;> (rw [World.cell?_alloc_at _ _ _ _ rfl]; rfl)
theorem edits_two (w : World) (x y : EditD) : EditsAt (w.alloc (.cells #[.int .i64 x.From, .int .i64 x.To, .string x.Text, .int .i64 y.From, .int .i64 y.To, .string y.Text] 43)) w.heap.size 0 [x, y] := by
  intro i hi
  match i, hi with
  | 0, _ => refine ⟨?_, ?_, ?_⟩ <;> (rw [World.cell?_alloc_at _ _ _ _ rfl]; rfl)
  | 1, _ => refine ⟨?_, ?_, ?_⟩ <;> (rw [World.cell?_alloc_at _ _ _ _ rfl]; rfl)
set_option maxRecDepth 100000 in
set_option maxHeartbeats 800000 in
theorem undo_walk (s t : ByteArray) (a b : Nat) (w : World) (hT : Lib.Utf8Tabs 0 1 w) (ha : a < 65536) (hb : b < 65536) (hs : s.size ≤ 1000000000000000) (ht : t.size ≤ 1000000000000000) :
    Calls Tryd.prog 7 #[.string s, .agg #[.int .u16 a, .int .u16 b], .string t] w fun e w' => e = .returned (.bool true) ∧ Below w.heap.size w w' := by
  have T := Lib.hid hT
  clear hT
  by_cases hsz : s.size + t.size ≤ 262144
  · have h1 : ¬ ((262144 : Int) - t.size < s.size) := by omega
    have h2 : t.size ≤ 262144 := by omega
    go_enter Tryd.func7, Tryd.ntmps7
    go_wp2_with fail
    refine (awake_step T.out ((Below.refl _ _).alloc (Nat.le_refl _) _)).mono ?_
    rintro e w1 ⟨rfl, hb1⟩
    have c0 := cell_later hb1 (show (w.alloc (.cells #[.int .u16 a, .int .u16 b] 41)).cell? ⟨w.heap.size, 0, none⟩ = some (.int .u16 a) by rw [World.cell?_alloc_at _ _ _ _ rfl]; rfl)
    have c1 := cell_later hb1 (show (w.alloc (.cells #[.int .u16 a, .int .u16 b] 41)).cell? ⟨w.heap.size, 1, none⟩ = some (.int .u16 b) by rw [World.cell?_alloc_at _ _ _ _ rfl]; rfl)
    have HB := Lib.hid (below_step ((Below.refl w.heap.size w).alloc (Nat.le_refl _) _) hb1)
    clear hb1
    go_wp2_with fail
    clear c0 c1
    obtain ⟨x, hx⟩ : ∃ x : Nat, min (a : Int) (s.size : Int) = x := ⟨min a s.size, by omega⟩
    rw [hx]
    have hx1 : x ≤ s.size := by omega
    obtain ⟨y, hy⟩ : ∃ y : Nat, max (x : Int) (min (b : Int) (s.size : Int)) = y := ⟨max x (min b s.size), by omega⟩
    rw [hy]
    have hy1 : x ≤ y := by omega
    have hy2 : y ≤ s.size := by omega
    clear hx hy ha hb
    have R1 := Lib.hid (apply_one s t x y hy1 hy2 hsz)
    have R2 := Lib.hid (apply_back s t x y hy1 hy2 hsz)
    have hbad : ¬ bad s ⟨x, y, t⟩ := by unfold bad; simp only; omega
    have hz := cut_size s ⟨x, y, t⟩ hbad
    simp only at hz
    clear hbad
    have HZ := Lib.hid hz
    clear hz
    have k1 := apply_prog s w1.heap.size 0 1 1 [⟨x, y, t⟩] (w1.alloc (.cells #[.int .i64 x, .int .i64 y, .string t] 43)) (by omega) rfl (by omega) (by omega) (by simp) (edits_one w1 ⟨x, y, t⟩) (by intro z hz; simp at hz; subst hz; exact ht)
    rw [R1.out] at k1
    refine k1.mono ?_
    rintro e w2 ⟨rfl, hb2⟩
    have HB2 := Lib.hid (below_step (HB.out.alloc HB.out.size _) hb2)
    clear k1 hb2
    generalize hcut : cut s ⟨x, y, t⟩ = c at *
    clear hcut
    go_wp2_with fail
    have k2 := apply_prog s w2.heap.size 0 2 2 [⟨x, y, t⟩, ⟨x, (x : Int) + t.size, s.extract x y⟩] (w2.alloc (.cells #[.int .i64 x, .int .i64 y, .string t, .int .i64 x, .int .i64 ((x : Int) + t.size), .string (s.extract x y)] 43)) (by omega) rfl (by omega) (by omega) (by simp) (edits_two w2 ⟨x, y, t⟩ ⟨x, (x : Int) + t.size, s.extract x y⟩)
      (by
        intro z hz
        simp at hz
        rcases hz with rfl | rfl
        · exact ht
        · simp [ByteArray.size_extract]; omega)
    rw [R2.out] at k2
    refine k2.mono ?_
    rintro e w3 ⟨rfl, hb3⟩
    have HB3 := Lib.hid (below_step (HB2.out.alloc HB2.out.size _) hb3)
    clear k2 hb3
    go_wp2_with fail
    refine (apply_prog_nil s none 0 w3).mono ?_
    rintro e w4 ⟨rfl, hb4⟩
    have t1 : ((c.size : Int) == (s.size : Int) - ((y : Int) - x) + t.size) = true := by rw [HZ.out]; simp
    go_wp2_with fail
    go_ret
    exact ⟨rfl, below_step HB3.out hb4⟩
  · have hcase : ((262144 : Int) - t.size < s.size) := by omega
    go_enter Tryd.func7, Tryd.ntmps7
    go_wp2_with fail
    refine (awake_step T.out ((Below.refl _ _).alloc (Nat.le_refl _) _)).mono ?_
    rintro e w1 ⟨rfl, hb1⟩
    have HB := Lib.hid (below_step ((Below.refl w.heap.size w).alloc (Nat.le_refl _) _) hb1)
    clear hb1
    go_wp2_with fail
    refine (awake_step T.out HB.out).mono ?_
    rintro e w2 ⟨rfl, hb2⟩
    go_wp2_with fail
    go_ret
    exact ⟨rfl, below_step HB.out hb2⟩
theorem undo_of (s t : ByteArray) (a b : Int) (w : World) (hT : Lib.Utf8Tabs 0 1 w) (ha : 0 ≤ a ∧ a ≤ 65535) (hb : 0 ≤ b ∧ b ≤ 65535) (hs : s.size ≤ 1000000000000000) (ht : t.size ≤ 1000000000000000) :
    Calls Tryd.prog 7 #[.string s, .agg #[.int .u16 a, .int .u16 b], .string t] w fun e w' => e = .returned (.bool true) ∧ Below w.heap.size w w' := by
  obtain ⟨x, rfl⟩ : ∃ x : Nat, a = x := ⟨a.toNat, by omega⟩
  obtain ⟨y, rfl⟩ : ∃ y : Nat, b = y := ⟨b.toNat, by omega⟩
  exact undo_walk s t x y w hT (by omega) (by omega) hs ht
end Go.Proofs.YtcogdhdigjhjnaaDoor
