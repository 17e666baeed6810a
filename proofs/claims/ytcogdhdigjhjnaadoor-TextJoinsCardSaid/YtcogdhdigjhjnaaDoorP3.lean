import Derived.Test.YtcogdhdigjhjnaaDoorP2
namespace Go.Proofs.YtcogdhdigjhjnaaDoor
open Go.RowKit
def joined (a b : ByteArray) : ByteArray := (a ++ ⟨#[10]⟩) ++ b
theorem joined_size (a b : ByteArray) : (joined a b).size = a.size + 1 + b.size := by
  simp [joined]; rfl
theorem joined_get (a b : ByteArray) (k : Nat) : (joined a b).data[k]! = if k < a.size then a.data[k]! else if k = a.size then 10 else b.data[k - (a.size + 1)]! := by
  have ha : a.size = a.data.size := rfl
  have e : (joined a b).data = (a.data ++ #[10]) ++ b.data := by simp [joined, ByteArray.data_append]
  rw [e, ha]
  by_cases h1 : k < a.data.size
  · rw [if_pos h1, getElem!_def, getElem!_def, Array.getElem?_append_left (by simp; omega), Array.getElem?_append_left h1]
  · rw [if_neg h1]
    by_cases h2 : k = a.data.size
    · rw [if_pos h2, getElem!_def, Array.getElem?_append_left (by simp; omega), Array.getElem?_append_right (by omega)]
      simp [h2]
    · rw [if_neg h2, getElem!_def, getElem!_def, Array.getElem?_append_right (by simp; omega)]
      simp
theorem nl_joined (a b : ByteArray) (k : Nat) : nl (joined a b) k = if k < a.size then nl a k else if k = a.size then true else nl b (k - (a.size + 1)) := by
  unfold nl
  rw [joined_get]
  split
  · rfl
  · split <;> rfl
theorem starts_left (a b : ByteArray) : ∀ k, k ≤ a.size → startsN (joined a b) k = startsN a k := by
  intro k
  induction k with
  | zero => intro _; rfl
  | succ k ih =>
    intro h
    unfold startsN
    rw [ih (by omega), nl_joined, if_pos (show k < a.size by omega)]
theorem starts_right (a b : ByteArray) : ∀ j, startsN (joined a b) (a.size + 1 + j) = startsN a a.size ++ (startsN b j).map (· + (a.size + 1)) := by
  intro j
  induction j with
  | zero =>
    show startsN (joined a b) (a.size + 1) = _
    rw [starts_hit (by rw [nl_joined, if_neg (by omega), if_pos rfl]), starts_left a b _ (Nat.le_refl _)]
    simp [startsN]
  | succ j ih =>
    show startsN (joined a b) (a.size + 1 + j + 1) = _
    have hn : nl (joined a b) (a.size + 1 + j) = nl b j := by
      rw [nl_joined, if_neg (by omega), if_neg (by omega)]; congr 1; omega
    cases h : nl b j with
    | true =>
      rw [starts_hit (hn.trans h), starts_hit h, ih]
      simp; omega
    | false => rw [starts_miss (hn.trans h), starts_miss h, ih]
theorem starts_joined (a b : ByteArray) : startsN (joined a b) (joined a b).size = startsN a a.size ++ (startsN b b.size).map (· + (a.size + 1)) := by
  rw [joined_size]; exact starts_right a b b.size
theorem line_joined (a b : ByteArray) : lineN (joined a b) (joined a b).size = lineN a a.size + lineN b b.size := by
  rw [← starts_len, starts_joined, List.length_append, List.length_map, starts_len, starts_len]
theorem join_left (a b : ByteArray) (k : Nat) (h : k < lineN a a.size) : (startsN (joined a b) (joined a b).size).getD k 0 = (startsN a a.size).getD k 0 := by
  have hl := starts_len a a.size
  rw [starts_joined, List.getD_eq_getElem?_getD, List.getD_eq_getElem?_getD, List.getElem?_append_left (by omega)]
theorem join_right (a b : ByteArray) (k : Nat) (h : k < lineN b b.size) : (startsN (joined a b) (joined a b).size).getD (lineN a a.size + k) 0 = (startsN b b.size).getD k 0 + a.size + 1 := by
  have hl := starts_len a a.size
  have hb := starts_len b b.size
  rw [starts_joined, List.getD_eq_getElem?_getD, List.getD_eq_getElem?_getD, List.getElem?_append_right (by omega)]
  have : lineN a a.size + k - (startsN a a.size).length = k := by omega
  rw [this, List.getElem?_map, List.getElem?_eq_getElem (by omega)]
  simp; omega
set_option maxRecDepth 100000 in
set_option maxHeartbeats 400000 in
theorem joins_walk (a b : ByteArray) (w : World) (hT : Lib.Utf8Tabs 0 1 w) (ha : a.size ≤ 1000000000000000) (hb : b.size ≤ 1000000000000000) :
    Calls Tryd.prog 8 #[.string a, .string b] w fun e w' => e = .returned (.bool true) ∧ Below w.heap.size w w' := by
  have T := Lib.hid hT
  clear hT
  by_cases hs : 100000 < a.size + b.size
  · have t1 : decide ((100000 : Int) < (a.size : Int) + b.size) = true := by simp; omega
    go_enter Tryd.func8, Tryd.ntmps8
    go_wp2_with fail
    refine (awake_step T.out (Below.refl _ _)).mono ?_
    rintro e w1 ⟨rfl, hb1⟩
    go_wp2_with fail
    refine (awake_step T.out hb1).mono ?_
    rintro e w2 ⟨rfl, hb2⟩
    go_wp2_with fail
    go_ret
    exact ⟨rfl, below_step hb1 hb2⟩
  · have t1 : decide ((100000 : Int) < (a.size : Int) + b.size) = false := by simp; omega
    go_enter Tryd.func8, Tryd.ntmps8
    go_wp2_with fail
    refine (awake_step T.out (Below.refl _ _)).mono ?_
    rintro e w1 ⟨rfl, hb1⟩
    go_wp2_with fail
    refine (lines_prog' a w1 (by omega)).mono ?_
    rintro e w2 ⟨g1, d1, rfl, hL1⟩
    go_wp2_with fail
    refine (lines_prog' b w2 (by omega)).mono ?_
    rintro e w3 ⟨g2, d2, rfl, hL2⟩
    have hjs := joined_size a b
    go_wp2_with fail
    show Calls Tryd.prog 17 #[.string (joined a b)] _ _
    refine (lines_prog' (joined a b) w3 (by omega)).mono ?_
    rintro e w4 ⟨g3, d3, rfl, hL3⟩
    clear hjs
    rw [line_joined]
    have hc3 := hL3.len
    rw [line_joined] at hc3
    have hc1 := hL1.len
    have hc2 := hL2.len
    have C1 : Hid (∀ j, j < lineN a a.size → w4.cell? ⟨g1, j, none⟩ = some (.int .i64 (((startsN a a.size).getD j 0 : Nat) : Int))) := Lib.hid fun j hj =>
      (hL3.below.cell (p := ⟨g1, j, none⟩) (by have := hL1.high; have := hL2.below.size; show g1 < _; omega)).trans ((hL2.below.cell (p := ⟨g1, j, none⟩) hL1.high).trans (hL1.cell j hj))
    have C2 : Hid (∀ j, j < lineN b b.size → w4.cell? ⟨g2, j, none⟩ = some (.int .i64 (((startsN b b.size).getD j 0 : Nat) : Int))) := Lib.hid fun j hj =>
      (hL3.below.cell (p := ⟨g2, j, none⟩) hL2.high).trans (hL2.cell j hj)
    have C3 : Hid (∀ j, j < lineN a a.size → w4.cell? ⟨g3, j, none⟩ = some (.int .i64 (((startsN a a.size).getD j 0 : Nat) : Int))) := Lib.hid fun j hj =>
      (hL3.cell j (by rw [line_joined]; omega)).trans (by rw [join_left a b j hj])
    have C4 : Hid (∀ j, j < lineN b b.size → w4.cell? ⟨g3, lineN a a.size + j, none⟩ = some (.int .i64 ((((startsN b b.size).getD j 0 : Nat) : Int) + a.size + 1))) := Lib.hid fun j hj =>
      (hL3.cell _ (by rw [line_joined]; omega)).trans (by rw [join_right a b j hj]; simp)
    have HB := Lib.hid (below_step (below_step (below_step hb1 hL1.below) hL2.below) hL3.below)
    have bd1 := lineN_bd a a.size
    have bd2 := lineN_bd b b.size
    have S2 := Lib.hid (fun j (hj : j < lineN b b.size) => starts_le b b.size j _ (starts_some b b.size j hj))
    clear hL1 hL2 hL3 hb1
    generalize hn1 : lineN a a.size = n1 at *
    generalize hn2 : lineN b b.size = n2 at *
    clear hn1 hn2
    have t2 : (((n1 + n2 : Nat) : Int) != (n1 : Int) + n2) = false := by simp
    go_wp2_with fail
    go_loopw [8] (fun i wr => (∃ k : Nat, k ≤ n1 + n2 ∧ i = .int .i64 k) ∧ ∃ q, wr = w4.drewN q) (fun i _ => n1 + n2 - (intOf i).toNat)
    case atStart => exact ⟨⟨0, by omega, by go_num⟩, 0, rfl⟩
    case round =>
      obtain ⟨⟨k, hk, rfl⟩, q, rfl⟩ := hrel
      by_cases hlt : k < n1 + n2
      · by_cases h1 : k < n1
        · have f1 := C1.out k h1
          have f3 := C3.out k h1
          generalize (startsN a a.size).getD k 0 = x at f1 f3
          have t3 : ((x : Int) != (x : Int)) = false := by simp
          have t4 : decide (k < n1) = true := by simp; omega
          have t5 : decide (n1 ≤ k) = false := by simp; omega
          go_wp2_with fail
          go_quiet (fail)
          go_wp2_with fail
          go_roundw
          case rel => exact ⟨⟨k + 1, by omega, by go_num⟩, _, rfl⟩
          case measure => simp [intOf]; omega
        · have f2 := C2.out (k - n1) (by omega)
          have f4 := C4.out (k - n1) (by omega)
          have sx := S2.out (k - n1) (by omega)
          rw [show n1 + (k - n1) = k from by omega] at f4
          generalize (startsN b b.size).getD (k - n1) 0 = x at f2 f4 sx
          have t3 : (((x : Int) + a.size + 1) != ((x : Int) + a.size + 1)) = false := by simp
          have t4 : decide (k < n1) = false := by simp; omega
          have t5 : decide (n1 ≤ k) = true := by simp; omega
          have hk1 : n1 ≤ k := by omega
          go_wp2_with fail
          go_quiet (fail)
          go_wp2_with fail
          go_roundw
          case rel => exact ⟨⟨k + 1, by omega, by go_num⟩, _, rfl⟩
          case measure => simp [intOf]; omega
      · obtain rfl : k = n1 + n2 := by omega
        go_wp2_with fail
        go_ret
        exact ⟨rfl, below_drewN HB.out _⟩
end Go.Proofs.YtcogdhdigjhjnaaDoor
