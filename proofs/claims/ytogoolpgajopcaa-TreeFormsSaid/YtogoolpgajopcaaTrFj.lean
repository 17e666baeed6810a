import Derived.Test.YtogoolpgajopcaaTrFi
namespace Go.Proofs.Ytogoolpgajopcaa
open Go.RowKit
def leafB (k : Int) (t : ByteArray) (n m : Int) : Bool :=
  if k = 20 then emptyB t && (decide (0 ≤ n) && (m == 0))
  else if k = 21 then plainB n m
  else if k = 25 then idB t && plainB n m
  else if k = 22 ∨ k = 23 ∨ k = 24 ∨ k = 26 then bareB t n m
  else false
def binVs : List Value := binL.map fun l => Value.string ⟨l.toArray⟩
theorem bin_cell (w : World) (k : Nat) (h : k < 13) : (w.alloc (.cells binVs.toArray 9)).cell? ⟨w.heap.size, k, none⟩ = some (.string ⟨(binL.getD k []).toArray⟩) := by
  rw [World.cell?_alloc_at _ _ _ _ rfl]
  have h1 : k < binL.length := h
  simp [binVs, List.getD_eq_getElem?_getD, List.getElem?_eq_getElem h1]
set_option maxHeartbeats 2000000 in
theorem rbin_any (s : ByteArray) (w : World) :
    Calls Try.prog 52 #[.string s] w fun e w' => e = .returned (.bool (binB s)) ∧ Below w.heap.size w w' := by
  have C := Lib.hid (bin_cell w)
  have HB := Lib.hid ((Below.refl w.heap.size w).alloc (Nat.le_refl _) (.cells binVs.toArray 9))
  go_enter Try.func52, Try.ntmps52
  go_wp2_with fail
  change Code.wp _ _ _ _ (w.alloc (.cells binVs.toArray 9))
  generalize w.alloc (.cells binVs.toArray 9) = w1 at *
  go_loop [4] (fun v => ∃ k : Nat, k ≤ 13 ∧ v = .int .i64 k ∧ ∀ j, j < k → (s.toList == binL.getD j []) = false) (fun v => 13 - (intOf v).toNat)
  case atStart => exact ⟨0, by omega, by go_num, fun j h => absurd h (by omega)⟩
  case round =>
    obtain ⟨k, hk, rfl, hno⟩ := hrel
    have HN := Lib.hid hno
    clear hno
    by_cases hlt : k < 13
    · have f1 := C.out k hlt
      have hin : binL.getD k [] ∈ binL := by
        rw [List.getD_eq_getElem?_getD, List.getElem?_eq_getElem (show k < binL.length from hlt)]
        exact List.getElem_mem _
      cases hq : (s.toList == binL.getD k []) with
      | true =>
        have HR := Lib.hid (show binB s = true from List.any_eq_true.2 ⟨_, hin, hq⟩)
        clear hin
        have hq2 : (binL.getD k [] == s.toList) = true := by rw [beq_iff_eq] at hq ⊢; exact hq.symm
        generalize binL.getD k [] = x at *
        clear hq
        go_wp2_with fail
        go_ret
        exact ⟨by rw [HR.out]; rfl, HB.out⟩
      | false =>
        have HN' : Hid (∀ j, j < k + 1 → (s.toList == binL.getD j []) = false) := Lib.hid (fun j hj => by
          rcases Nat.lt_or_ge j k with h | h
          · exact HN.out j h
          · obtain rfl : j = k := by omega
            exact hq)
        clear hin
        have hq2 : (binL.getD k [] == s.toList) = false := by
          cases h : (binL.getD k [] == s.toList) with
          | false => rfl
          | true => rw [beq_iff_eq] at h; rw [h] at hq; simp at hq
        generalize binL.getD k [] = x at f1 hq2
        clear hq
        go_wp2_with fail
        go_round
        case rel => exact ⟨k + 1, by omega, by go_num, HN'.out⟩
        case measure => simp [intOf]; omega
    · obtain rfl : k = 13 := by omega
      have HR := Lib.hid (show binB s = false from by
        rw [binB, List.any_eq_false]
        intro x hx
        obtain ⟨j, hj, rfl⟩ := List.getElem_of_mem hx
        have := HN.out j hj
        rw [List.getD_eq_getElem?_getD, List.getElem?_eq_getElem hj] at this
        simpa using this)
      go_wp2_with fail
      go_ret
      exact ⟨by rw [HR.out]; rfl, HB.out⟩
set_option maxRecDepth 100000 in
set_option maxHeartbeats 2000000 in
theorem leaf_20 (t : ByteArray) (n m a : Int) (l : Nat) (A : Option Addr) (c : Nat) : Flat 53 (leafB 20 t n m) 20 t n m a l A c := by
  intro w
  obtain ⟨y, hy⟩ : ∃ y, leafB 20 t n m = y := ⟨_, rfl⟩
  rw [hy]
  rw [show leafB 20 t n m = (emptyB t && (decide (0 ≤ n) && (m == 0))) from rfl] at hy
  simp only [emptyB] at hy
  have HY := Lib.hid hy
  clear hy
  go_enter Try.func53, Try.ntmps53
  go_wp2_with fail
  all_goals
    go_ret
    refine ⟨ret_bool ?_, (by first | exact Box.below (by assumption) | exact (Below.refl _ _).alloc (Nat.le_refl _) _)⟩
    first | exact HY.out | (rw [← HY.out]; first | rfl | exact beq0 _ | (simp [*]; done) | (simp [*]; omega) | (simp_all; done) | (simp_all; omega))
set_option maxRecDepth 100000 in
set_option maxHeartbeats 2000000 in
theorem leaf_21 (t : ByteArray) (n m a : Int) (l : Nat) (A : Option Addr) (c : Nat) : Flat 53 (leafB 21 t n m) 21 t n m a l A c := by
  intro w
  obtain ⟨y, hy⟩ : ∃ y, leafB 21 t n m = y := ⟨_, rfl⟩
  rw [hy]
  rw [show leafB 21 t n m = (plainB n m) from rfl] at hy
  simp only [plainB] at hy
  have HY := Lib.hid hy
  clear hy
  go_enter Try.func53, Try.ntmps53
  go_wp2_with fail
  all_goals
    go_ret
    refine ⟨ret_bool ?_, (by first | exact Box.below (by assumption) | exact (Below.refl _ _).alloc (Nat.le_refl _) _)⟩
    first | exact HY.out | (rw [← HY.out]; first | rfl | exact beq0 _ | (simp [*]; done) | (simp [*]; omega) | (simp_all; done) | (simp_all; omega))
set_option maxRecDepth 100000 in
set_option maxHeartbeats 2000000 in
theorem leaf_25 (t : ByteArray) (n m a : Int) (l : Nat) (A : Option Addr) (c : Nat) (ht : t.size ≤ 1000000000000000) : Flat 53 (leafB 25 t n m) 25 t n m a l A c := by
  intro w
  obtain ⟨y, hy⟩ : ∃ y, leafB 25 t n m = y := ⟨_, rfl⟩
  rw [hy]
  rw [show leafB 25 t n m = (idB t && plainB n m) from rfl] at hy
  simp only [plainB] at hy
  have KN := Lib.hid (rnamed_any 25 t n m a l A c ht)
  unfold Flat at KN
  generalize idB t = b1 at *
  have HY := Lib.hid hy
  clear hy
  go_enter Try.func53, Try.ntmps53
  go_wp2_with (first
    | (go_at_call 41; refine (KN.out _).mono ?_; rintro e w1 ⟨rfl, hb⟩; have bx := Box.later (by first | assumption | exact Box.new _ _ _ _ _ _ _ _ _) hb; have bx2 := bx; obtain ⟨-, -, c0, c1, c2, c3, c4, c5⟩ := bx2))
  all_goals
    go_ret
    refine ⟨ret_bool ?_, (by first | exact Box.below (by assumption) | exact (Below.refl _ _).alloc (Nat.le_refl _) _)⟩
    first | exact HY.out | (rw [← HY.out]; first | rfl | exact beq0 _ | (simp [*]; done) | (simp [*]; omega) | (simp_all; done) | (simp_all; omega))
set_option maxRecDepth 100000 in
set_option maxHeartbeats 2000000 in
theorem leaf_22 (t : ByteArray) (n m a : Int) (l : Nat) (A : Option Addr) (c : Nat) : Flat 53 (leafB 22 t n m) 22 t n m a l A c := by
  intro w
  obtain ⟨y, hy⟩ : ∃ y, leafB 22 t n m = y := ⟨_, rfl⟩
  rw [hy]
  rw [show leafB 22 t n m = (bareB t n m) from rfl] at hy
  have KP := Lib.hid (rplain_any 22 t n m a l A c)
  unfold Flat at KP
  generalize bareB t n m = b2 at *
  have HY := Lib.hid hy
  clear hy
  go_enter Try.func53, Try.ntmps53
  go_wp2_with (first
    | (go_at_call 42; refine (KP.out _).mono ?_; rintro e w1 ⟨rfl, hb⟩; have bx := Box.later (by first | assumption | exact Box.new _ _ _ _ _ _ _ _ _) hb; have bx2 := bx; obtain ⟨-, -, c0, c1, c2, c3, c4, c5⟩ := bx2))
  all_goals
    go_ret
    refine ⟨ret_bool ?_, (by first | exact Box.below (by assumption) | exact (Below.refl _ _).alloc (Nat.le_refl _) _)⟩
    first | exact HY.out | (rw [← HY.out]; first | rfl | exact beq0 _ | (simp [*]; done) | (simp [*]; omega) | (simp_all; done) | (simp_all; omega))
set_option maxRecDepth 100000 in
set_option maxHeartbeats 2000000 in
theorem leaf_23 (t : ByteArray) (n m a : Int) (l : Nat) (A : Option Addr) (c : Nat) : Flat 53 (leafB 23 t n m) 23 t n m a l A c := by
  intro w
  obtain ⟨y, hy⟩ : ∃ y, leafB 23 t n m = y := ⟨_, rfl⟩
  rw [hy]
  rw [show leafB 23 t n m = (bareB t n m) from rfl] at hy
  have KP := Lib.hid (rplain_any 23 t n m a l A c)
  unfold Flat at KP
  generalize bareB t n m = b2 at *
  have HY := Lib.hid hy
  clear hy
  go_enter Try.func53, Try.ntmps53
  go_wp2_with (first
    | (go_at_call 42; refine (KP.out _).mono ?_; rintro e w1 ⟨rfl, hb⟩; have bx := Box.later (by first | assumption | exact Box.new _ _ _ _ _ _ _ _ _) hb; have bx2 := bx; obtain ⟨-, -, c0, c1, c2, c3, c4, c5⟩ := bx2))
  all_goals
    go_ret
    refine ⟨ret_bool ?_, (by first | exact Box.below (by assumption) | exact (Below.refl _ _).alloc (Nat.le_refl _) _)⟩
    first | exact HY.out | (rw [← HY.out]; first | rfl | exact beq0 _ | (simp [*]; done) | (simp [*]; omega) | (simp_all; done) | (simp_all; omega))
set_option maxRecDepth 100000 in
set_option maxHeartbeats 2000000 in
theorem leaf_24 (t : ByteArray) (n m a : Int) (l : Nat) (A : Option Addr) (c : Nat) : Flat 53 (leafB 24 t n m) 24 t n m a l A c := by
  intro w
  obtain ⟨y, hy⟩ : ∃ y, leafB 24 t n m = y := ⟨_, rfl⟩
  rw [hy]
  rw [show leafB 24 t n m = (bareB t n m) from rfl] at hy
  have KP := Lib.hid (rplain_any 24 t n m a l A c)
  unfold Flat at KP
  generalize bareB t n m = b2 at *
  have HY := Lib.hid hy
  clear hy
  go_enter Try.func53, Try.ntmps53
  go_wp2_with (first
    | (go_at_call 42; refine (KP.out _).mono ?_; rintro e w1 ⟨rfl, hb⟩; have bx := Box.later (by first | assumption | exact Box.new _ _ _ _ _ _ _ _ _) hb; have bx2 := bx; obtain ⟨-, -, c0, c1, c2, c3, c4, c5⟩ := bx2))
  all_goals
    go_ret
    refine ⟨ret_bool ?_, (by first | exact Box.below (by assumption) | exact (Below.refl _ _).alloc (Nat.le_refl _) _)⟩
    first | exact HY.out | (rw [← HY.out]; first | rfl | exact beq0 _ | (simp [*]; done) | (simp [*]; omega) | (simp_all; done) | (simp_all; omega))
set_option maxRecDepth 100000 in
set_option maxHeartbeats 2000000 in
theorem leaf_26 (t : ByteArray) (n m a : Int) (l : Nat) (A : Option Addr) (c : Nat) : Flat 53 (leafB 26 t n m) 26 t n m a l A c := by
  intro w
  obtain ⟨y, hy⟩ : ∃ y, leafB 26 t n m = y := ⟨_, rfl⟩
  rw [hy]
  rw [show leafB 26 t n m = (bareB t n m) from rfl] at hy
  have KP := Lib.hid (rplain_any 26 t n m a l A c)
  unfold Flat at KP
  generalize bareB t n m = b2 at *
  have HY := Lib.hid hy
  clear hy
  go_enter Try.func53, Try.ntmps53
  go_wp2_with (first
    | (go_at_call 42; refine (KP.out _).mono ?_; rintro e w1 ⟨rfl, hb⟩; have bx := Box.later (by first | assumption | exact Box.new _ _ _ _ _ _ _ _ _) hb; have bx2 := bx; obtain ⟨-, -, c0, c1, c2, c3, c4, c5⟩ := bx2))
  all_goals
    go_ret
    refine ⟨ret_bool ?_, (by first | exact Box.below (by assumption) | exact (Below.refl _ _).alloc (Nat.le_refl _) _)⟩
    first | exact HY.out | (rw [← HY.out]; first | rfl | exact beq0 _ | (simp [*]; done) | (simp [*]; omega) | (simp_all; done) | (simp_all; omega))
set_option maxRecDepth 100000 in
set_option maxHeartbeats 2000000 in
theorem leaf_any (k : Int) (t : ByteArray) (n m a : Int) (l : Nat) (A : Option Addr) (c : Nat) (ht : t.size ≤ 1000000000000000) : Flat 53 (leafB k t n m) k t n m a l A c := by
  by_cases h : k ≠ 20 ∧ k ≠ 21 ∧ k ≠ 22 ∧ k ≠ 23 ∧ k ≠ 24 ∧ k ≠ 25 ∧ k ≠ 26
  · intro w
    have e : leafB k t n m = false := by obtain ⟨h20, h21, h22, h23, h24, h25, h26⟩ := h; simp [leafB, *]
    rw [e]
    obtain ⟨h20, h21, h22, h23, h24, h25, h26⟩ := h
    have t20 : (k == 20) = false := beq_eq_false_iff_ne.2 h20
    have t21 : (k == 21) = false := beq_eq_false_iff_ne.2 h21
    have t22 : (k == 22) = false := beq_eq_false_iff_ne.2 h22
    have t23 : (k == 23) = false := beq_eq_false_iff_ne.2 h23
    have t24 : (k == 24) = false := beq_eq_false_iff_ne.2 h24
    have t25 : (k == 25) = false := beq_eq_false_iff_ne.2 h25
    have t26 : (k == 26) = false := beq_eq_false_iff_ne.2 h26
    clear e h20 h21 h22 h23 h24 h25 h26
    go_enter Try.func53, Try.ntmps53
    go_wp2_with fail
    go_ret
    exact ⟨rfl, (Below.refl _ _).alloc (Nat.le_refl _) _⟩
  · have h' : k = 20 ∨ k = 21 ∨ k = 22 ∨ k = 23 ∨ k = 24 ∨ k = 25 ∨ k = 26 := by omega
    rcases h' with rfl | rfl | rfl | rfl | rfl | rfl | rfl
    · exact leaf_20 t n m a l A c
    · exact leaf_21 t n m a l A c
    · exact leaf_22 t n m a l A c
    · exact leaf_23 t n m a l A c
    · exact leaf_24 t n m a l A c
    · exact leaf_25 t n m a l A c ht
    · exact leaf_26 t n m a l A c
end Go.Proofs.Ytogoolpgajopcaa
