import Derived.Test.YtcogdhdigjhjnaaDoorA2
namespace Go.Proofs.YtcogdhdigjhjnaaDoor
open Go.RowKit
theorem apply_prog_nil (s : ByteArray) (A : Option Addr) (d : Nat) (w : World) :
    Calls Tryd.prog 19 #[.string s, .slice A 0 d] w fun e w' => e = .returned (.tuple #[.string s, .int .i64 0]) ∧ Below w.heap.size w w' := by
  go_enter Tryd.func19, Tryd.ntmps19
  go_wp2
  go_rounds 1
  go_ret2
  exact ⟨rfl, Below.refl _ _⟩
theorem apply_ref_nil (s : ByteArray) (A : Option Addr) (d : Nat) (w : World) :
    Calls Tryd.prog 20 #[.string s, .slice A 0 d] w fun e w' => e = .returned (.tuple #[.string s, .int .i64 0]) ∧ Below w.heap.size w w' := by
  go_enter Tryd.func20, Tryd.ntmps20
  go_wp2
  go_rounds 1
  go_ret2
  exact ⟨rfl, Below.refl _ _⟩
/-- What is told of a slice of edits that came in. -/
def EditArg (w : World) (A : Option Addr) (n d : Nat) : Prop :=
  n = 0 ∨ ∃ b off xs, A = some ⟨b, off, none⟩ ∧ xs.length = n ∧ n ≤ d ∧ b < w.heap.size ∧ EditsAt w b off xs ∧ ∀ x ∈ xs, x.Text.size ≤ 1000000000000000
theorem apply_both (s : ByteArray) (A : Option Addr) (n d : Nat) (w : World) (hs : s.size ≤ 1000000) (hn : n ≤ 100) (h : EditArg w A n d) : ∃ (r : ByteArray) (e : Int),
    (∀ w1, Below w.heap.size w w1 → Calls Tryd.prog 19 #[.string s, .slice A n d] w1 fun e1 w' => e1 = .returned (.tuple #[.string r, .int .i64 e]) ∧ Below w1.heap.size w1 w') ∧
    (∀ w1, Below w.heap.size w w1 → Calls Tryd.prog 20 #[.string s, .slice A n d] w1 fun e1 w' => e1 = .returned (.tuple #[.string r, .int .i64 e]) ∧ Below w1.heap.size w1 w') := by
  rcases h with rfl | ⟨b, off, xs, rfl, hl, hd, hb, hx, ht⟩
  · exact ⟨s, 0, fun w1 _ => apply_prog_nil s A d w1, fun w1 _ => apply_ref_nil s A d w1⟩
  · have hx' : ∀ w1, Below w.heap.size w w1 → EditsAt w1 b off xs := fun w1 h i hi =>
      ⟨(h.cell (p := ⟨b, off + i * 3, none⟩) hb).trans (hx i hi).1, (h.cell (p := ⟨b, off + i * 3 + 1, none⟩) hb).trans (hx i hi).2.1, (h.cell (p := ⟨b, off + i * 3 + 2, none⟩) hb).trans (hx i hi).2.2⟩
    exact ⟨(applyE s xs).1, (applyE s xs).2, fun w1 h => apply_prog s b off n d xs w1 hs hl hd hn (Nat.lt_of_lt_of_le hb h.size) (hx' w1 h) ht,
      fun w1 h => apply_ref s b off n d xs w1 hs hl hd hn (Nat.lt_of_lt_of_le hb h.size) (hx' w1 h) ht⟩
set_option maxHeartbeats 400000 in
theorem edits_walk (s : ByteArray) (A : Option Addr) (n d : Nat) (w : World) (hT : Lib.Utf8Tabs 0 1 w) (hE : EditArg w A n d) :
    Calls Tryd.prog 6 #[.string s, .slice A n d] w fun e w' => e = .returned (.bool true) ∧ Below w.heap.size w w' := by
  have T := Lib.hid hT
  clear hT
  by_cases hs : s.size ≤ 1000000 ∧ n ≤ 100
  · obtain ⟨h1, h2⟩ := hs
    obtain ⟨r, x, K1, K2⟩ := apply_both s A n d w h1 h2 hE
    have K1 := Lib.hid K1
    have K2 := Lib.hid K2
    clear hE
    have q1 : decide (1000000 < s.size) = false := by simp; omega
    have q2 : decide (100 < n) = false := by simp; omega
    have q3 : (x == x) = true := by simp
    go_enter Tryd.func6, Tryd.ntmps6
    go_wp2_with fail
    refine (awake_step T.out (Below.refl _ _)).mono ?_
    rintro e w1 ⟨rfl, hb1⟩
    go_wp2_with fail
    refine (K1.out w1 hb1).mono ?_
    rintro e w2 ⟨rfl, hb2⟩
    have HB2 := Lib.hid (below_step hb1 hb2)
    clear hb1 hb2
    go_wp2_with fail
    refine (K2.out w2 HB2.out).mono ?_
    rintro e w3 ⟨rfl, hb3⟩
    go_wp2_with fail
    go_ret
    exact ⟨rfl, below_step HB2.out hb3⟩
  · have hs' : 1000000 < s.size ∨ (s.size ≤ 1000000 ∧ 100 < n) := by omega
    clear hs hE
    rcases hs' with q1 | ⟨q1, q2⟩
    all_goals
      go_enter Tryd.func6, Tryd.ntmps6
      go_wp2_with fail
      refine (awake_step T.out (Below.refl _ _)).mono ?_
      rintro e w1 ⟨rfl, hb1⟩
      go_wp2_with fail
      refine (awake_step T.out hb1).mono ?_
      rintro e w2 ⟨rfl, hb2⟩
      go_wp2_with fail
      go_ret
      exact ⟨rfl, below_step hb1 hb2⟩
end Go.Proofs.YtcogdhdigjhjnaaDoor
