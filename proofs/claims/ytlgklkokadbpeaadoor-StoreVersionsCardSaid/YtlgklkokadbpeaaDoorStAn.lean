import Derived.Test.YtlgklkokadbpeaaDoorStAr
namespace Go.Proofs.YtlgklkokadbpeaaDoor
open Go.RowKit
theorem apply_prog_nil (s : ByteArray) (A : Option Addr) (d : Nat) (w : World) :
    Calls Tryd.prog 51 #[.string s, .slice A 0 d] w fun e w' => e = .returned (.tuple #[.string s, .int .i64 0]) ∧ Below w.heap.size w w' := by
  go_enter Tryd.func51, Tryd.ntmps51
  go_wp2
  go_rounds 1
  go_ret2
  exact ⟨rfl, Below.refl _ _⟩
theorem apply_ref_nil (s : ByteArray) (A : Option Addr) (d : Nat) (w : World) :
    Calls Tryd.prog 62 #[.string s, .slice A 0 d] w fun e w' => e = .returned (.tuple #[.string s, .int .i64 0]) ∧ Below w.heap.size w w' := by
  go_enter Tryd.func62, Tryd.ntmps62
  go_wp2
  go_rounds 1
  go_ret2
  exact ⟨rfl, Below.refl _ _⟩
/-- What is told of a slice of edits that came in. -/
def EditArg (w : World) (A : Option Addr) (n d : Nat) : Prop :=
  n = 0 ∨ ∃ b off xs, A = some ⟨b, off, none⟩ ∧ xs.length = n ∧ n ≤ d ∧ b < w.heap.size ∧ EditsAt w b off xs ∧ ∀ x ∈ xs, x.Text.size ≤ 1000000000000000
theorem apply_both (s : ByteArray) (A : Option Addr) (n d : Nat) (w : World) (hs : s.size ≤ 1000000) (hn : n ≤ 1000000) (h : EditArg w A n d) : ∃ (r : ByteArray) (e : Int),
    (∀ w1, Below w.heap.size w w1 → Calls Tryd.prog 51 #[.string s, .slice A n d] w1 fun e1 w' => e1 = .returned (.tuple #[.string r, .int .i64 e]) ∧ Below w1.heap.size w1 w') ∧
    (∀ w1, Below w.heap.size w w1 → Calls Tryd.prog 62 #[.string s, .slice A n d] w1 fun e1 w' => e1 = .returned (.tuple #[.string r, .int .i64 e]) ∧ Below w1.heap.size w1 w') := by
  rcases h with rfl | ⟨b, off, xs, rfl, hl, hd, hb, hx, ht⟩
  · exact ⟨s, 0, fun w1 _ => apply_prog_nil s A d w1, fun w1 _ => apply_ref_nil s A d w1⟩
  · have hx' : ∀ w1, Below w.heap.size w w1 → EditsAt w1 b off xs := fun w1 h i hi =>
      ⟨(h.cell (p := ⟨b, off + i * 3, none⟩) hb).trans (hx i hi).1, (h.cell (p := ⟨b, off + i * 3 + 1, none⟩) hb).trans (hx i hi).2.1, (h.cell (p := ⟨b, off + i * 3 + 2, none⟩) hb).trans (hx i hi).2.2⟩
    exact ⟨(applyE s xs).1, (applyE s xs).2, fun w1 h => apply_prog s b off n d xs w1 hs hl hd hn (Nat.lt_of_lt_of_le hb h.size) (hx' w1 h) ht,
      fun w1 h => apply_ref s b off n d xs w1 hs hl hd hn (Nat.lt_of_lt_of_le hb h.size) (hx' w1 h) ht⟩
end Go.Proofs.YtlgklkokadbpeaaDoor
