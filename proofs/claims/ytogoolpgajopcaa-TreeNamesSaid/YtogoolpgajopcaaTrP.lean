import Derived.Test.YtogoolpgajopcaaTrN
namespace Go.Proofs.Ytogoolpgajopcaa
open Go.RowKit
/-- Is it a node that speaks of a name? -/
def nameB (k : Int) (t : ByteArray) : Bool := (k == 1 && !wordB t) || (k == 25 || k == 33)
set_option maxRecDepth 100000 in
set_option maxHeartbeats 4000000 in
theorem namesOne_prog (k : Int) (t : ByteArray) (n m a : Int) (l : Nat) (A : Option Addr) (c : Nat) (w : World) : Calls Try.prog 64 #[.agg #[.int .i64 k, .string t, .int .i64 n, .int .i64 m, .int .i64 a, .slice A l c]] w fun e w' => e = .returned (.bool (nameB k t)) ∧ Below w.heap.size w w' := by
  have KW := Lib.hid (fun W => word_all t W)
  by_cases h1 : k = 1
  · subst h1
    have hD : Hid (nameB 1 t = !wordB t) := Lib.hid (by simp [nameB])
    generalize nameB 1 t = y at *
    go_enter Try.func64, Try.ntmps64
    go_wp2_with fail
    refine (KW.out _).mono ?_
    rintro e w2 ⟨rfl, rfl⟩
    generalize wordB t = z at *
    go_wp2_with fail
    go_ret
    exact ⟨ret_bool hD.out.symm, (Below.refl _ _).alloc (Nat.le_refl _) _⟩
  have t1 : (k == 1) = false := by simpa using h1
  by_cases h2 : k = 25 ∨ k = 33
  · have hD : Hid (nameB k t = true) := Lib.hid (by rcases h2 with rfl | rfl <;> simp [nameB])
    generalize nameB k t = y at *
    rcases h2 with rfl | rfl
    all_goals
      clear t1 h1
      go_enter Try.func64, Try.ntmps64
      go_wp2_with fail
      go_ret
      exact ⟨ret_bool hD.out.symm, (Below.refl _ _).alloc (Nat.le_refl _) _⟩
  · have t2 : (k == 25) = false := beq_eq_false_iff_ne.2 (by omega)
    have t3 : (k == 33) = false := beq_eq_false_iff_ne.2 (by omega)
    have hD : Hid (nameB k t = false) := Lib.hid (by simp [nameB, t1, t2, t3])
    generalize nameB k t = y at *
    clear h1 h2
    go_enter Try.func64, Try.ntmps64
    go_wp2_with fail
    go_ret
    exact ⟨ret_bool hD.out.symm, (Below.refl _ _).alloc (Nat.le_refl _) _⟩
end Go.Proofs.Ytogoolpgajopcaa
