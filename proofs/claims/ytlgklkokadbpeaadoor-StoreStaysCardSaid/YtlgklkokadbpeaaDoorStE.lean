import Derived.Test.YtlgklkokadbpeaaDoorStD
namespace Go.Proofs.YtlgklkokadbpeaaDoor
open Go.RowKit Go.Maps
set_option maxRecDepth 100000 in
set_option maxHeartbeats 1000000 in
/-- Get: the file of the name, or none. -/
theorem get_any {W : World} {B : Nat → Prop} {b : Nat} {L : List Fi} {n : Int} (h : St W B b L n) (s : ByteArray) (hs : s.size ≤ maxLen) :
    Calls Tryd.prog 28 #[.pointer (some ⟨b, 0, none⟩), .string s] W fun e w' => e = .returned (.tuple #[((find L s).getD zeroF).val, .int .i64 (if (find L s).isSome then 0 else 3)]) ∧ Below W.heap.size W w' := by
  obtain ⟨m, h1, hlk⟩ := look_any h s hs
  have hb : Below W.heap.size W (W.alloc fileO) := (Below.refl _ _).alloc (Nat.le_refl _) fileO
  have h2 : (W.alloc (.cells #[.string ⟨#[]⟩, .string ⟨#[]⟩, .int .i64 0] 45)).cell? ⟨b, 1, none⟩ = some (.map m) := cell_later hb h1
  have hl := hlk _ hb
  unfold fileO at hl
  clear hlk h1 hb h
  cases hf : find L s with
  | none =>
    rw [hf] at hl
    simp only [Option.getD_none, Option.isSome_none, zeroF, Fi.val] at hl ⊢
    go_enter Tryd.func28, Tryd.ntmps28
    go_wp2_with fail
    exact bodyPost_ret (v := .tuple #[.agg #[.string ⟨#[]⟩, .string ⟨#[]⟩, .int .i64 0], .int .i64 3]) (by simp [results, Tryd.results28, go_sem]) rfl ⟨rfl, ((Below.refl W.heap.size W).alloc (Nat.le_refl _) _).alloc (by simp) _⟩
  | some f =>
    rw [hf] at hl
    simp only [Option.getD_some, Option.isSome_some, Fi.val] at hl ⊢
    obtain ⟨fn, ft, fv⟩ := f
    simp only at hl ⊢
    go_enter Tryd.func28, Tryd.ntmps28
    go_wp2_with fail
    exact bodyPost_ret (v := .tuple #[.agg #[.string fn, .string ft, .int .i64 fv], .int .i64 0]) (by simp [results, Tryd.results28, go_sem]) rfl ⟨rfl, ((Below.refl W.heap.size W).alloc (Nat.le_refl _) _).alloc (by simp) _⟩
/-- Revision. -/
theorem rev_any {W : World} {B : Nat → Prop} {b : Nat} {L : List Fi} {n : Int} (h : St W B b L n) :
    Calls Tryd.prog 19 #[.pointer (some ⟨b, 0, none⟩)] W fun e w' => e = .returned (.int .i64 n) ∧ Below W.heap.size W w' := by
  have h0 := h.c0
  clear h
  go_enter Tryd.func19, Tryd.ntmps19
  go_wp2
  go_ret
  exact ⟨rfl, Below.refl _ _⟩
end Go.Proofs.YtlgklkokadbpeaaDoor
