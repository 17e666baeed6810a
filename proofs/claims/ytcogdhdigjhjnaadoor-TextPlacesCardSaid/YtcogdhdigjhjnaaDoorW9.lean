import Derived.Test.YtcogdhdigjhjnaaDoorW8
namespace Go.Proofs.YtcogdhdigjhjnaaDoor
open Go.RowKit
def Cells (l : List Nat) (n g : Nat) (w : World) : Prop := ∀ j, j < n → w.cell? ⟨g, j, none⟩ = some (.int .i64 ((l.getD j 0 : Nat) : Int))
set_option maxHeartbeats 400000 in
theorem same_ints (g1 g2 n d1 d2 : Nat) (l : List Nat) (w : World) (hn1 : n ≤ d1) (hn2 : n ≤ d2) (hn : n ≤ 2000000000000) (h1 : Cells l n g1 w) (h2 : Cells l n g2 w) :
    Calls Tryd.prog 16 #[.slice (some ⟨g1, 0, none⟩) n d1, .slice (some ⟨g2, 0, none⟩) n d2] w fun e w' => e = .returned (.bool true) ∧ Below w.heap.size w w' := by
  have H1 := Lib.hid h1
  have H2 := Lib.hid h2
  clear h1 h2
  go_enter Tryd.func16, Tryd.ntmps16
  go_wp2
  go_loopw [5] (fun i wr => (∃ k : Nat, k ≤ n ∧ i = .int .i64 k) ∧ Cells l n g1 wr ∧ Cells l n g2 wr ∧ Below w.heap.size w wr) (fun i _ => n - (intOf i).toNat)
  case atStart => exact ⟨⟨0, by omega, by go_num⟩, H1.out, H2.out, Below.refl _ _⟩
  case round =>
    obtain ⟨⟨k, hk, rfl⟩, a1, a2, hB⟩ := hrel
    clear H1 H2
    have H1 := Lib.hid a1
    have H2 := Lib.hid a2
    have HB := Lib.hid hB
    clear a1 a2 hB
    by_cases hlt : k < n
    · have f1 := H1.out k hlt
      have f2 := H2.out k hlt
      generalize (l.getD k 0) = x at f1 f2
      have t1 : ((x : Int) != x) = false := by simp
      go_wp2
      go_quiet (fail)
      go_wp2
      go_roundw
      case rel => exact ⟨⟨k + 1, by omega, by go_num⟩, H1.out, H2.out, below_drewN HB.out _⟩
      case measure => simp [intOf]; omega
    · obtain rfl : k = n := by omega
      go_wp2
      go_ret
      exact ⟨rfl, HB.out⟩
end Go.Proofs.YtcogdhdigjhjnaaDoor
