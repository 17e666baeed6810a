import Derived.Test.YtcogdhdigjhjnaaDoorW3
namespace Go.Proofs.YtcogdhdigjhjnaaDoor
open Go.RowKit
theorem c1 : checkR ⟨#[97, 255]⟩ = (1, 5) := by decide +kernel
theorem c2 : lineN ⟨#[97, 10, 98]⟩ 2 = 2 := by decide +kernel
theorem c3 : colN ⟨#[97, 10, 98]⟩ 2 = 1 := by decide +kernel
theorem awake_true (w : World) (hT : Lib.Utf8Tabs 0 1 w) :
    Calls Tryd.prog 9 #[] w fun e w' => e = .returned (.bool true) ∧ Below w.heap.size w w' := by
  have k1 := check_prog ⟨#[97, 255]⟩ w hT
  rw [c1] at k1
  have K1 := Lib.hid k1
  clear k1 hT
  go_enter Tryd.func9, Tryd.ntmps9
  go_wp2_with fail
  refine K1.out.mono ?_
  rintro e w1 ⟨rfl, hb⟩
  have k2 := where_prog ⟨#[97, 10, 98]⟩ 2 w1 (by decide) (by decide)
  rw [c2, c3] at k2
  have K2 := Lib.hid k2
  clear k2
  go_wp2_with fail
  refine K2.out.mono ?_
  rintro e w2 ⟨rfl, rfl⟩
  go_wp2_with fail
  go_ret
  exact ⟨rfl, hb⟩

def PairInt (a b : Nat) : Prop := a = b
theorem checks_walk (s : ByteArray) (w : World) (hT : Lib.Utf8Tabs 0 1 w) :
    Calls Tryd.prog 3 #[.string s] w fun e w' => e = .returned (.bool true) ∧ Below w.heap.size w w' := by
  have K0 := Lib.hid (awake_true w hT)
  have T := Lib.hid hT
  clear hT
  go_enter Tryd.func3, Tryd.ntmps3
  go_wp2_with fail
  refine K0.out.mono ?_
  rintro e w1 ⟨rfl, hb⟩
  have K1 := Lib.hid (check_prog s w1 (tabs_below T.out hb))
  go_wp2_with fail
  refine K1.out.mono ?_
  rintro e w2 ⟨rfl, hb2⟩
  have K2 := Lib.hid (check_ref s w2)
  generalize checkR s = r at *
  obtain ⟨x, y⟩ := r
  have t1 : ((x : Int) == x) = true := by simp
  have t2 : ((y : Int) == y) = true := by simp
  go_wp2_with fail
  refine K2.out.mono ?_
  rintro e w3 ⟨rfl, rfl⟩
  go_wp2_with fail
  go_ret
  exact ⟨rfl, below_step hb hb2⟩
end Go.Proofs.YtcogdhdigjhjnaaDoor
