import Derived.Test.YteghbblbkljdhaaDoorSoM
import Derived.Laws.StructEq
import Derived.Deep.QuietTactic
import Derived.BigQuiet
namespace Go.Proofs.YteghbblbkljdhaaDoor
open Go.RowKit
theorem bdnD {B : Nat} {w w' : World} (h : Below B w w') (n : Nat) : Below B w (w'.drewN n) := h.trans ⟨rfl, rfl, rfl, Nat.le_refl _, fun _ _ => rfl⟩
theorem less_lt (a b : ByteArray) : Op.bytesLess a.toList b.toList = decide (a.data.toList < b.data.toList) := less_iff a b
theorem eqs_iff (a b : ByteArray) : (a.toList == b.toList) = decide (a = b) := by
  rw [ByteArray.toList_eq, ByteArray.toList_eq, Bool.eq_iff_iff]
  simp only [beq_iff_eq, decide_eq_true_eq]
  exact ⟨bytes_inj, fun h => by rw [h]⟩
set_option maxRecDepth 100000 in
set_option maxHeartbeats 4000000 in
/-- The reference's Less. -/
theorem less_ref (x y : DiagD) (b : Bool) (hb : b = true ↔ ltD x y) (w : World) :
    Calls Tryd.prog 33 #[x.val, y.val] w fun e w' => e = .returned (.bool b) ∧ Below w.heap.size w w' := by
  obtain ⟨xf, xa, xc, xt⟩ := x
  obtain ⟨yf, ya, yc, yt⟩ := y
  unfold DiagD.val
  unfold ltD at hb
  simp only at hb ⊢
  have hbl : Below w.heap.size w ((w.alloc (.cells #[.string xf, .int .i64 xa, .int .i64 xc, .string xt] 55)).alloc (.cells #[.string yf, .int .i64 ya, .int .i64 yc, .string yt] 55)) :=
    ((Below.refl _ _).alloc (Nat.le_refl _) _).alloc (by simp) _
  have HB := Lib.hid hbl
  have hT := Two.made w ⟨xf, xa, xc, xt⟩ ⟨yf, ya, yc, yt⟩ 55 55
  unfold Two at hT
  simp only at hT
  obtain ⟨⟨a0, a1, a2, a3⟩, b0, b1, b2, b3⟩ := hT
  have l0 := less_lt xf yf
  have l3 := less_lt xt yt
  clear hbl
  by_cases h1 : xf = yf
  case neg =>
    have e1 := eqs_iff xf yf
    rw [decide_eq_false h1] at e1
    have hbb : Op.bytesLess xf.toList yf.toList = b := by
      rw [l0, Bool.eq_iff_iff, hb]; simp [h1]
    clear l0 l3 hb h1
    subst hbb
    go_enter Tryd.func33, Tryd.ntmps33
    go_wp2_with fail
    go_ret
    exact ⟨rfl, HB.out⟩
  subst h1
  have l1 := List.lt_irrefl xf.data.toList
  by_cases h2 : xa = ya
  case neg =>
    have e2 : (xa != ya) = true := by simpa using h2
    have hbb : decide (xa < ya) = b := by
      rw [Bool.eq_iff_iff, hb]; simp [h2, l1]
    clear l0 l3 hb h2 l1
    subst hbb
    go_enter Tryd.func33, Tryd.ntmps33
    go_wp2_with fail
    go_ret
    exact ⟨rfl, HB.out⟩
  subst h2
  by_cases h3 : xc = yc
  case neg =>
    have e3 : (xc != yc) = true := by simpa using h3
    have hbb : decide (xc < yc) = b := by
      rw [Bool.eq_iff_iff, hb]; simp [h3, l1]
    clear l0 l3 hb h3 l1
    subst hbb
    go_enter Tryd.func33, Tryd.ntmps33
    go_wp2_with fail
    go_ret
    exact ⟨rfl, HB.out⟩
  subst h3
  have hbb : Op.bytesLess xt.toList yt.toList = b := by
    rw [l3, Bool.eq_iff_iff, hb]; simp [l1]
  clear l0 l3 hb l1
  subst hbb
  go_enter Tryd.func33, Tryd.ntmps33
  go_wp2_with fail
  go_ret
  exact ⟨rfl, HB.out⟩
set_option maxRecDepth 100000 in
set_option maxHeartbeats 2000000 in
/-- SameDiags, of two slices that read alike. -/
theorem same_diags {A A' : Option Addr} {n c c' : Nat} {f : Nat → DiagD} {w : World} (hn : n ≤ 1000000) (h : Src w A n f) (h' : Src w A' n f) :
    Calls Tryd.prog 28 #[.slice A n c, .slice A' n c'] w fun e w' => e = .returned (.bool true) ∧ Below w.heap.size w w' := by
  have H := Lib.hid h
  have H' := Lib.hid h'
  clear h h'
  go_enter Tryd.func28, Tryd.ntmps28
  go_wp2_with fail
  go_loopw [5] (fun v wr => ∃ j : Nat, j ≤ n ∧ v = .int .i64 j ∧ Below w.heap.size w wr) (fun v _ => n - (intOf v).toNat)
  case atStart => exact ⟨0, by omega, rfl, Below.refl _ _⟩
  case round =>
    obtain ⟨j, hj, rfl, hB⟩ := hrel
    have HB := Lib.hid hB
    by_cases hlt : j < n
    case neg =>
      obtain rfl : j = n := by omega
      have tj : decide ((j : Int) < (j : Int)) = false := by simp
      clear hB hlt
      go_wp2_with fail
      go_ret
      exact ⟨rfl, HB.out⟩
    obtain ⟨b, off, hA, c0, c1, c2, c3⟩ := (H.out.later hB).at hlt
    obtain ⟨b', off', hA', d0, d1, d2, d3⟩ := (H'.out.later hB).at hlt
    subst hA hA'
    generalize f j = d at c0 c1 c2 c3 d0 d1 d2 d3
    have tj : decide ((j : Int) < (n : Int)) = true := by simp; omega
    have tj2 : (j : Int) < (n : Int) := by omega
    clear hB
    go_wp2_with fail
    go_quiet (fail)
    go_wp2_with fail
    exact ⟨⟨j + 1, by omega, by go_num, bdnD HB.out _⟩, by simp [intOf]; omega⟩
end Go.Proofs.YteghbblbkljdhaaDoor
