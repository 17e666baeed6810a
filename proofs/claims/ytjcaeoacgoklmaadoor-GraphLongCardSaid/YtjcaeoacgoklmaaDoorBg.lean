import Derived.Test.YtjcaeoacgoklmaaDoorShelf
import Derived.Sort.Grow
import Derived.WalkKit
import Derived.Below
import Derived.Lib.Hide
import Derived.Outline
namespace Go.Proofs.YtjcaeoacgoklmaaDoor
open Go.RowKit
theorem drewN_eq (w : World) (k : Nat) : (w.drewN k).heap = w.heap ∧ (w.drewN k).os = w.os ∧ (w.drewN k).tape = w.tape ∧ (w.drewN k).output = w.output := by
  induction k generalizing w with
  | zero => exact ⟨rfl, rfl, rfl, rfl⟩
  | succ k ih => exact ⟨rfl, rfl, rfl, rfl⟩
theorem grow_below (w : World) (k : Nat) (os : Array Obj) : Below w.heap.size w (Go.Sort.grow (w.drewN k) os) := by
  have e := drewN_eq w k
  exact ⟨e.2.1, e.2.2.1, e.2.2.2, by simp [Go.Sort.size_grow], fun i hi => by rw [Go.Sort.heap_grow_old _ _ (by rw [e.1]; exact hi), e.1]⟩
theorem tab_below {w w' : World} {n : String} {k : IntKind} {zs : List Int} (h : Lib.TabIs Tryd.prog w n k zs) (hb : Below w.heap.size w w') : Lib.TabIs Tryd.prog w' n k zs := by
  unfold Lib.TabIs World.var? at h ⊢
  cases hg : Tryd.prog.globalNamed n with
  | none => rw [hg] at h; cases h
  | some g =>
    rw [hg] at h
    simp only [Option.bind_some] at h ⊢
    have hlt : g < w.heap.size := by
      rcases Nat.lt_or_ge g w.heap.size with h2 | h2
      · exact h2
      · rw [Array.getElem?_eq_none h2] at h; cases h
    rw [hb.block g hlt]; exact h
theorem below_drewN {B : Nat} {a w : World} (h : Below B a w) (k : Nat) : Below B a (w.drewN k) := by
  have e := drewN_eq w k
  exact ⟨e.2.1.trans h.os, e.2.2.1.trans h.tape, e.2.2.2.trans h.output, by rw [e.1]; exact h.size, fun i hi => by rw [e.1]; exact h.block i hi⟩
def Tab10 (w : World) : Prop := Lib.TabIs Tryd.prog w "internal/strconv.uint64pow10" .u64 Lib.pow10Tab
theorem itoa_step (n : Nat) (hn : n ≤ 10000000000000) (w w1 : World) (hT : Tab10 w) (hb : Below w.heap.size w w1) :
    Calls Tryd.prog 27 #[.int .i64 n] w1 fun e w' => e = .returned (.string ⟨(Lib.itoa (n : Int)).toArray⟩) ∧ Below w1.heap.size w1 w' :=
  (Tryd.strconv_Itoa n (by omega) (by omega) w1 (tab_below hT hb)).mono fun e w' ⟨he, k, os, hw⟩ => ⟨he, by rw [hw]; exact grow_below w1 k os⟩
theorem below_step {w a b : World} (h : Below w.heap.size w a) (h' : Below a.heap.size a b) : Below w.heap.size w b := h.trans (h'.mono h.size)
end Go.Proofs.YtjcaeoacgoklmaaDoor
