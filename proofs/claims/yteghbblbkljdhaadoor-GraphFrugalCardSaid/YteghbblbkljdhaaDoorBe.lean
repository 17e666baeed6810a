import Derived.Test.YteghbblbkljdhaaDoorWr
import Derived.Sort.Grow
namespace Go.Proofs.YteghbblbkljdhaaDoor
open Go.RowKit

theorem drewN_eq (w : World) (k : Nat) : (w.drewN k).heap = w.heap ∧ (w.drewN k).os = w.os ∧ (w.drewN k).tape = w.tape ∧ (w.drewN k).output = w.output := by
  induction k generalizing w with
  | zero => exact ⟨rfl, rfl, rfl, rfl⟩
  | succ k ih => exact ⟨rfl, rfl, rfl, rfl⟩
theorem grow_below (w : World) (k : Nat) (os : Array Obj) : Below w.heap.size w (Go.Sort.grow (w.drewN k) os) := by
  have e := drewN_eq w k
  exact ⟨e.2.1, e.2.2.1, e.2.2.2, by simp [Go.Sort.size_grow], fun i hi => by rw [Go.Sort.heap_grow_old _ _ (by rw [e.1]; exact hi), e.1]⟩
theorem tab_below {w w' : World} {n : String} {k : IntKind} {zs : List Int} (h : Lib.TabIs Tryd.prog w n k zs) (hb : Below w.heap.size w w') : Lib.TabIs Tryd.prog w' n k zs := by
  unfold Lib.TabIs World.var? at h ⊢
  cases hg : Tryd.prog.globalNamed n with
  | none => rw [hg] at h; cases h
  | some g =>
    rw [hg] at h
    simp only [Option.bind_some] at h ⊢
    have hlt : g < w.heap.size := by
      rcases Nat.lt_or_ge g w.heap.size with h2 | h2
      · exact h2
      · rw [Array.getElem?_eq_none h2] at h; cases h
    rw [hb.block g hlt]; exact h
theorem said_below {w w' : World} (h : HasSaid w) (hb : Below w.heap.size w w') : HasSaid w' := fun k hk => cell_later hb (h k hk)
theorem below_drewN {B : Nat} {a w : World} (h : Below B a w) (k : Nat) : Below B a (w.drewN k) := by
  have e := drewN_eq w k
  exact ⟨e.2.1.trans h.os, e.2.2.1.trans h.tape, e.2.2.2.trans h.output, by rw [e.1]; exact h.size, fun i hi => by rw [e.1]; exact h.block i hi⟩
theorem words_quiet (code : Int) (w w1 : World) (n : Nat) (hS : HasSaid w) (hb : Below w.heap.size w w1) :
    Calls Tryd.prog 26 #[.int .i64 code] (w1.drewN n) fun e w' => e = .returned (.string ⟨(wordsL code).toArray⟩) ∧ w' = w1.drewN n :=
  (words_prog code _ (said_below hS (below_drewN hb n))).mono fun _ _ h => ⟨h.1, h.2.symm⟩
theorem wordsr_quiet (code : Int) (w : World) :
    Calls Tryd.prog 27 #[.int .i64 code] w fun e w' => e = .returned (.string ⟨(wordsL code).toArray⟩) ∧ w' = w :=
  (words_ref code _).mono fun _ _ h => ⟨h.1, h.2.symm⟩
def Tab10 (w : World) : Prop := Lib.TabIs Tryd.prog w "internal/strconv.uint64pow10" .u64 Lib.pow10Tab
theorem itoa_step (n : Nat) (hn : n ≤ 10000000000000) (w w1 : World) (hT : Tab10 w) (hb : Below w.heap.size w w1) :
    Calls Tryd.prog 42 #[.int .i64 n] w1 fun e w' => e = .returned (.string ⟨(Lib.itoa (n : Int)).toArray⟩) ∧ Below w1.heap.size w1 w' :=
  (Tryd.strconv_Itoa n (by omega) (by omega) w1 (tab_below hT hb)).mono fun e w' ⟨he, k, os, hw⟩ => ⟨he, by rw [hw]; exact grow_below w1 k os⟩
theorem below_step {w a b : World} (h : Below w.heap.size w a) (h' : Below a.heap.size a b) : Below w.heap.size w b := h.trans (h'.mono h.size)
theorem diag_cells (w w3 : World) (v0 v1 v2 v3 : Value) (T : TypeId) (hb : Below (w.alloc (.cells #[v0, v1, v2, v3] T)).heap.size (w.alloc (.cells #[v0, v1, v2, v3] T)) w3) :
    w3.cell? ⟨w.heap.size, 0, none⟩ = some v0 ∧ w3.cell? ⟨w.heap.size, 1, none⟩ = some v1 ∧ w3.cell? ⟨w.heap.size, 2, none⟩ = some v2 ∧ w3.cell? ⟨w.heap.size, 3, none⟩ = some v3 :=
  ⟨cell_later hb (by rw [World.cell?_alloc_at _ _ _ _ rfl]; rfl), cell_later hb (by rw [World.cell?_alloc_at _ _ _ _ rfl]; rfl), cell_later hb (by rw [World.cell?_alloc_at _ _ _ _ rfl]; rfl), cell_later hb (by rw [World.cell?_alloc_at _ _ _ _ rfl]; rfl)⟩
end Go.Proofs.YteghbblbkljdhaaDoor
