import Derived.Test.YtnnjbgjhhbmfgaaGreatDoorTyU
import Derived.Test.YtnnjbgjhhbmfgaaGreatDoorTyL
namespace Go.Proofs.YtnnjbgjhhbmfgaaGreatDoor
open Go.Shelf Go.RowKit Go.Lib Go.Sort
/-- Types with the cells they lie as. -/
def TyC (K : Nat → Prop) (w0 : World) : Type := {p : Ty × List Value // RepT K w0 p.1 p.2}
instance (K : Nat → Prop) (w0 : World) : Inhabited (TyC K w0) := ⟨⟨(tyK 1, _), rep_never K w0⟩⟩
def encC {K : Nat → Prop} {w0 : World} (x : TyC K w0) : List Value := x.1.2
def cfC {K : Nat → Prop} {w0 : World} (x y : TyC K w0) : Int := ordT x.1.1 y.1.1
theorem encC_len {K : Nat → Prop} {w0 : World} (x : TyC K w0) : (encC x).length = 6 := x.2.six
theorem encC_one {K : Nat → Prop} {w0 : World} (x : TyC K w0) : ∀ v ∈ encC x, v.oneCell' = true := by
  obtain ⟨⟨⟨k, s, n, ps, fs, vs⟩, cs⟩, h⟩ := x
  obtain ⟨A, c, A', c', A'', c'', rfl, _⟩ := h.inv
  intro v hv
  simp only [encC, cells6T, List.mem_cons, List.not_mem_nil, or_false] at hv
  rcases hv with rfl | rfl | rfl | rfl | rfl | rfl <;> rfl
theorem ltC_t {K : Nat → Prop} {w0 : World} {x y : TyC K w0} : ltOf cfC x y = true ↔ ordT x.1.1 y.1.1 < 0 := by
  unfold ltOf
  exact decide_eq_true_iff
theorem ltC_f {K : Nat → Prop} {w0 : World} {x y : TyC K w0} : ltOf cfC x y = false ↔ 0 ≤ ordT x.1.1 y.1.1 := by
  unfold ltOf
  exact decide_eq_false_iff_not.trans Int.not_lt
theorem lt_trans {a b c : Ty} (h1 : ordT a b < 0) (h2 : ordT b c < 0) : ordT a c < 0 := by
  rcases ordT_bd a b with e | e | e
  · rcases ordT_bd b c with e' | e' | e'
    · rw [ordT_trans e e']; decide
    · omega
    · omega
  · omega
  · omega
theorem swoC (K : Nat → Prop) (w0 : World) : SWO (ltOf (cfC (K := K) (w0 := w0))) where
  irrefl x := ltC_f.2 (by rw [ordT_zero.2 rfl]; decide)
  trans x y z h1 h2 := ltC_t.2 (lt_trans (ltC_t.1 h1) (ltC_t.1 h2))
  ntrans x y z h1 h2 := ltC_f.2 (no_down (ltC_f.1 h1) (ltC_f.1 h2))
theorem cmpC {K : Nat → Prop} {w0 w : World} {g size : Nat} (hb : Below w0.heap.size w0 w) (hg : w0.heap.size ≤ g) : CmpLays Tryz.prog 6 #[] (encC (K := K) (w0 := w0)) 6 cfC g 0 size w := by
  intro m os dk _ x y
  have hk : ∀ b o v, K b → w0.cell? ⟨b, o, none⟩ = some v → (sortWorldK (encC (K := K) (w0 := w0)) 6 w g 0 m dk os).cell? ⟨b, o, none⟩ = some v := fun b o v _ hc => by
    have hlt : b < w0.heap.size := World.block_lt_of_cell? _ _ hc
    rw [cell?_sortWorldK_other _ _ _ _ _ _ _ _ ⟨b, o, none⟩ (by show b ≠ g; omega) (Nat.lt_of_lt_of_le hlt hb.size)]
    exact cell_stays hb hc
  exact Order_any (RepT.keep (fun _ h => h) hk _ _ x.2) (RepT.keep (fun _ h => h) hk _ _ y.2)
theorem heap_sort {α : Type} [Inhabited α] {enc : α → List Value} {w : World} {g m : Nat} {dk : Array α} {os : Array Obj} : (sortWorldK enc 6 w g 0 m dk os).heap = (w.heap.modify g (onCells (putCells id 0 (flatK enc 6 dk)))) ++ os := rfl
theorem blk_sort {α : Type} [Inhabited α] {enc : α → List Value} {w : World} {g m : Nat} {dk : Array α} {os : Array Obj} {cur : Array Value} {T : TypeId} (hb : w.heap[g]? = some (.cells cur T (0, 0))) : ∃ cur', (sortWorldK enc 6 w g 0 m dk os).heap[g]? = some (.cells cur' T (0, 0)) ∧ cur'.size = cur.size := by
  have hlt := (Array.getElem?_eq_some_iff.1 hb).1
  refine ⟨putCells id 0 (flatK enc 6 dk) cur, ?_, by simp [putCells]⟩
  rw [heap_sort, Array.getElem?_append_left (by simpa using hlt), Array.getElem?_modify, if_pos rfl, hb]
  rfl
theorem sort_below {α : Type} [Inhabited α] {enc : α → List Value} {w0 w : World} {g m : Nat} {dk : Array α} {os : Array Obj} (hb : RowKit.Below w0.heap.size w0 w) (hg : w0.heap.size ≤ g) : RowKit.Below w0.heap.size w0 (sortWorldK enc 6 w g 0 m dk os) := by
  have h1 := hb.size
  refine ⟨hb.os, hb.tape, hb.output, ?_, fun k hk => ?_⟩
  · rw [heap_sort]
    simp
    omega
  · rw [heap_sort, Array.getElem?_append_left (by simp; omega), Array.getElem?_modify, if_neg (by omega)]
    exact hb.block k hk
end Go.Proofs.YtnnjbgjhhbmfgaaGreatDoor
