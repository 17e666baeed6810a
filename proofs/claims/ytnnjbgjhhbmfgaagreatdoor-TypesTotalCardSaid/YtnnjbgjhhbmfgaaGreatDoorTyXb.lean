import Derived.Test.YtnnjbgjhhbmfgaaGreatDoorTyXa
import Derived.Shelf.SlSortCmp.NoneTotal
namespace Go.Proofs.YtnnjbgjhhbmfgaaGreatDoor
open Go.RowKit
theorem sort_nil : SortN := by
  intro w
  have h := AnyF.slices_SortFunc_none (P := Tryz.prog) (ρ := sortTy_ren) { sortTy with } none 0 (.func (.func 6) #[] #[]) w
  refine h.mono ?_
  rintro e w' ⟨rfl, rfl⟩
  exact ⟨rfl, Below.refl _ _⟩
end Go.Proofs.YtnnjbgjhhbmfgaaGreatDoor
