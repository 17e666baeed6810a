import Derived.Test.YtlgklkokadbpeaaDoorStI
import Derived.Test.YtlgklkokadbpeaaDoorIter
namespace Go.Proofs.YtlgklkokadbpeaaDoor
open Go.RowKit Go.Maps Go.ChangeMaps Go.Sort
theorem infoF : (Tryd.prog.info? 45).map (fun i => (i.zero, i.size, i.bytes)) = some (some (.agg #[.string ⟨#[]⟩, .string ⟨#[]⟩, .int .i64 0]), 3, 40) := by kernel_rfl
def nm (f : Fi) : List UInt8 := f.n.data.toList
/-- Files rise by their names. -/
def Rise (L : List Fi) : Prop := (L.map nm).Pairwise (fun x y => x < y)
theorem keys_dat (L : List Fi) : strKeys (dat L) = L.map nm := by
  unfold dat strKeys
  simp only [List.map_map]
  rfl
theorem sorted_names (L : List Fi) (hR : Rise L) (ss : List (List UInt8)) (h : ss.Perm (strKeys (dat L))) : ss.mergeSort (fun x y => decide (x ≤ y)) = L.map nm := by
  rw [keys_dat] at h
  have h1 : (ss.mergeSort (fun x y => decide (x ≤ y))).Perm (L.map nm) := (List.mergeSort_perm _ _).trans h
  have h2 : (ss.mergeSort (fun x y => decide (x ≤ y))).Pairwise (fun x y => (decide (x ≤ y)) = true) := List.pairwise_mergeSort (fun a b c hab hbc => by simp only [decide_eq_true_eq] at *; exact List.le_trans hab hbc) (fun a b => by simp only [Bool.or_eq_true, decide_eq_true_eq]; exact List.le_total a b) ss
  have h3 : (L.map nm).Pairwise (fun x y => (decide (x ≤ y)) = true) := hR.imp (fun h => by simp only [decide_eq_true_eq]; exact List.le_of_lt h)
  exact h1.eq_of_pairwise (fun a b _ _ hab hba => by simp only [decide_eq_true_eq] at *; exact List.le_antisymm hab hba) h2 h3
end Go.Proofs.YtlgklkokadbpeaaDoor
