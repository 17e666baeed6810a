import Derived.Test.YtlgklkokadbpeaaDoorStO
import Derived.Sort.Walk0
namespace Go.Proofs.YtlgklkokadbpeaaDoor
open Go.RowKit Go.Maps Go.ChangeMaps Go.Sort
theorem before_lt : ∀ a b : List UInt8, bytesBefore a b = decide (a < b)
  | [], [] => by simp [bytesBefore]
  | [], _ :: _ => by simp [bytesBefore]
  | _ :: _, [] => by simp [bytesBefore]
  | a :: r, b :: s => by
    unfold bytesBefore
    rw [before_lt r s]
    rw [Bool.eq_iff_iff]
    simp [List.cons_lt_cons_iff]
theorem lk_before (a b : ByteArray) : (lk a).before (lk b) = decide (a.data.toList < b.data.toList) := before_lt _ _
theorem lt_of_not {a b : List UInt8} (h : ¬ a < b) (hne : a ≠ b) : b < a := by
  rcases Classical.em (b < a) with h' | h'
  · exact h'
  · exact absurd (List.le_antisymm (List.not_lt.1 h') (List.not_lt.1 h)) hne
theorem eqB_iff (f : Fi) (s : ByteArray) : eqB f s = true ↔ nm f = s.data.toList := by
  unfold eqB nm
  rw [beq_iff_eq, ByteArray.toList_eq, ByteArray.toList_eq]
theorem gtB_iff (f : Fi) (s : ByteArray) : gtB f s = true ↔ s.data.toList < nm f := by
  unfold gtB nm
  rw [bytesLess_eq, ByteArray.toList_eq, ByteArray.toList_eq]
  simp only [Bool.not_eq_true', Bool.or_eq_false_iff, decide_eq_false_iff_not, beq_eq_false_iff_ne, ne_eq]
  constructor
  · rintro ⟨h1, h2⟩; exact lt_of_not h1 h2
  · intro h; exact ⟨fun h' => List.lt_irrefl _ (List.lt_trans h h'), fun e => by rw [e] at h; exact List.lt_irrefl _ h⟩
theorem find_none_of_lt {L : List Fi} {s : ByteArray} (h : ∀ f ∈ L, s.data.toList < nm f) : find L s = none := by
  unfold find
  rw [List.find?_eq_none]
  intro f hf e
  have h1 : nm f = s.data.toList := by simpa [lk, Lit.sameKey, nm] using e
  have h2 := h f hf
  rw [h1] at h2
  exact List.lt_irrefl _ h2
theorem ins_front {L : List Fi} {f : Fi} (h : ∀ g ∈ L, nm f < nm g) : insF f L = f :: L := by
  cases L with
  | nil => rfl
  | cons g r =>
    unfold insF
    rw [if_pos (by rw [lk_before]; exact decide_eq_true (h g (List.mem_cons_self ..)))]
/-- What the reference's look for a name finds, in files that rise. -/
theorem fp_spec : ∀ (L : List Fi) (s : ByteArray) (i : Nat), Rise L →
    (∃ f j, find L s = some f ∧ L[j]? = some f ∧ fp L s i = (i + j, true)) ∨
    (find L s = none ∧ ∃ j, j ≤ L.length ∧ fp L s i = (i + j, false) ∧ ∀ f : Fi, f.n = s → insF f L = L.take j ++ f :: L.drop j)
  | [], s, i, _ => .inr ⟨rfl, 0, by simp, rfl, fun f _ => rfl⟩
  | g :: L, s, i, hR => by
    unfold Rise at hR
    rw [List.map_cons, List.pairwise_cons] at hR
    obtain ⟨hg, hL⟩ := hR
    have hgt : ∀ f ∈ L, nm g < nm f := fun f hf => hg _ (List.mem_map.2 ⟨f, hf, rfl⟩)
    by_cases he : nm g = s.data.toList
    · left
      refine ⟨g, 0, ?_, rfl, ?_⟩
      · unfold find; rw [List.find?_cons]; simp [lk, Lit.sameKey, ← he, nm]
      · rw [fp, if_pos ((eqB_iff g s).2 he)]; rfl
    · have hf0 : find (g :: L) s = find L s := by
        unfold find; rw [List.find?_cons]
        rw [show (lk g.n).sameKey (lk s) = false by unfold lk Lit.sameKey; simpa [nm] using he]
      by_cases hgs : s.data.toList < nm g
      · right
        refine ⟨find_none_of_lt ?_, 0, by simp, ?_, ?_⟩
        · intro f hf
          rcases List.mem_cons.1 hf with rfl | hf
          · exact hgs
          · exact List.lt_trans hgs (hgt f hf)
        · rw [fp, if_neg (fun e => he ((eqB_iff g s).1 e)), if_pos ((gtB_iff g s).2 hgs)]; rfl
        · intro f hfn
          refine ins_front ?_
          intro x hx
          rw [show nm f = s.data.toList by unfold nm; rw [hfn]]
          rcases List.mem_cons.1 hx with rfl | hx
          · exact hgs
          · exact List.lt_trans hgs (hgt x hx)
      · have hfp : fp (g :: L) s i = fp L s (i + 1) := by
          rw [fp, if_neg (fun e => he ((eqB_iff g s).1 e)), if_neg (fun e => hgs ((gtB_iff g s).1 e))]
        rcases fp_spec L s (i + 1) hL with ⟨f, j, h1, h2, h3⟩ | ⟨h1, j, h2, h3, h4⟩
        · exact .inl ⟨f, j + 1, hf0.trans h1, by simpa using h2, by rw [hfp, h3, Nat.add_assoc, Nat.add_comm 1 j]⟩
        · refine .inr ⟨hf0.trans h1, j + 1, by simpa using h2, by rw [hfp, h3, Nat.add_assoc, Nat.add_comm 1 j], fun f hfn => ?_⟩
          have hnb : (lk f.n).before (lk g.n) = false := by
            rw [lk_before, hfn]
            exact decide_eq_false hgs
          rw [insF, if_neg (by rw [hnb]; simp), h4 f hfn]
          rfl
end Go.Proofs.YtlgklkokadbpeaaDoor
