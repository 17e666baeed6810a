import Derived.Test.YtjcaeoacgoklmaaDoorGrX
namespace Go.Proofs.YtjcaeoacgoklmaaDoor
open Go.RowKit
/-! A chain of rules: each joins the one ahead of it with itself. -/
def plusB : ByteArray := ⟨#[43]⟩
def nmB (i : Nat) : ByteArray := ⟨#[114, UInt8.ofNat (97 + i)]⟩
def lastN : Nat → ByteArray
  | 0 => ⟨#[120]⟩
  | i + 1 => nmB i
theorem nm_inj {i j : Nat} (hi : i < 24) (hj : j < 24) (h : nmB i = nmB j) : i = j := by
  have h1 : UInt8.ofNat (97 + i) = UInt8.ofNat (97 + j) := by
    have := congrArg ByteArray.data h
    simp only [nmB] at this
    injection this with this
    injection this with _ this
    injection this
  have h2 := congrArg UInt8.toNat h1
  simp only [UInt8.toNat_ofNat'] at h2
  omega
theorem last_inj {i j : Nat} (hi : i ≤ 24) (hj : j ≤ 24) (h : lastN i = lastN j) : i = j := by
  match i, j, h with
  | 0, 0, _ => rfl
  | 0, j + 1, h => exact absurd (congrArg ByteArray.size h) (by simp [lastN, nmB, ByteArray.size])
  | i + 1, 0, h => exact absurd (congrArg ByteArray.size h) (by simp [lastN, nmB, ByteArray.size])
  | i + 1, j + 1, h => rw [nm_inj (by omega) (by omega) h]
def ruleL (i : Nat) : Rule := ⟨nmB i, 1, [lastN i, lastN i], plusB⟩
def rulesL : Nat → List Rule
  | 0 => []
  | k + 1 => rulesL k ++ [ruleL k]
theorem rulesL_len : ∀ k, (rulesL k).length = k
  | 0 => rfl
  | k + 1 => by simp [rulesL, rulesL_len k]
theorem rulesL_at : ∀ {k i : Nat}, i < k → (rulesL k)[i]? = some (ruleL i)
  | 0, i, h => by omega
  | k + 1, i, h => by
    unfold rulesL
    rcases Nat.lt_or_ge i k with h1 | h1
    · rw [List.getElem?_append_left (by rw [rulesL_len]; exact h1)]
      exact rulesL_at h1
    · obtain rfl : i = k := by omega
      rw [List.getElem?_append_right (by rw [rulesL_len]; exact Nat.le_refl _), rulesL_len, Nat.sub_self]
      rfl
theorem rulesL_mem {k : Nat} {r : Rule} (h : r ∈ rulesL k) : ∃ i, i < k ∧ r = ruleL i := by
  obtain ⟨i, hi⟩ := List.getElem?_of_mem h
  have hl := (List.getElem?_eq_some_iff.1 hi).1
  rw [rulesL_len] at hl
  exact ⟨i, hl, by rw [rulesL_at hl] at hi; injection hi with hi; exact hi.symm⟩
/-- What the names of a chain come to. -/
def valN (t : ByteArray) : Nat → Out
  | 0 => ⟨t, 0⟩
  | i + 1 => if (valN t i).e ≠ 0 ∨ 262144 < 2 * (valN t i).t.size + 1 then ⟨noneB, 1⟩ else ⟨⟨((valN t i).t.data.toList ++ (valN t i).t.data.toList ++ plusB.data.toList).toArray⟩, 0⟩
theorem valN_e (t : ByteArray) (i : Nat) : (valN t i).e = 0 ∨ valN t i = ⟨noneB, 1⟩ := by
  cases i with
  | zero => exact .inl rfl
  | succ i =>
    unfold valN
    split
    · exact .inr rfl
    · exact .inl rfl
theorem valN_size {t : ByteArray} (ht : t.size ≤ 262144) (i : Nat) : (valN t i).t.size ≤ 262144 := by
  cases i with
  | zero => exact ht
  | succ i =>
    unfold valN
    split
    · show (0 : Nat) ≤ _; decide
    · rename_i h
      simp only [not_or, Nat.not_lt] at h
      have e : (valN t i).t.data.toList.length = (valN t i).t.size := by rw [Array.length_toList]; rfl
      show (((valN t i).t.data.toList ++ (valN t i).t.data.toList ++ plusB.data.toList).toArray).size ≤ _
      simp only [List.size_toArray, List.length_append, e]
      have : plusB.data.toList.length = 1 := rfl
      omega
theorem names_rules {k : Nat} (hk : k ≤ 24) : Names (rulesL k) := by
  unfold Names
  rw [List.nodup_iff_pairwise_ne, List.pairwise_iff_getElem]
  intro i j hi hj hij
  simp only [List.length_map, rulesL_len] at hi hj
  have h1 := rulesL_at hi
  have h2 := rulesL_at hj
  rw [List.getElem_map, List.getElem_map]
  have e1 : (rulesL k)[i]'(by rw [rulesL_len]; exact hi) = ruleL i := by
    have := List.getElem?_eq_getElem (l := rulesL k) (i := i) (by rw [rulesL_len]; exact hi)
    rw [h1] at this; injection this with this; exact this.symm
  have e2 : (rulesL k)[j]'(by rw [rulesL_len]; exact hj) = ruleL j := by
    have := List.getElem?_eq_getElem (l := rulesL k) (i := j) (by rw [rulesL_len]; exact hj)
    rw [h2] at this; injection this with this; exact this.symm
  rw [e1, e2]
  intro h
  have := nm_inj (by omega) (by omega) h
  omega
theorem rules_good {k : Nat} (hk : k ≤ 24) : RGood (rulesL k) := ⟨fun r hr => by
  obtain ⟨i, _, rfl⟩ := rulesL_mem hr
  exact .inl rfl, names_rules hk⟩
theorem nm_size (i : Nat) : (nmB i).size = 2 := rfl
theorem last_size (i : Nat) : (lastN i).size ≤ 2 := by
  cases i with
  | zero => show (1 : Nat) ≤ 2; decide
  | succ i => show (2 : Nat) ≤ 2; decide
theorem rules_size {k : Nat} (hk : k ≤ 24) : RSize (rulesL k) := ⟨by rw [rulesL_len]; omega, fun r hr => by
  obtain ⟨i, _, rfl⟩ := rulesL_mem hr
  refine ⟨by show (2 : Nat) ≤ _; decide, by show (1 : Nat) ≤ _; decide, by show (2 : Nat) ≤ _; decide, fun a ha => ?_⟩
  have : a = lastN i := by simpa [ruleL] using ha
  subst this
  have := last_size i
  omega⟩
end Go.Proofs.YtjcaeoacgoklmaaDoor
