import Derived.Test.YtlgklkokadbpeaaDoorSc4
import Derived.Lib.IndexBytes
import Derived.Lib.IndexMore
import Derived.Lib.IndexLaws
import Derived.Lib.ParseIntB
import Derived.Lib.Strings
namespace Go.Proofs.YtlgklkokadbpeaaDoor
open Go.RowKit

theorem B_ext (s : ByteArray) (i k : Nat) (_hi : i ≤ s.size) : B (s.extract i s.size) k = B s (i + k) := by
  have hs : s.size = s.data.size := rfl
  unfold B
  rw [ByteArray.data_extract]
  rcases Nat.lt_or_ge (i + k) s.size with h | h
  · rw [getElem!_pos _ k (by simp; omega), getElem!_pos s.data (i + k) (by omega)]
    simp
  · rw [getElem!_neg _ k (by simp; omega), getElem!_neg s.data (i + k) (by omega)]
theorem B_in {s : ByteArray} {k : Nat} (h : 0 < B s k) : k < s.size := by
  rcases Nat.lt_or_ge k s.size with h1 | h1
  · exact h1
  · rw [B_end s k h1] at h; omega
theorem list_at (s : ByteArray) (k : Nat) (h : k < s.size) : s.data.toList[k]? = some (s.data[k]!) := by
  have hs : s.size = s.data.size := rfl
  rw [getElem!_pos s.data k (by omega), List.getElem?_eq_getElem (by simp; omega)]
  simp
theorem drop_at (s : ByteArray) (k : Nat) (h : k < s.size) : s.data.toList.drop k = s.data[k]! :: s.data.toList.drop (k + 1) := by
  have hl : k < s.data.toList.length := by simp; exact h
  rw [List.drop_eq_getElem_cons hl]
  congr 1
  have := list_at s k h
  rw [List.getElem?_eq_getElem hl] at this
  exact Option.some.inj this
theorem byte_eq {s : ByteArray} {k : Nat} {c : UInt8} : s.data[k]! = c ↔ B s k = c.toNat := by
  constructor
  · intro h; unfold B; rw [h]
  · intro h; exact UInt8.toNat_inj.1 h
theorem list_ext {a b : ByteArray} (h : a.data.toList = b.data.toList) : a = b := by
  cases a; cases b
  congr
  exact Array.toList_inj.1 h
theorem rest_rest (s : ByteArray) (i j : Nat) (hi : i ≤ s.size) : (s.extract i s.size).extract j (s.size - i) = s.extract (i + j) s.size := by
  have hz : (s.extract i s.size).size = s.size - i := by rw [ByteArray.size_extract]; omega
  apply list_ext
  rw [← hz, Lib.extract_to_end, Lib.extract_to_end, Lib.extract_to_end, List.drop_drop]
/-- Do these bytes (none of them 0) stand at that place? -/
def occ (s : ByteArray) : Nat → List UInt8 → Bool
  | _, [] => true
  | i, c :: r => (B s i == c.toNat) && occ s (i + 1) r
theorem occ_pre (s : ByteArray) : ∀ (p : List UInt8) (i : Nat), (∀ c ∈ p, 0 < c.toNat) → p.isPrefixOf (s.data.toList.drop i) = occ s i p := by
  intro p
  induction p with
  | nil => intro i _; simp [occ]
  | cons c r ih =>
    intro i hc
    rcases Nat.lt_or_ge i s.size with h | h
    · rw [drop_at s i h]
      simp only [List.isPrefixOf, occ]
      rw [ih (i + 1) (fun x hx => hc x (List.mem_cons_of_mem _ hx))]
      congr 1
      rw [Bool.eq_iff_iff, beq_iff_eq, beq_iff_eq, ← byte_eq]
      exact eq_comm
    · have h1 : B s i = 0 := B_end s i h
      have h2 := hc c (List.mem_cons_self ..)
      rw [List.drop_of_length_le (by simp; exact h)]
      have h3 : (B s i == c.toNat) = false := by rw [h1]; simp; omega
      simp [List.isPrefixOf, occ, h3]
theorem occ_ext (s : ByteArray) (i : Nat) (hi : i ≤ s.size) : ∀ (p : List UInt8) (k : Nat), occ (s.extract i s.size) k p = occ s (i + k) p := by
  intro p
  induction p with
  | nil => intro k; rfl
  | cons c r ih => intro k; simp only [occ, B_ext s i k hi, ih (k + 1)]; rfl
theorem occ_two (s : ByteArray) (i : Nat) (a b : UInt8) : occ s i [a, b] = true ↔ B s i = a.toNat ∧ B s (i + 1) = b.toNat := by
  simp [occ]
/-- The end of the line in which a place lies. -/
def lineF (s : ByteArray) : Nat → Nat → Nat
  | 0, i => i
  | k + 1, i => if i < s.size ∧ B s i ≠ 10 then lineF s k (i + 1) else i
def lineE (s : ByteArray) (i : Nat) : Nat := lineF s (s.size - i) i
theorem line_go {s : ByteArray} {i : Nat} (h : i < s.size) (hb : B s i ≠ 10) : lineE s i = lineE s (i + 1) := by
  unfold lineE
  obtain ⟨k, hk⟩ : ∃ k, s.size - i = k + 1 := ⟨s.size - i - 1, by omega⟩
  rw [hk, lineF, if_pos ⟨h, hb⟩]
  congr 1; omega
theorem line_stop {s : ByteArray} {i : Nat} (h : ¬ (i < s.size ∧ B s i ≠ 10)) : lineE s i = i := by
  unfold lineE
  cases hk : s.size - i with
  | zero => rfl
  | succ k => rw [lineF, if_neg h]
theorem line_to (s : ByteArray) : ∀ d i j, j = i + d → j ≤ s.size → (∀ k, i ≤ k → k < j → B s k ≠ 10) → (j < s.size → B s j = 10) → lineE s i = j := by
  intro d
  induction d with
  | zero => intro i j h1 h2 _ h4; obtain rfl : j = i := by omega
            exact line_stop (fun h => h.2 (h4 h.1))
  | succ d ih =>
    intro i j h1 h2 h3 h4
    rw [line_go (by omega) (h3 i (by omega) (by omega))]
    exact ih (i + 1) j (by omega) h2 (fun k hk hk2 => h3 k (by omega) hk2) h4
theorem line_bd (s : ByteArray) : ∀ k i, s.size - i = k → i ≤ s.size → i ≤ lineE s i ∧ lineE s i ≤ s.size := by
  intro k
  induction k with
  | zero => intro i h h2; rw [line_stop (by omega)]; omega
  | succ k ih =>
    intro i h h2
    by_cases hc : i < s.size ∧ B s i ≠ 10
    · rw [line_go hc.1 hc.2]; have := ih (i + 1) (by omega) (by omega); omega
    · rw [line_stop hc]; omega
/-- Where the next end of a long remark stands, from a place on; the number of bytes: nowhere. -/
def closeF (s : ByteArray) : Nat → Nat → Nat
  | 0, _ => s.size
  | k + 1, i => if B s i = 42 ∧ B s (i + 1) = 47 then i else closeF s k (i + 1)
def closeE (s : ByteArray) (i : Nat) : Nat := closeF s (s.size - i) i
theorem close_here {s : ByteArray} {i : Nat} (h : B s i = 42 ∧ B s (i + 1) = 47) : closeE s i = i := by
  have hi : i < s.size := B_in (by omega)
  unfold closeE
  obtain ⟨k, hk⟩ : ∃ k, s.size - i = k + 1 := ⟨s.size - i - 1, by omega⟩
  rw [hk, closeF, if_pos h]
theorem close_go {s : ByteArray} {i : Nat} (hi : i < s.size) (h : ¬ (B s i = 42 ∧ B s (i + 1) = 47)) : closeE s i = closeE s (i + 1) := by
  unfold closeE
  obtain ⟨k, hk⟩ : ∃ k, s.size - i = k + 1 := ⟨s.size - i - 1, by omega⟩
  rw [hk, closeF, if_neg h]
  congr 1; omega
theorem close_end {s : ByteArray} {i : Nat} (hi : s.size ≤ i) : closeE s i = s.size := by
  unfold closeE
  rw [Nat.sub_eq_zero_of_le hi]
  rfl
theorem close_bd (s : ByteArray) : ∀ k i, s.size - i = k → i ≤ s.size → i ≤ closeE s i ∧ closeE s i ≤ s.size ∧ (closeE s i < s.size → B s (closeE s i) = 42 ∧ B s (closeE s i + 1) = 47) := by
  intro k
  induction k with
  | zero => intro i h h2; rw [close_end (by omega)]; omega
  | succ k ih =>
    intro i h h2
    by_cases hc : B s i = 42 ∧ B s (i + 1) = 47
    · rw [close_here hc]; exact ⟨by omega, by omega, fun _ => hc⟩
    · rw [close_go (by omega) hc]; have := ih (i + 1) (by omega) (by omega); omega
theorem close_to (s : ByteArray) : ∀ d i j, j = i + d → j ≤ s.size → (∀ k, i ≤ k → k < j → ¬ (B s k = 42 ∧ B s (k + 1) = 47)) → (j < s.size → B s j = 42 ∧ B s (j + 1) = 47) → closeE s i = j := by
  intro d
  induction d with
  | zero => intro i j h1 h2 _ h4
            obtain rfl : j = i := by omega
            by_cases h : j < s.size
            · exact close_here (h4 h)
            · rw [close_end (by omega)]; omega
  | succ d ih =>
    intro i j h1 h2 h3 h4
    rw [close_go (by omega) (h3 i (by omega) (by omega))]
    exact ih (i + 1) j (by omega) h2 (fun k hk hk2 => h3 k (by omega) hk2) h4
/-- what the library's two searches say, in these words -/
theorem find_line (s : ByteArray) (i : Nat) (hi : i ≤ s.size) : (Lib.indexByte (s.data.toList.drop i) 10 = -1 ∧ lineE s i = s.size) ∨ (Lib.indexByte (s.data.toList.drop i) 10 = (lineE s i : Int) - i ∧ lineE s i < s.size ∧ i ≤ lineE s i) := by
  have hge := Lib.indexByte_ge (s.data.toList.drop i) 10
  have hget : ∀ k, i + k < s.size → (s.data.toList.drop i)[k]? = some (s.data[i + k]!) := fun k hk => by rw [List.getElem?_drop]; exact list_at s (i + k) hk
  by_cases hm : Lib.indexByte (s.data.toList.drop i) 10 = -1
  · left
    refine ⟨hm, ?_⟩
    have hno := Lib.indexByte_none hm
    refine line_to s (s.size - i) i s.size (by omega) (Nat.le_refl _) (fun k h1 h2 hb => ?_) (fun h => absurd h (by omega))
    have := hno (k - i)
    rw [hget (k - i) (by omega)] at this
    have e : i + (k - i) = k := by omega
    rw [e] at this
    exact this (by congr 1; exact byte_eq.2 hb)
  · right
    obtain ⟨o, ho⟩ : ∃ o : Nat, Lib.indexByte (s.data.toList.drop i) 10 = o := ⟨(Lib.indexByte (s.data.toList.drop i) 10).toNat, by omega⟩
    obtain ⟨h1, h2⟩ := Lib.indexByte_some ho
    have hlt : i + o < s.size := by
      have := (List.getElem?_eq_some_iff.1 h1).1
      simp at this
      have hs : s.size = s.data.size := rfl
      omega
    rw [hget o hlt] at h1
    have hb : B s (i + o) = 10 := byte_eq.1 (Option.some.inj h1)
    have hl : lineE s i = i + o := line_to s o i (i + o) rfl (by omega) (fun k h3 h4 hb2 => by
      have := h2 (k - i) (by omega)
      rw [hget (k - i) (by omega)] at this
      have e : i + (k - i) = k := by omega
      rw [e] at this
      exact this (by congr 1; exact byte_eq.2 hb2)) (fun _ => hb)
    rw [ho, hl]
    exact ⟨by omega, hlt, by omega⟩
theorem occAt_eq (s : ByteArray) (i k : Nat) : Lib.occAt (s.data.toList.drop i) [42, 47] k = true ↔ B s (i + k) = 42 ∧ B s (i + k + 1) = 47 := by
  have h : Lib.occAt (s.data.toList.drop i) [42, 47] k = occ s (i + k) [42, 47] := by
    rw [← occ_pre s [42, 47] (i + k) (by decide), ← List.drop_drop]
    rfl
  rw [h]
  exact occ_two s (i + k) 42 47
theorem find_close (s : ByteArray) (i : Nat) (hi : i ≤ s.size) : (Lib.index (s.data.toList.drop i) [42, 47] = -1 ∧ closeE s i = s.size) ∨ (Lib.index (s.data.toList.drop i) [42, 47] = (closeE s i : Int) - i ∧ closeE s i < s.size ∧ i ≤ closeE s i) := by
  have hlen : (s.data.toList.drop i).length = s.size - i := by simp
  rcases Lib.index_spec (s.data.toList.drop i) [42, 47] with ⟨h1, h2⟩ | ⟨o, h1, h2, h3, h4⟩
  · left
    refine ⟨h1, close_to s (s.size - i) i s.size (by omega) (Nat.le_refl _) (fun k h3 h4 hb => ?_) (fun h => absurd h (by omega))⟩
    have := h2 (k - i) (by omega)
    have e : i + (k - i) = k := by omega
    have h5 := (occAt_eq s i (k - i)).2 (by rw [e]; exact hb)
    rw [h5] at this; cases this
  · right
    have hb := (occAt_eq s i o).1 h3
    have hlt : i + o < s.size := B_in (by omega)
    have hc : closeE s i = i + o := close_to s o i (i + o) rfl (by omega) (fun k h5 h6 hb2 => by
      have h7 := h4 (k - i) (by omega)
      have e : i + (k - i) = k := by omega
      have h8 := (occAt_eq s i (k - i)).2 (by rw [e]; exact hb2)
      rw [h8] at h7; cases h7) (fun _ => hb)
    rw [h1, hc]
    exact ⟨by omega, hlt, by omega⟩
end Go.Proofs.YtlgklkokadbpeaaDoor
