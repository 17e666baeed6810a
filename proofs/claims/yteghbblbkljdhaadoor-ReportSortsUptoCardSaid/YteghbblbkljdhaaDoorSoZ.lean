import Derived.Test.YteghbblbkljdhaaDoorSoY
namespace Go.Proofs.YteghbblbkljdhaaDoor
open Go.RowKit
theorem digits_no (u : Nat) : (10 : UInt8) ∉ Lib.decDigits u := by
  have hd : ∀ k : Nat, k < 10 → (10 : UInt8) ≠ UInt8.ofNat (48 + k) := by decide
  induction u using Nat.strongRecOn with
  | _ u ih =>
    rw [Lib.decDigits]
    split
    · rename_i h
      simp only [List.mem_singleton]
      exact hd u h
    · rename_i h
      simp only [List.mem_append, List.mem_singleton, not_or]
      exact ⟨ih _ (by omega), hd _ (Nat.mod_lt _ (by decide))⟩
theorem itoa_no (u : Nat) : (10 : UInt8) ∉ Lib.itoa (u : Int) := by
  unfold Lib.itoa
  rw [if_neg (by omega)]
  exact digits_no _
theorem words_no (c : Int) : (10 : UInt8) ∉ wordsL c := by
  unfold wordsL
  cases h : saysL.find? fun p => p.1 == c with
  | none => decide
  | some p =>
    have h2 : ∀ p ∈ saysL, (10 : UInt8) ∉ p.2 := by decide +kernel
    exact h2 p (List.mem_of_find?_eq_some h)
theorem line_no {f t : List UInt8} (a c : Int) (s : ByteArray) (hf : (10 : UInt8) ∉ f) (ht : (10 : UInt8) ∉ t) : (10 : UInt8) ∉ lineL f t a c s := by
  have hw : (10 : UInt8) ∉ whereL s a := by
    unfold whereL
    split
    · decide
    · simp only [List.mem_append, List.mem_cons, not_or]
      exact ⟨itoa_no _, by decide, itoa_no _⟩
  unfold lineL
  simp only [List.mem_append, List.mem_cons, not_or]
  refine ⟨hf, by decide, hw, by decide, by decide, words_no c, ?_⟩
  split
  · simp
  · simp only [List.mem_cons, not_or]
    exact ⟨by decide, by decide, ht⟩
/-- As many lines as Diags. -/
theorem lines_count (q : ByteArray → ByteArray) (f : Nat → DiagD) : ∀ m, (∀ k, k < m → (10 : UInt8) ∉ (f k).f.data.toList ∧ (10 : UInt8) ∉ (f k).t.data.toList) → (linesL q f m).count 10 = m
  | 0, _ => rfl
  | m + 1, h => by
    rw [linesL, List.count_append, List.count_append, lines_count q f m (fun k hk => h k (by omega)), List.count_eq_zero.2 (line_no _ _ _ (h m (by omega)).1 (h m (by omega)).2)]
    simp
/-- What all of f have, all of a rearrangement have. -/
theorem all_of_cnt2 {f fs : Nat → DiagD} {m : Nat} (p : DiagD → Bool) (hc : ∀ p, cnt p fs m = cnt p f m) (h : ∀ k, k < m → p (f k) = false) : ∀ k, k < m → p (fs k) = false := by
  intro k hk
  cases hp : p (fs k) with
  | false => rfl
  | true =>
    have h1 := hc p
    have h2 : cnt p f m ≤ 0 := cnt_le fun i _ hi => h i hi
    have h3 : ∀ j, k < j → 1 ≤ cnt p fs j := by
      intro j
      induction j with
      | zero => intro h; omega
      | succ j ih =>
        intro hj
        unfold cnt
        rcases Nat.lt_or_ge k j with h' | h'
        · have := ih h'; omega
        · obtain rfl : j = k := by omega
          rw [if_pos hp]
          omega
    have := h3 m hk
    omega
/-- How many of the first k bytes are new lines. -/
theorem count_take (l : List UInt8) (k : Nat) (h : k < l.length) : (l.take (k + 1)).count 10 = (l.take k).count 10 + (if l[k] = 10 then 1 else 0) := by
  rw [List.take_succ_eq_append_getElem h, List.count_append]
  simp [List.count_cons]
theorem nl_eq (s : ByteArray) (k : Nat) (h : k < s.size) : nl s k = decide (s.data.toList[k]'(by rw [Array.length_toList]; exact h) = 10) := by
  have hk : k < s.data.size := h
  unfold nl
  rw [getElem!_pos s.data k hk, Array.getElem_toList]
  generalize s.data[k] = x
  rw [Bool.eq_iff_iff]
  simp only [beq_iff_eq, decide_eq_true_eq]
  constructor
  · intro h
    apply UInt8.toNat_inj.1
    have : x.toNat = 10 := by omega
    rw [this]
    rfl
  · rintro rfl
    rfl
theorem nl_count (s : ByteArray) (k : Nat) (h : k < s.size) : (s.data.toList.take (k + 1)).count 10 = (s.data.toList.take k).count 10 + (if nl s k = true then 1 else 0) := by
  rw [count_take _ k (by rw [Array.length_toList]; exact h), nl_eq s k h]
  simp
theorem no_of_nl {s : ByteArray} (h : ∀ j, j < s.size → nl s j = false) : (10 : UInt8) ∉ s.data.toList := by
  intro hm
  obtain ⟨j, hj, e⟩ := List.getElem_of_mem hm
  have hj2 : j < s.size := by rw [Array.length_toList] at hj; exact hj
  have h1 := h j hj2
  rw [nl_eq s j hj2] at h1
  exact of_decide_eq_false h1 e
theorem no_parts {f t : ByteArray} (h : (10 : UInt8) ∉ (f ++ t).data.toList) : (10 : UInt8) ∉ f.data.toList ∧ (10 : UInt8) ∉ t.data.toList := by
  rw [ByteArray.data_append, Array.toList_append, List.mem_append, not_or] at h
  exact h
end Go.Proofs.YteghbblbkljdhaaDoor
