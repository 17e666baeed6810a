/- Plain facts on lines and columns of a list of bytes: no program is named here. -/
import Derived.Lib.LastIndexByte
import Derived.Lib.Bytealg
namespace Go.Proofs.YtlgklkokadbpeaaDoor

def nl (s : ByteArray) (k : Nat) : Bool := ((s.data[k]!).toNat : Int) == 10
def lineN (s : ByteArray) : Nat → Nat
  | 0 => 1
  | k + 1 => if nl s k = true then lineN s k + 1 else lineN s k
def colN (s : ByteArray) : Nat → Nat
  | 0 => 1
  | k + 1 => if nl s k = true then 1 else colN s k + 1
def startsN (s : ByteArray) : Nat → List Nat
  | 0 => [0]
  | k + 1 => if nl s k = true then startsN s k ++ [k + 1] else startsN s k

theorem bget (s : ByteArray) (k : Nat) (h : k < s.size) : s[k] = s.data[k]! := by
  have h' : k < s.data.size := h
  show s.data[k] = s.data[k]!
  rw [getElem!_pos s.data k h']
theorem nl_at (s : ByteArray) (k : Nat) (h : k < s.size) : (((s[k]).toNat : Int) == 10) = nl s k := by
  rw [bget s k h]; rfl
theorem lineN_hit {s : ByteArray} {k : Nat} (h : nl s k = true) : lineN s (k + 1) = lineN s k + 1 := by rw [lineN, if_pos h]
theorem lineN_miss {s : ByteArray} {k : Nat} (h : nl s k = false) : lineN s (k + 1) = lineN s k := by rw [lineN, h]; simp
theorem colN_hit {s : ByteArray} {k : Nat} (h : nl s k = true) : colN s (k + 1) = 1 := by rw [colN, if_pos h]
theorem colN_miss {s : ByteArray} {k : Nat} (h : nl s k = false) : colN s (k + 1) = colN s k + 1 := by rw [colN, h]; simp
theorem starts_hit {s : ByteArray} {k : Nat} (h : nl s k = true) : startsN s (k + 1) = startsN s k ++ [k + 1] := by rw [startsN, if_pos h]
theorem starts_miss {s : ByteArray} {k : Nat} (h : nl s k = false) : startsN s (k + 1) = startsN s k := by rw [startsN, h]; simp
theorem lineN_bd (s : ByteArray) (k : Nat) : 1 ≤ lineN s k ∧ lineN s k ≤ k + 1 := by
  induction k with
  | zero => simp [lineN]
  | succ k ih => unfold lineN; split <;> omega
theorem colN_bd (s : ByteArray) (k : Nat) : 1 ≤ colN s k ∧ colN s k ≤ k + 1 := by
  induction k with
  | zero => simp [colN]
  | succ k ih => unfold colN; split <;> omega
theorem colN_last (s : ByteArray) (k : Nat) : (colN s k : Int) = k - Lib.lastIdx s 10 k := by
  induction k with
  | zero => simp [colN, Lib.lastIdx]
  | succ k ih =>
    unfold colN Lib.lastIdx
    by_cases h : nl s k = true
    · have h2 : ((s.data[k]!).toNat : Int) = 10 := by simpa [nl] using h
      rw [if_pos h, if_pos h2]; omega
    · have h2 : ¬ ((s.data[k]!).toNat : Int) = 10 := by simpa [nl] using h
      rw [if_neg h, if_neg h2]; omega
theorem lastIdx_ext (s : ByteArray) (n : Nat) (hn : n ≤ s.size) : ∀ k, k ≤ n → Lib.lastIdx (s.extract 0 n) 10 k = Lib.lastIdx s 10 k := by
  intro k
  induction k with
  | zero => intro _; rfl
  | succ k ih =>
    intro hk
    have e : (s.extract 0 n).data[k]! = s.data[k]! := by
      have hs : n ≤ s.data.size := hn
      rw [ByteArray.data_extract]
      rw [getElem!_pos _ k (by simp; omega), getElem!_pos _ k (by omega)]
      simp
    unfold Lib.lastIdx
    rw [e, ih (by omega)]
theorem last_ext (s : ByteArray) (n : Nat) (hn : n ≤ s.size) : Lib.lastIndexByte (s.extract 0 n) 10 = (n : Int) - colN s n := by
  have h := colN_last s n
  have hz : (s.extract 0 n).size = n := by rw [ByteArray.size_extract]; omega
  unfold Lib.lastIndexByte
  rw [hz, lastIdx_ext s n hn n (Nat.le_refl _)]
  omega
theorem count_line (s : ByteArray) (n : Nat) (hn : n ≤ s.size) : Lib.countByte (s.data.toList.take n) 10 + 1 = lineN s n := by
  have hs : s.size = s.data.size := rfl
  have key : ∀ k, k ≤ n → (s.data.toList.take k).count 10 + 1 = lineN s k := by
    intro k
    induction k with
    | zero => intro _; simp [lineN]
    | succ k ih =>
      intro hk
      have hk' : k < s.data.toList.length := by simp; omega
      rw [List.take_succ_eq_append_getElem hk', List.count_append, lineN]
      have e : s.data.toList[k] = s.data[k]! := by rw [getElem!_pos s.data k (by omega)]; simp
      have := ih (by omega)
      by_cases h : nl s k = true
      · have h2 : s.data[k]! = 10 := by
          have : ((s.data[k]!).toNat : Int) = 10 := by simpa [nl] using h
          exact UInt8.toNat_inj.1 (by simpa using (by omega : (s.data[k]!).toNat = 10))
        rw [if_pos h, e, h2]; simp; omega
      · have h2 : ¬ s.data[k]! = 10 := by
          intro h3; apply h; simp [nl, h3]
        rw [if_neg h, e]; simp [h2]; omega
  exact key n (Nat.le_refl _)

/-! the list of the lines' beginnings -/
theorem starts_len (s : ByteArray) (k : Nat) : (startsN s k).length = lineN s k := by
  induction k with
  | zero => rfl
  | succ k ih => unfold startsN lineN; split <;> simp [ih]
theorem starts_pre (s : ByteArray) (i : Nat) : ∀ k, i ≤ k → ∃ m, startsN s k = startsN s i ++ m ∧ ∀ x ∈ m, i < x ∧ x ≤ k := by
  intro k
  induction k with
  | zero => intro h; obtain rfl : i = 0 := by omega
            exact ⟨[], by simp, by simp⟩
  | succ k ih =>
    intro h
    rcases Nat.lt_or_ge k i with hk | hk
    · obtain rfl : i = k + 1 := by omega
      exact ⟨[], by simp, by simp⟩
    · obtain ⟨m, e, hm⟩ := ih hk
      rw [startsN]
      split
      · refine ⟨m ++ [k + 1], by rw [e]; simp, fun x hx => ?_⟩
        rcases List.mem_append.1 hx with h1 | h1
        · have := hm x h1; omega
        · simp at h1; omega
      · exact ⟨m, e, fun x hx => by have := hm x hx; omega⟩
theorem starts_last (s : ByteArray) (k : Nat) : (startsN s k)[lineN s k - 1]? = some (k + 1 - colN s k) := by
  induction k with
  | zero => rfl
  | succ k ih =>
    have hl := starts_len s k
    have hb := lineN_bd s k
    have hc := colN_bd s k
    unfold startsN lineN colN
    split
    · rw [List.getElem?_append_right (by omega)]
      simp [hl]
    · rw [ih]; congr 1; omega
/-- The line of a place begins where its column says. -/
theorem starts_at (s : ByteArray) (i k : Nat) (h : i ≤ k) : (startsN s k)[lineN s i - 1]? = some (i + 1 - colN s i) := by
  obtain ⟨m, e, _⟩ := starts_pre s i k h
  have hl := starts_len s i
  have hb := lineN_bd s i
  rw [e, List.getElem?_append_left (by omega)]
  exact starts_last s i
/-- The next line begins behind it. -/
theorem starts_next (s : ByteArray) (i k x : Nat) (h : i ≤ k) (hx : (startsN s k)[lineN s i]? = some x) : i < x ∧ x ≤ k := by
  obtain ⟨m, e, hm⟩ := starts_pre s i k h
  have hl := starts_len s i
  rw [e, List.getElem?_append_right (by omega)] at hx
  exact hm x (List.mem_of_getElem? hx)
theorem lineN_mono (s : ByteArray) (i k : Nat) (h : i ≤ k) : lineN s i ≤ lineN s k := by
  obtain ⟨m, e, _⟩ := starts_pre s i k h
  rw [← starts_len, ← starts_len, e]; simp
theorem starts_le (s : ByteArray) (k j x : Nat) (hx : (startsN s k)[j]? = some x) : x ≤ k := by
  have hm : x ∈ startsN s k := List.mem_of_getElem? hx
  obtain ⟨m, e, h⟩ := starts_pre s 0 k (Nat.zero_le _)
  rw [e] at hm
  rcases List.mem_append.1 hm with h1 | h1
  · simp [startsN] at h1; omega
  · exact (h x h1).2
/-- Line starts are found from line j's own number. -/
theorem line_of_start (s : ByteArray) (k : Nat) : ∀ j x, (startsN s k)[j]? = some x → lineN s x = j + 1 ∧ colN s x = 1 := by
  induction k with
  | zero => intro j x h
            match j, h with
            | 0, h => simp [startsN] at h; subst h; simp [lineN, colN]
            | j + 1, h => simp [startsN] at h
  | succ k ih =>
    intro j x h
    unfold startsN at h
    split at h
    · rename_i hn
      rcases Nat.lt_or_ge j (startsN s k).length with hj | hj
      · rw [List.getElem?_append_left hj] at h; exact ih j x h
      · rw [List.getElem?_append_right hj] at h
        have hj2 : j = (startsN s k).length := by
          rcases Nat.lt_or_ge (j - (startsN s k).length) 1 with h1 | h1
          · omega
          · rw [List.getElem?_eq_none (by simpa using h1)] at h; cases h
        rw [hj2] at h; simp at h
        subst h
        have hl := starts_len s k
        unfold lineN colN
        rw [if_pos hn, if_pos hn]; omega
    · exact ih j x h
/-- From a start, up to the next one, line and column go on. -/
theorem line_from (s : ByteArray) (k j x y : Nat) (hx : (startsN s k)[j]? = some x) (hy : (j + 1 < lineN s k → (startsN s k)[j + 1]? = some (y + 1)) ∧ (¬ j + 1 < lineN s k → y = k)) :
    ∀ d, x + d ≤ y → x + d ≤ k → lineN s (x + d) = j + 1 ∧ colN s (x + d) = d + 1 := by
  intro d
  induction d with
  | zero => intro _ _; exact line_of_start s k j x hx
  | succ d ih =>
    intro h1 h2
    obtain ⟨e1, e2⟩ := ih (by omega) (by omega)
    have hn : nl s (x + d) = false := by
      cases hn : nl s (x + d) with
      | false => rfl
      | true =>
        exfalso
        have l1 : lineN s (x + d + 1) = j + 2 := by rw [lineN, if_pos hn]; omega
        have c1 : colN s (x + d + 1) = 1 := by rw [colN, if_pos hn]
        have l2 := starts_at s (x + d + 1) k (by omega)
        rw [l1, c1] at l2
        have l3 := lineN_mono s (x + d + 1) k (by omega)
        have l4 := hy.1 (by omega)
        have : j + 2 - 1 = j + 1 := by omega
        rw [this, l4] at l2
        simp at l2
        omega
    constructor
    · show lineN s (x + d + 1) = _
      rw [lineN, hn]; simpa using e1
    · show colN s (x + d + 1) = _
      rw [colN, hn]; simp [e2]
end Go.Proofs.YtlgklkokadbpeaaDoor
