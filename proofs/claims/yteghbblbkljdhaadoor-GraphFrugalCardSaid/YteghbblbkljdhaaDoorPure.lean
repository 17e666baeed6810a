/- Plain facts on lines and columns of a list of bytes: no program is named here. -/
import Derived.Lib.LastIndexByte
import Derived.Lib.Bytealg
namespace Go.Proofs.YteghbblbkljdhaaDoor

def nl (s : ByteArray) (k : Nat) : Bool := ((s.data[k]!).toNat : Int) == 10
def lineN (s : ByteArray) : Nat → Nat
  | 0 => 1
  | k + 1 => if nl s k = true then lineN s k + 1 else lineN s k
def colN (s : ByteArray) : Nat → Nat
  | 0 => 1
  | k + 1 => if nl s k = true then 1 else colN s k + 1
def startsN (s : ByteArray) : Nat → List Nat
  | 0 => [0]
  | k + 1 => if nl s k = true then startsN s k ++ [k + 1] else startsN s k

theorem bget (s : ByteArray) (k : Nat) (h : k < s.size) : s[k] = s.data[k]! := by
  have h' : k < s.data.size := h
  show s.data[k] = s.data[k]!
  rw [getElem!_pos s.data k h']
theorem nl_at (s : ByteArray) (k : Nat) (h : k < s.size) : (((s[k]).toNat : Int) == 10) = nl s k := by
  rw [bget s k h]; rfl
theorem lineN_hit {s : ByteArray} {k : Nat} (h : nl s k = true) : lineN s (k + 1) = lineN s k + 1 := by rw [lineN, if_pos h]
theorem lineN_miss {s : ByteArray} {k : Nat} (h : nl s k = false) : lineN s (k + 1) = lineN s k := by rw [lineN, h]; simp
theorem colN_hit {s : ByteArray} {k : Nat} (h : nl s k = true) : colN s (k + 1) = 1 := by rw [colN, if_pos h]
theorem colN_miss {s : ByteArray} {k : Nat} (h : nl s k = false) : colN s (k + 1) = colN s k + 1 := by rw [colN, h]; simp
theorem starts_hit {s : ByteArray} {k : Nat} (h : nl s k = true) : startsN s (k + 1) = startsN s k ++ [k + 1] := by rw [startsN, if_pos h]
theorem starts_miss {s : ByteArray} {k : Nat} (h : nl s k = false) : startsN s (k + 1) = startsN s k := by rw [startsN, h]; simp
theorem lineN_bd (s : ByteArray) (k : Nat) : 1 ≤ lineN s k ∧ lineN s k ≤ k + 1 := by
  induction k with
  | zero => simp [lineN]
  | succ k ih => unfold lineN; split <;> omega
theorem colN_bd (s : ByteArray) (k : Nat) : 1 ≤ colN s k ∧ colN s k ≤ k + 1 := by
  induction k with
  | zero => simp [colN]
  | succ k ih => unfold colN; split <;> omega
theorem colN_last (s : ByteArray) (k : Nat) : (colN s k : Int) = k - Lib.lastIdx s 10 k := by
  induction k with
  | zero => simp [colN, Lib.lastIdx]
  | succ k ih =>
    unfold colN Lib.lastIdx
    by_cases h : nl s k = true
    · have h2 : ((s.data[k]!).toNat : Int) = 10 := by simpa [nl] using h
      rw [if_pos h, if_pos h2]; omega
    · have h2 : ¬ ((s.data[k]!).toNat : Int) = 10 := by simpa [nl] using h
      rw [if_neg h, if_neg h2]; omega
theorem lastIdx_ext (s : ByteArray) (n : Nat) (hn : n ≤ s.size) : ∀ k, k ≤ n → Lib.lastIdx (s.extract 0 n) 10 k = Lib.lastIdx s 10 k := by
  intro k
  induction k with
  | zero => intro _; rfl
  | succ k ih =>
    intro hk
    have e : (s.extract 0 n).data[k]! = s.data[k]! := by
      have hs : n ≤ s.data.size := hn
      rw [ByteArray.data_extract]
      rw [getElem!_pos _ k (by simp; omega), getElem!_pos _ k (by omega)]
      simp
    unfold Lib.lastIdx
    rw [e, ih (by omega)]
theorem last_ext (s : ByteArray) (n : Nat) (hn : n ≤ s.size) : Lib.lastIndexByte (s.extract 0 n) 10 = (n : Int) - colN s n := by
  have h := colN_last s n
  have hz : (s.extract 0 n).size = n := by rw [ByteArray.size_extract]; omega
  unfold Lib.lastIndexByte
  rw [hz, lastIdx_ext s n hn n (Nat.le_refl _)]
  omega
theorem count_line (s : ByteArray) (n : Nat) (hn : n ≤ s.size) : Lib.countByte (s.data.toList.take n) 10 + 1 = lineN s n := by
  have hs : s.size = s.data.size := rfl
  have key : ∀ k, k ≤ n → (s.data.toList.take k).count 10 + 1 = lineN s k := by
    intro k
    induction k with
    | zero => intro _; simp [lineN]
    | succ k ih =>
      intro hk
      have hk' : k < s.data.toList.length := by simp; omega
      rw [List.take_succ_eq_append_getElem hk', List.count_append, lineN]
      have e : s.data.toList[k] = s.data[k]! := by rw [getElem!_pos s.data k (by omega)]; simp
      have := ih (by omega)
      by_cases h : nl s k = true
      · have h2 : s.data[k]! = 10 := by
          have : ((s.data[k]!).toNat : Int) = 10 := by simpa [nl] using h
          exact UInt8.toNat_inj.1 (by simpa using (by omega : (s.data[k]!).toNat = 10))
        rw [if_pos h, e, h2]; simp; omega
      · have h2 : ¬ s.data[k]! = 10 := by
          intro h3; apply h; simp [nl, h3]
        rw [if_neg h, e]; simp [h2]; omega
  exact key n (Nat.le_refl _)

/-! the list of the lines' beginnings -/
end Go.Proofs.YteghbblbkljdhaaDoor
