import Derived.Test.YtcogdhdigjhjnaaDoorW5
import Derived.Deep.QuietTactic
import Derived.BigQuiet
namespace Go.Proofs.YtcogdhdigjhjnaaDoor
open Go.RowKit
/-- Where a line and a column stand. -/
def Found (s : ByteArray) (line col : Int) (p : Nat) : Prop := p ≤ s.size ∧ (lineN s p : Int) = line ∧ (colN s p : Int) = col
theorem found_one {s : ByteArray} {line col : Int} {p q : Nat} (h : Found s line col p) (h' : Found s line col q) : p = q := by
  have key : ∀ i j, i ≤ s.size → j ≤ s.size → lineN s i = lineN s j → colN s i = colN s j → i = j := by
    intro i j hi hj e1 e2
    have a := starts_at s i s.size hi
    have b := starts_at s j s.size hj
    rw [e1, b] at a
    have c := colN_bd s i
    have d := colN_bd s j
    simp at a
    omega
  obtain ⟨h1, h2, h3⟩ := h
  obtain ⟨g1, g2, g3⟩ := h'
  exact key p q h1 g1 (by omega) (by omega)
/-- What At answers. -/
def AtR (s : ByteArray) (line col : Int) (x y : Int) : Prop :=
  (∃ p : Nat, Found s line col p ∧ x = p ∧ y = 0) ∨ ((∀ p, ¬ Found s line col p) ∧ x = 0 ∧ y = 2)
theorem AtR_one {s : ByteArray} {line col x y x' y' : Int} (h : AtR s line col x y) (h' : AtR s line col x' y') : x = x' ∧ y = y' := by
  rcases h with ⟨p, hp, rfl, rfl⟩ | ⟨hn, rfl, rfl⟩ <;> rcases h' with ⟨q, hq, rfl, rfl⟩ | ⟨hn', rfl, rfl⟩
  · rw [found_one hp hq]; exact ⟨rfl, rfl⟩
  · exact absurd hp (hn' p)
  · exact absurd hq (hn q)
  · exact ⟨rfl, rfl⟩
/-- the place, out of the list of beginnings -/
theorem at_out_line {s : ByteArray} {line col : Int} (h : line < 1 ∨ (lineN s s.size : Int) < line) : ∀ p, ¬ Found s line col p := by
  rintro p ⟨h1, h2, h3⟩
  have := lineN_bd s p
  have := lineN_mono s p s.size h1
  omega
theorem at_in {s : ByteArray} {line col : Int} {start last : Nat} (h1 : 1 ≤ line) (h2 : line ≤ lineN s s.size) (hs : (startsN s s.size)[line.toNat - 1]? = some start)
    (hl : (line < lineN s s.size → (startsN s s.size)[line.toNat]? = some (last + 1)) ∧ (¬ line < lineN s s.size → last = s.size)) (h3 : 1 ≤ col) (h4 : col - 1 ≤ (last : Int) - start) :
    Found s line col ((start : Int) + col - 1).toNat := by
  obtain ⟨j, hj⟩ : ∃ j : Nat, line = (j : Int) + 1 := ⟨line.toNat - 1, by omega⟩
  subst hj
  have e1 : ((j : Int) + 1).toNat - 1 = j := by omega
  have e2 : ((j : Int) + 1).toNat = j + 1 := by omega
  rw [e1] at hs
  rw [e2] at hl
  have hlast : last ≤ s.size := by
    by_cases hc : (j : Int) + 1 < lineN s s.size
    · have := starts_le s s.size _ _ (hl.1 hc); omega
    · have := hl.2 hc; omega
  have hh := line_from s s.size j start last hs ⟨fun h => hl.1 (by omega), fun h => hl.2 (by omega)⟩ (col - 1).toNat (by omega) (by omega)
  have e3 : ((start : Int) + col - 1).toNat = start + (col - 1).toNat := by omega
  rw [e3]
  exact ⟨by omega, by omega, by omega⟩
theorem at_out_col {s : ByteArray} {line col : Int} {start last : Nat} (h1 : 1 ≤ line) (hs : (startsN s s.size)[line.toNat - 1]? = some start)
    (hl : (line < lineN s s.size → (startsN s s.size)[line.toNat]? = some (last + 1)) ∧ (¬ line < lineN s s.size → last = s.size)) (h3 : col < 1 ∨ (last : Int) - start < col - 1) :
    ∀ p, ¬ Found s line col p := by
  rintro p ⟨g1, g2, g3⟩
  have hc := colN_bd s p
  have hm := lineN_mono s p s.size g1
  have a := starts_at s p s.size g1
  have e1 : line.toNat - 1 = lineN s p - 1 := by omega
  rw [e1, a] at hs
  simp at hs
  have : p ≤ last := by
    by_cases hc : line < lineN s s.size
    · have e2 : line.toNat = lineN s p := by omega
      have b := hl.1 hc
      rw [e2] at b
      have := starts_next s p s.size _ g1 b
      omega
    · have := hl.2 hc; omega
  omega
end Go.Proofs.YtcogdhdigjhjnaaDoor
