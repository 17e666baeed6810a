import Derived.Test.YtjcaeoacgoklmaaDoorGtB
import Derived.Test.YtjcaeoacgoklmaaDoorGrR
import Derived.LoopTactic
import Derived.BigQuiet
namespace Go.Proofs.YtjcaeoacgoklmaaDoor
open Go.RowKit
/-! The reference's search for a name. -/
def ixF (f : Nat → ByteArray) (n : Nat) (s : ByteArray) : Int := match (List.range n).find? (fun j => decide (f j = s)) with | some j => (j : Int) | none => -1
theorem ixF_miss {f : Nat → ByteArray} {n : Nat} {s : ByteArray} (h : ∀ j, j < n → f j ≠ s) : ixF f n s = -1 := by
  unfold ixF
  rw [List.find?_eq_none.2 (fun j hj => by simpa using h j (by simpa using hj))]
theorem ixF_hit {f : Nat → ByteArray} {n k : Nat} {s : ByteArray} (hk : k < n) (he : f k = s) (h : ∀ j, j < k → f j ≠ s) : ixF f n s = (k : Int) := by
  have e : (List.range n).find? (fun j => decide (f j = s)) = some k := by
    rw [List.find?_eq_some_iff_getElem]
    refine ⟨by simpa using he, k, by simpa using hk, by simp, fun j hj => ?_⟩
    simpa using h j hj
  unfold ixF
  rw [e]
set_option maxHeartbeats 2000000 in
theorem find_any {W : World} {A : Option Addr} {g n c : Nat} {f : Nat → ByteArray} (hn : n ≤ 100000) (hA : 0 < n → A = some ⟨g, 0, none⟩) (hC : ∀ j, j < n → W.cell? ⟨g, j, none⟩ = some (.string (f j))) (s : ByteArray) :
    Calls Tryd.prog 17 #[.slice A n c, .string s] W fun e w' => e = .returned (.int .i64 (ixF f n s)) ∧ w' = W := by
  have HA := Lib.hid hA
  have HC := Lib.hid hC
  clear hA hC
  go_enter Tryd.func17, Tryd.ntmps17
  go_wp2_with fail
  go_loopw [5] (fun v wr => ∃ k : Nat, k ≤ n ∧ v = .int .i64 k ∧ wr = W ∧ ∀ j, j < k → f j ≠ s) (fun v _ => n - (intOf v).toNat)
  case atStart => exact ⟨0, by omega, rfl, rfl, fun j hj => by omega⟩
  case round =>
    obtain ⟨k, hk, rfl, rfl, hno⟩ := hrel
    have HN := Lib.hid hno
    clear hno
    by_cases hlt : k < n
    case neg =>
      obtain rfl : k = n := by omega
      have tl : decide ((k : Int) < (k : Int)) = false := by simp
      clear hlt
      go_wp2_with fail
      go_ret
      exact ⟨by rw [ixF_miss HN.out]; rfl, rfl⟩
    have tl : decide ((k : Int) < (n : Int)) = true := by simp; omega
    have hA := HA.out (by omega)
    subst hA
    have c0 := HC.out k hlt
    by_cases he : f k = s
    · have te : ((f k).toList == s.toList) = true := by rw [str_eq]; simpa using he
      have HE := Lib.hid he
      have HL := Lib.hid hlt
      clear he
      go_wp2_with fail
      go_ret
      exact ⟨by rw [ixF_hit HL.out HE.out HN.out]; rfl, rfl⟩
    · have te : ((f k).toList == s.toList) = false := by rw [str_eq]; simpa using he
      have HE := Lib.hid he
      have HL := Lib.hid hlt
      clear he
      go_wp2_with fail
      exact ⟨⟨k + 1, HL.out, by go_num, trivial, fun j hj => by
        rcases Nat.lt_or_ge j k with h1 | h1
        · exact HN.out j h1
        · obtain rfl : j = k := by omega
          exact HE.out⟩, by have := HL.out; simp [intOf]; omega⟩
set_option maxHeartbeats 2000000 in
theorem rule_any {W : World} {A : Option Addr} {G g n c : Nat} {f : Nat → ByteArray} (hn : n ≤ 100000) (h0 : W.cell? ⟨G, 0, none⟩ = some (.slice A n c)) (hA : 0 < n → A = some ⟨g, 0, none⟩) (hC : ∀ j, j < n → W.cell? ⟨g, j * 11, none⟩ = some (.string (f j))) (s : ByteArray) :
    Calls Tryd.prog 16 #[.pointer (some ⟨G, 0, none⟩), .string s] W fun e w' => e = .returned (.int .i64 (ixF f n s)) ∧ w' = W := by
  have HA := Lib.hid hA
  have HC := Lib.hid hC
  have H0 := Lib.hid h0
  clear hA hC h0
  go_enter Tryd.func16, Tryd.ntmps16
  go_wp2_with fail
  go_loopw [5] (fun v wr => ∃ k : Nat, k ≤ n ∧ v = .int .i64 k ∧ wr = W ∧ ∀ j, j < k → f j ≠ s) (fun v _ => n - (intOf v).toNat)
  case atStart => exact ⟨0, by omega, rfl, rfl, fun j hj => by omega⟩
  case round =>
    obtain ⟨k, hk, rfl, rfl, hno⟩ := hrel
    have HN := Lib.hid hno
    have h0 := H0.out
    clear hno
    by_cases hlt : k < n
    case neg =>
      obtain rfl : k = n := by omega
      have tl : decide ((k : Int) < (k : Int)) = false := by simp
      clear hlt
      go_wp2_with fail
      go_ret
      exact ⟨by rw [ixF_miss HN.out]; rfl, rfl⟩
    have tl : decide ((k : Int) < (n : Int)) = true := by simp; omega
    have hA := HA.out (by omega)
    subst hA
    have c0 := HC.out k hlt
    by_cases he : f k = s
    · have te : ((f k).toList == s.toList) = true := by rw [str_eq]; simpa using he
      have HE := Lib.hid he
      have HL := Lib.hid hlt
      clear he
      go_wp2_with fail
      go_ret
      exact ⟨by rw [ixF_hit HL.out HE.out HN.out]; rfl, rfl⟩
    · have te : ((f k).toList == s.toList) = false := by rw [str_eq]; simpa using he
      have HE := Lib.hid he
      have HL := Lib.hid hlt
      clear he
      go_wp2_with fail
      exact ⟨⟨k + 1, HL.out, by go_num, trivial, fun j hj => by
        rcases Nat.lt_or_ge j k with h1 | h1
        · exact HN.out j h1
        · obtain rfl : j = k := by omega
          exact HE.out⟩, by have := HL.out; simp [intOf]; omega⟩
end Go.Proofs.YtjcaeoacgoklmaaDoor
