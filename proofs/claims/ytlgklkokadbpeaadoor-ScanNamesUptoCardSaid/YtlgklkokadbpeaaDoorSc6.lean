import Derived.Test.YtlgklkokadbpeaaDoorSc5
import Derived.Test.YtlgklkokadbpeaaDoorShelfS
namespace Go.Proofs.YtlgklkokadbpeaaDoor
open Go.RowKit

def blankB (c : Nat) : Bool := decide (c = 32 ∨ c = 9 ∨ c = 10 ∨ c = 13)
/-- Where a blank or a remark that begins at a place ends. -/
def skipStep (s : ByteArray) (i : Nat) : Option Nat :=
  if blankB (B s i) = true then some (i + 1)
  else if B s i = 47 ∧ B s (i + 1) = 47 then some (lineE s i)
  else if B s i = 47 ∧ B s (i + 1) = 42 ∧ closeE s (i + 2) < s.size then some (closeE s (i + 2) + 2)
  else none
theorem skip_bd {s : ByteArray} {i j : Nat} (hi : i < s.size) (h : skipStep s i = some j) : i < j ∧ j ≤ s.size := by
  unfold skipStep at h
  split at h
  · simp at h; omega
  · split at h
    · rename_i h2
      simp at h
      have := line_bd s _ (i + 1) rfl (by omega)
      have h3 := line_go hi (by omega)
      omega
    · split at h
      · rename_i h2
        simp at h
        have h3 : i + 1 < s.size := B_in (by omega)
        have h4 := close_bd s _ (i + 2) rfl (by omega)
        have h5 : closeE s (i + 2) + 1 < s.size := B_in (by have := h4.2.2 h2.2.2; omega)
        omega
      · cases h
theorem blank_prog (c : Nat) (w : World) (_hc : c < 256) :
    Calls Tryd.prog 52 #[.int .u8 c] w fun e w' => e = .returned (.bool (blankB c)) ∧ w = w' := by
  by_cases h1 : c = 32
  · have t1 : ((c : Int) == 32) = true := by simp; omega
    have D := Lib.hid (show blankB c = true by unfold blankB; simp; omega)
    clear h1
    go_enter Tryd.func52, Tryd.ntmps52
    go_wp2
    go_ret
    exact ⟨by rw [D.out]; rfl, rfl⟩
  have t1 : ((c : Int) == 32) = false := by simp; omega
  by_cases h2 : c = 9
  · have t2 : ((c : Int) == 9) = true := by simp; omega
    have D := Lib.hid (show blankB c = true by unfold blankB; simp; omega)
    clear h1 h2
    go_enter Tryd.func52, Tryd.ntmps52
    go_wp2
    go_ret
    exact ⟨by rw [D.out]; rfl, rfl⟩
  have t2 : ((c : Int) == 9) = false := by simp; omega
  by_cases h3 : c = 10
  · have t3 : ((c : Int) == 10) = true := by simp; omega
    have D := Lib.hid (show blankB c = true by unfold blankB; simp; omega)
    clear h1 h2 h3
    go_enter Tryd.func52, Tryd.ntmps52
    go_wp2
    go_ret
    exact ⟨by rw [D.out]; rfl, rfl⟩
  have t3 : ((c : Int) == 10) = false := by simp; omega
  by_cases h4 : c = 13
  · have t4 : ((c : Int) == 13) = true := by simp; omega
    have D := Lib.hid (show blankB c = true by unfold blankB; simp; omega)
    clear h1 h2 h3 h4
    go_enter Tryd.func52, Tryd.ntmps52
    go_wp2
    go_ret
    exact ⟨by rw [D.out]; rfl, rfl⟩
  have t4 : ((c : Int) == 13) = false := by simp; omega
  have D := Lib.hid (show blankB c = false by unfold blankB; simp; omega)
  clear h1 h2 h3 h4
  go_enter Tryd.func52, Tryd.ntmps52
  go_wp2
  go_ret
  exact ⟨by rw [D.out]; rfl, rfl⟩
/-- That the library's number is there. -/
def HasMax (w : World) : Prop := ∃ m, w.cell? ⟨2, 0, none⟩ = some (.int .i64 m)
/-- What remark tells of a place at which no blank stands. -/
def remarkR (s : ByteArray) (i : Nat) : Nat × Bool :=
  if B s i = 47 ∧ B s (i + 1) = 47 then (lineE s i, true)
  else if B s i = 47 ∧ B s (i + 1) = 42 ∧ closeE s (i + 2) < s.size then (closeE s (i + 2) + 2, true)
  else (0, false)
theorem pre_ext (s : ByteArray) (i : Nat) (p : List UInt8) (hp : ∀ c ∈ p, 0 < c.toNat) (q : ByteArray) (hq : q.data.toList = p) : Lib.hasPrefix (s.data.toList.drop i) q.data.toList = occ s i p := by
  rw [hq]; exact occ_pre s p i hp
set_option maxRecDepth 100000 in
set_option maxHeartbeats 1000000 in
theorem remark_prog (s : ByteArray) (i : Nat) (w : World) (hs : s.size ≤ 1000000000) (hi : i < s.size) (hM : HasMax w) :
    Calls Tryd.prog 53 #[.string s, .int .i64 i] w fun e w' => e = .returned (.tuple #[.int .i64 (remarkR s i).1, .bool (remarkR s i).2]) ∧ w = w' := by
  obtain ⟨m, hm⟩ := hM
  have HM := Lib.hid hm
  clear hm
  have K1 : Hid (∀ W, Calls Tryd.prog 68 #[.string (s.extract i s.size), .string ⟨#[47, 47]⟩] W fun e w' => e = .returned (.bool (occ s i [47, 47])) ∧ W = w') := Lib.hid fun W => by
    have := Tryd.strings_HasPrefix (s.extract i s.size) ⟨#[47, 47]⟩ W
    rw [show (s.extract i s.size).data.toList = s.data.toList.drop i from Lib.extract_to_end s i, pre_ext s i [47, 47] (by decide) ⟨#[47, 47]⟩ rfl] at this
    exact this.mono fun e w' h => ⟨h.1, h.2.symm⟩
  have K2 : Hid (∀ W, Calls Tryd.prog 68 #[.string (s.extract i s.size), .string ⟨#[47, 42]⟩] W fun e w' => e = .returned (.bool (occ s i [47, 42])) ∧ W = w') := Lib.hid fun W => by
    have := Tryd.strings_HasPrefix (s.extract i s.size) ⟨#[47, 42]⟩ W
    rw [show (s.extract i s.size).data.toList = s.data.toList.drop i from Lib.extract_to_end s i, pre_ext s i [47, 42] (by decide) ⟨#[47, 42]⟩ rfl] at this
    exact this.mono fun e w' h => ⟨h.1, h.2.symm⟩
  have KI : Hid (∀ W, Calls Tryd.prog 69 #[.string (s.extract i s.size), .int .u8 10] W fun e w' => e = .returned (.int .i64 (Lib.indexByte (s.data.toList.drop i) 10)) ∧ W = w') := Lib.hid fun W => by
    have := Tryd.strings_IndexByte (s.extract i s.size) 10 W
    rw [show (s.extract i s.size).data.toList = s.data.toList.drop i from Lib.extract_to_end s i] at this
    exact this.mono fun e w' h => ⟨h.1, h.2.symm⟩
  cases h1 : occ s i [47, 47] with
  | true =>
    have hb : B s i = 47 ∧ B s (i + 1) = 47 := (occ_two s i 47 47).1 h1
    have D := Lib.hid (show remarkR s i = (lineE s i, true) by rw [remarkR, if_pos hb])
    rw [h1] at K1
    clear h1 hb
    rcases find_line s i (by omega) with ⟨e1, e2⟩ | ⟨e1, e2, e3⟩
    · rw [e1] at KI
      rw [e2] at D
      clear e1 e2
      go_enter Tryd.func53, Tryd.ntmps53
      go_wp2_with (first | (go_at_call 68; refine (K1.out _).mono ?_; rintro e w1 ⟨rfl, rfl⟩) | (go_at_call 69; refine (KI.out _).mono ?_; rintro e w1 ⟨rfl, rfl⟩))
      go_ret2
      exact ⟨by rw [D.out]; rfl, rfl⟩
    · rw [e1] at KI
      generalize lineE s i = n at *
      clear e1
      go_enter Tryd.func53, Tryd.ntmps53
      go_wp2_with (first | (go_at_call 68; refine (K1.out _).mono ?_; rintro e w1 ⟨rfl, rfl⟩) | (go_at_call 69; refine (KI.out _).mono ?_; rintro e w1 ⟨rfl, rfl⟩))
      go_ret2
      exact ⟨by rw [D.out]; simp; omega, rfl⟩
  | false =>
    have hb : ¬ (B s i = 47 ∧ B s (i + 1) = 47) := fun h => by rw [(occ_two s i 47 47).2 h] at h1; cases h1
    rw [h1] at K1
    clear h1
    cases h2 : occ s i [47, 42] with
    | false =>
      have hb2 : ¬ (B s i = 47 ∧ B s (i + 1) = 42 ∧ closeE s (i + 2) < s.size) := fun h => by rw [(occ_two s i 47 42).2 ⟨h.1, h.2.1⟩] at h2; cases h2
      have D := Lib.hid (show remarkR s i = (0, false) by rw [remarkR, if_neg hb, if_neg hb2])
      rw [h2] at K2
      clear h2 hb hb2
      go_enter Tryd.func53, Tryd.ntmps53
      go_wp2_with fail
      refine (K1.out _).mono ?_
      rintro e w1 ⟨rfl, rfl⟩
      go_wp2_with fail
      refine (K2.out _).mono ?_
      rintro e w1 ⟨rfl, rfl⟩
      go_wp2_with fail
      go_ret2
      exact ⟨by rw [D.out]; rfl, rfl⟩
    | true =>
      have hb2 : B s i = 47 ∧ B s (i + 1) = 42 := (occ_two s i 47 42).1 h2
      have h3 : i + 1 < s.size := B_in (by omega)
      rw [h2] at K2
      clear h2
      have hz : (s.extract (i + 2) s.size).size < 4294967281 := by rw [ByteArray.size_extract]; omega
      have hex := rest_rest s i 2 (by omega)
      have KX : Hid (∀ W, W.cell? ⟨2, 0, none⟩ = some (.int .i64 m) → Calls Tryd.prog 70 #[.string (s.extract (i + 2) s.size), .string ⟨#[42, 47]⟩] W fun e w' => e = .returned (.int .i64 (Lib.index (s.data.toList.drop (i + 2)) [42, 47])) ∧ W = w') := Lib.hid fun W hW => by
        have := Tryd.strings_Index (s.extract (i + 2) s.size) ⟨#[42, 47]⟩ m W hz hW
        rw [show (s.extract (i + 2) s.size).data.toList = s.data.toList.drop (i + 2) from Lib.extract_to_end s (i + 2)] at this
        exact this.mono fun e w' h => ⟨h.1, h.2.symm⟩
      have HE := Lib.hid hex
      have hsz : (s.extract i s.size).size = s.size - i := by rw [ByteArray.size_extract]; omega
      have HZ := Lib.hid hsz
      have hsz2 : 2 ≤ (s.extract i s.size).size := by omega
      clear hex hz hsz
      rcases find_close s (i + 2) (by omega) with ⟨e1, e2⟩ | ⟨e1, e2, e3⟩
      · rw [e1] at KX
        have D := Lib.hid (show remarkR s i = (0, false) by rw [remarkR, if_neg hb, if_neg (by omega)])
        clear e1 e2 hb hb2
        go_enter Tryd.func53, Tryd.ntmps53
        go_wp2_with fail
        refine (K1.out _).mono ?_
        rintro e w1 ⟨rfl, rfl⟩
        go_wp2_with fail
        refine (K2.out _).mono ?_
        rintro e w1 ⟨rfl, rfl⟩
        go_wp2_with fail
        rw [HE.out]
        refine (KX.out _ HM.out).mono ?_
        rintro e w1 ⟨rfl, rfl⟩
        go_wp2_with fail
        go_ret2
        exact ⟨by rw [D.out]; rfl, rfl⟩
      · rw [e1] at KX
        have D := Lib.hid (show remarkR s i = (closeE s (i + 2) + 2, true) by rw [remarkR, if_neg hb, if_pos ⟨hb2.1, hb2.2, e2⟩])
        generalize closeE s (i + 2) = n at *
        clear e1 hb hb2
        go_enter Tryd.func53, Tryd.ntmps53
        go_wp2_with fail
        refine (K1.out _).mono ?_
        rintro e w1 ⟨rfl, rfl⟩
        go_wp2_with fail
        refine (K2.out _).mono ?_
        rintro e w1 ⟨rfl, rfl⟩
        go_wp2_with fail
        rw [HE.out]
        refine (KX.out _ HM.out).mono ?_
        rintro e w1 ⟨rfl, rfl⟩
        go_wp2_with fail
        go_ret2
        exact ⟨by rw [D.out]; simp; omega, rfl⟩
end Go.Proofs.YtlgklkokadbpeaaDoor
