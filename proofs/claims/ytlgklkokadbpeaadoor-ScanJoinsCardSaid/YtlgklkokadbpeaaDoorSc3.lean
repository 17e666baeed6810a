import Derived.Test.YtlgklkokadbpeaaDoorSc2
namespace Go.Proofs.YtlgklkokadbpeaaDoor
open Go.RowKit

theorem toList_eq (s : ByteArray) : s.toList = s.data.toList := ByteArray.toList_eq s
theorem toList_nil {s : ByteArray} (h : s.size = 0) : s.toList = [] := by
  rw [toList_eq]
  exact List.eq_nil_of_length_eq_zero (by simpa using h)
theorem size_nil {s : ByteArray} (h : s.toList = []) : s.size = 0 := by
  rw [toList_eq] at h
  have := congrArg List.length h
  simpa using this
/-- Is it a name? -/
def nameB (s : ByteArray) : Bool := decide (0 < s.size) && letterB (B s 0) && (wordN s 0 == s.size) && !resL s.toList

theorem isname_prog (s : ByteArray) (w : World) (hs : s.size ≤ 1000000000000000) :
    Calls Tryd.prog 33 #[.string s] w fun e w' => e = .returned (.bool (nameB s)) ∧ Below w.heap.size w w' := by
  by_cases h0 : s.size = 0
  · have D := Lib.hid (show nameB s = false by simp [nameB, h0])
    have t0 : s.toList = [] := toList_nil h0
    have t1 : s.toList.isEmpty = true := by rw [t0]; rfl
    go_enter Tryd.func33, Tryd.ntmps33
    go_wp2
    go_ret
    exact ⟨by rw [D.out]; rfl, Below.refl _ _⟩
  · have t0 : ¬ s.toList = [] := fun h => h0 (size_nil h)
    have t1 : s.toList.isEmpty = false := by simpa using t0
    have hp : 0 < s.size := by omega
    have hb := B_at s 0 hp
    have hu := B_lt s 0
    have kl := letter_prog (B s 0) w hu
    cases h1 : letterB (B s 0) with
    | false =>
      have D := Lib.hid (show nameB s = false by simp [nameB, h1])
      rw [h1] at kl
      have KL := Lib.hid kl
      clear kl h1 t0
      generalize B s 0 = b at *
      go_enter Tryd.func33, Tryd.ntmps33
      go_wp2_with (go_at_call 57; refine KL.out.mono ?_; rintro e w1 ⟨rfl, rfl⟩)
      go_ret
      exact ⟨by rw [D.out]; rfl, Below.refl _ _⟩
    | true =>
      rw [h1] at kl
      have KL := Lib.hid kl
      have KW := Lib.hid (word_prog s 0 w hs (by omega))
      have HD := Lib.hid (show nameB s = ((wordN s 0 == s.size) && !resL s.toList) by simp [nameB, h1, hp])
      clear kl h1 t0
      generalize B s 0 = b at *
      generalize hn : wordN s 0 = n at *
      clear hn
      by_cases hq : n = s.size
      · subst hq
        have D := Lib.hid (show nameB s = !resL s.toList by rw [HD.out]; simp)
        clear HD
        have t3 : (((s.size : Nat) : Int) == (s.size : Int)) = true := by simp
        have KR := Lib.hid (reserved_prog s w)
        cases hr : resL s.toList with
        | true =>
          rw [hr] at KR D
          clear hr
          go_enter Tryd.func33, Tryd.ntmps33
          go_wp2_with (first | (go_at_call 57; refine KL.out.mono ?_; rintro e w1 ⟨rfl, rfl⟩) | (go_at_call 58; refine KW.out.mono ?_; rintro e w1 ⟨rfl, rfl⟩) | (go_at_call 35; refine KR.out.mono ?_; rintro e w1 ⟨rfl, rfl⟩))
          go_ret
          exact ⟨by rw [D.out]; rfl, (Below.refl _ _)⟩
        | false =>
          rw [hr] at KR D
          clear hr
          go_enter Tryd.func33, Tryd.ntmps33
          go_wp2_with (first | (go_at_call 57; refine KL.out.mono ?_; rintro e w1 ⟨rfl, rfl⟩) | (go_at_call 58; refine KW.out.mono ?_; rintro e w1 ⟨rfl, rfl⟩) | (go_at_call 35; refine KR.out.mono ?_; rintro e w1 ⟨rfl, rfl⟩))
          go_ret
          exact ⟨by rw [D.out]; rfl, (Below.refl _ _)⟩
      · have D := Lib.hid (show nameB s = false by rw [HD.out]; simp [hq])
        clear HD
        have t3 : ((n : Int) == (s.size : Int)) = false := by simp; omega
        go_enter Tryd.func33, Tryd.ntmps33
        go_wp2_with (first | (go_at_call 57; refine KL.out.mono ?_; rintro e w1 ⟨rfl, rfl⟩) | (go_at_call 58; refine KW.out.mono ?_; rintro e w1 ⟨rfl, rfl⟩))
        go_ret
        exact ⟨by rw [D.out]; rfl, Below.refl _ _⟩

theorem isname_ref (s : ByteArray) (w : World) (hs : s.size ≤ 1000000000000000) :
    Calls Tryd.prog 34 #[.string s] w fun e w' => e = .returned (.bool (nameB s)) ∧ Below w.heap.size w w' := by
  by_cases h0 : s.size = 0
  · have D := Lib.hid (show nameB s = false by simp [nameB, h0])
    have t0 : s.toList = [] := toList_nil h0
    have t1 : s.toList.isEmpty = true := by rw [t0]; rfl
    go_enter Tryd.func34, Tryd.ntmps34
    go_wp2
    go_ret
    exact ⟨by rw [D.out]; rfl, Below.refl _ _⟩
  · have t0 : ¬ s.toList = [] := fun h => h0 (size_nil h)
    have t1 : s.toList.isEmpty = false := by simpa using t0
    have hp : 0 < s.size := by omega
    have hb := B_at s 0 hp
    have hu := B_lt s 0
    have kl := letter_ref (B s 0) w hu
    cases h1 : letterB (B s 0) with
    | false =>
      have D := Lib.hid (show nameB s = false by simp [nameB, h1])
      rw [h1] at kl
      have KL := Lib.hid kl
      clear kl h1 t0
      generalize B s 0 = b at *
      go_enter Tryd.func34, Tryd.ntmps34
      go_wp2_with (go_at_call 59; refine KL.out.mono ?_; rintro e w1 ⟨rfl, rfl⟩)
      go_ret
      exact ⟨by rw [D.out]; rfl, Below.refl _ _⟩
    | true =>
      rw [h1] at kl
      have KL := Lib.hid kl
      have KW := Lib.hid (word_ref s 0 w hs (by omega))
      have HD := Lib.hid (show nameB s = ((wordN s 0 == s.size) && !resL s.toList) by simp [nameB, h1, hp])
      clear kl h1 t0
      generalize B s 0 = b at *
      generalize hn : wordN s 0 = n at *
      clear hn
      by_cases hq : n = s.size
      · subst hq
        have D := Lib.hid (show nameB s = !resL s.toList by rw [HD.out]; simp)
        clear HD
        have t3 : (((s.size : Nat) : Int) == (s.size : Int)) = true := by simp
        have KR := Lib.hid (reserved_ref s w)
        cases hr : resL s.toList with
        | true =>
          rw [hr] at KR D
          clear hr
          go_enter Tryd.func34, Tryd.ntmps34
          go_wp2_with (first | (go_at_call 59; refine KL.out.mono ?_; rintro e w1 ⟨rfl, rfl⟩) | (go_at_call 60; refine KW.out.mono ?_; rintro e w1 ⟨rfl, rfl⟩) | (go_at_call 36; refine KR.out.mono ?_; rintro e w1 ⟨rfl, hb1⟩))
          go_ret
          exact ⟨by rw [D.out]; rfl, hb1⟩
        | false =>
          rw [hr] at KR D
          clear hr
          go_enter Tryd.func34, Tryd.ntmps34
          go_wp2_with (first | (go_at_call 59; refine KL.out.mono ?_; rintro e w1 ⟨rfl, rfl⟩) | (go_at_call 60; refine KW.out.mono ?_; rintro e w1 ⟨rfl, rfl⟩) | (go_at_call 36; refine KR.out.mono ?_; rintro e w1 ⟨rfl, hb1⟩))
          go_ret
          exact ⟨by rw [D.out]; rfl, hb1⟩
      · have D := Lib.hid (show nameB s = false by rw [HD.out]; simp [hq])
        clear HD
        have t3 : ((n : Int) == (s.size : Int)) = false := by simp; omega
        go_enter Tryd.func34, Tryd.ntmps34
        go_wp2_with (first | (go_at_call 59; refine KL.out.mono ?_; rintro e w1 ⟨rfl, rfl⟩) | (go_at_call 60; refine KW.out.mono ?_; rintro e w1 ⟨rfl, rfl⟩))
        go_ret
        exact ⟨by rw [D.out]; rfl, Below.refl _ _⟩
end Go.Proofs.YtlgklkokadbpeaaDoor
