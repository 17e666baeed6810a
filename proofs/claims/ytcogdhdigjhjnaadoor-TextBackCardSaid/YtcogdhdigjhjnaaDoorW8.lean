import Derived.Test.YtcogdhdigjhjnaaDoorW7
namespace Go.Proofs.YtcogdhdigjhjnaaDoor
open Go.RowKit
def AtPostB (s : ByteArray) (line col : Int) (w : World) (e : Ending) (w' : World) : Prop :=
  ∃ x y, e = .returned (.tuple #[.int .i64 x, .int .i64 y]) ∧ AtR s line col x y ∧ Below w.heap.size w w'
theorem starts_some (s : ByteArray) (k j : Nat) (h : j < lineN s k) : (startsN s k)[j]? = some ((startsN s k).getD j 0) := by
  have hl := starts_len s k
  rw [List.getD_eq_getElem?_getD, List.getElem?_eq_getElem (by omega)]
  rfl
set_option maxRecDepth 100000 in
set_option maxHeartbeats 400000 in
theorem at_prog (s : ByteArray) (line col : Int) (w : World) (hs : s.size ≤ 1000000000000) (hl1 : -9223372036854775808 ≤ line) (hl2 : line ≤ 9223372036854775807) (hc1 : -9223372036854775808 ≤ col) (hc2 : col ≤ 9223372036854775807) :
    Calls Tryd.prog 14 #[.string s, .int .i64 line, .int .i64 col] w (AtPostB s line col w) := by
  have K := Lib.hid (lines_prog' s w hs)
  have hbd := lineN_bd s s.size
  by_cases hr : line < 1 ∨ (lineN s s.size : Int) < line
  · have HO := Lib.hid (at_out_line (col := col) hr)
    rcases hr with hr | hr
    · go_enter Tryd.func14, Tryd.ntmps14
      go_wp2_with fail
      refine K.out.mono ?_
      rintro e w1 ⟨g, cap, rfl, hL⟩
      go_wp2_with fail
      go_ret2
      exact ⟨_, _, rfl, .inr ⟨HO.out, rfl, rfl⟩, hL.below⟩
    · have hr2 : ¬ line < 1 := by omega
      go_enter Tryd.func14, Tryd.ntmps14
      go_wp2_with fail
      refine K.out.mono ?_
      rintro e w1 ⟨g, cap, rfl, hL⟩
      go_wp2_with fail
      go_ret2
      exact ⟨_, _, rfl, .inr ⟨HO.out, rfl, rfl⟩, hL.below⟩
  obtain ⟨j, hj⟩ : ∃ j : Nat, line = (j : Int) + 1 := ⟨line.toNat - 1, by omega⟩
  subst hj
  have hjl : j < lineN s s.size := by omega
  have HS := Lib.hid (starts_some s s.size j hjl)
  have hsle := starts_le s s.size j _ HS.out
  generalize hst : (startsN s s.size).getD j 0 = start at *
  have Hst := Lib.hid hst
  clear hst
  have q1 : ((j : Int) + 1).toNat - 1 = j := by omega
  have q2 : ((j : Int) + 1).toNat = j + 1 := by omega
  have Q1 := Lib.hid q1
  have Q2 := Lib.hid q2
  clear q1 q2
  have t1 : decide ((j : Int) + 1 < 1) = false := by simp; omega
  have t2 : decide ((lineN s s.size : Int) < (j : Int) + 1) = false := by simp; omega
  by_cases hlast : j + 1 < lineN s s.size
  · have HL := Lib.hid (starts_some s s.size (j + 1) hlast)
    have hlle := starts_le s s.size (j + 1) _ HL.out
    have hlt := starts_next s start s.size ((startsN s s.size).getD (j + 1) 0) hsle (by
      have := (line_of_start s s.size j start HS.out).1
      rw [this]; exact HL.out)
    generalize hla : (startsN s s.size).getD (j + 1) 0 = nx at *
    have Hla := Lib.hid hla
    clear hla
    have t3 : decide ((j : Int) + 1 < (lineN s s.size : Int)) = true := by simp; omega
    have hlasts : Hid (((((j : Int) + 1) < lineN s s.size → (startsN s s.size)[((j : Int) + 1).toNat]? = some ((nx - 1) + 1)) ∧ (¬ ((j : Int) + 1) < lineN s s.size → (nx - 1) = s.size))) :=
      Lib.hid ⟨fun _ => by rw [Q2.out, HL.out]; congr 1; omega, fun h => absurd (by omega) h⟩
    have HS' : Hid ((startsN s s.size)[((j : Int) + 1).toNat - 1]? = some start) := Lib.hid (by rw [Q1.out]; exact HS.out)
    by_cases hcc : col < 1
    · have HO := Lib.hid (at_out_col (col := col) (by omega) HS'.out hlasts.out (.inl hcc))
      go_enter Tryd.func14, Tryd.ntmps14
      go_wp2_with fail
      refine K.out.mono ?_
      rintro e w1 ⟨g, cap, rfl, hL⟩
      have f1 := hL.cell j hjl
      have f2 := hL.cell (j + 1) hlast
      rw [Hst.out] at f1
      rw [Hla.out] at f2
      have hcp := hL.len
      have HB := Lib.hid hL.below
      clear hL
      go_wp2_with fail
      go_ret2
      exact ⟨_, _, rfl, .inr ⟨HO.out, rfl, rfl⟩, HB.out⟩
    · by_cases hco : (nx : Int) - 1 - start < col - 1
      · have HO := Lib.hid (at_out_col (col := col) (by omega) HS'.out hlasts.out (.inr (by omega)))
        go_enter Tryd.func14, Tryd.ntmps14
        go_wp2_with fail
        refine K.out.mono ?_
        rintro e w1 ⟨g, cap, rfl, hL⟩
        have f1 := hL.cell j hjl
        have f2 := hL.cell (j + 1) hlast
        rw [Hst.out] at f1
        rw [Hla.out] at f2
        have hcp := hL.len
        have HB := Lib.hid hL.below
        clear hL
        go_wp2_with fail
        go_ret2
        exact ⟨_, _, rfl, .inr ⟨HO.out, rfl, rfl⟩, HB.out⟩
      · have HI := Lib.hid (at_in (by omega) (by omega) HS'.out hlasts.out (by omega) (show col - 1 ≤ ((nx - 1 : Nat) : Int) - start by omega))
        obtain ⟨c, hcc'⟩ : ∃ c : Nat, col = (c : Int) + 1 := ⟨(col - 1).toNat, by omega⟩
        subst hcc'
        have hb1 : start + c + 1 ≤ nx := by omega
        clear hc1 hc2 hl1 hl2 hcc hr
        go_enter Tryd.func14, Tryd.ntmps14
        go_wp2_with fail
        refine K.out.mono ?_
        rintro e w1 ⟨g, cap, rfl, hL⟩
        have f1 := hL.cell j hjl
        have f2 := hL.cell (j + 1) hlast
        rw [Hst.out] at f1
        rw [Hla.out] at f2
        have hcp := hL.len
        have HB := Lib.hid hL.below
        clear hL
        go_wp2_with fail
        go_ret2
        exact ⟨_, 0, rfl, .inl ⟨_, HI.out, by simp; omega, rfl⟩, HB.out⟩
  · have t3 : decide ((j : Int) + 1 < (lineN s s.size : Int)) = false := by simp; omega
    have hlasts : Hid (((((j : Int) + 1) < lineN s s.size → (startsN s s.size)[((j : Int) + 1).toNat]? = some (s.size + 1)) ∧ (¬ ((j : Int) + 1) < lineN s s.size → s.size = s.size))) :=
      Lib.hid ⟨fun h => absurd h (by omega), fun _ => rfl⟩
    have HS' : Hid ((startsN s s.size)[((j : Int) + 1).toNat - 1]? = some start) := Lib.hid (by rw [Q1.out]; exact HS.out)
    by_cases hcc : col < 1
    · have HO := Lib.hid (at_out_col (col := col) (by omega) HS'.out hlasts.out (.inl hcc))
      go_enter Tryd.func14, Tryd.ntmps14
      go_wp2_with fail
      refine K.out.mono ?_
      rintro e w1 ⟨g, cap, rfl, hL⟩
      have f1 := hL.cell j hjl
      rw [Hst.out] at f1
      have hcp := hL.len
      have HB := Lib.hid hL.below
      clear hL
      go_wp2_with fail
      go_ret2
      exact ⟨_, _, rfl, .inr ⟨HO.out, rfl, rfl⟩, HB.out⟩
    · by_cases hco : (s.size : Int) - start < col - 1
      · have HO := Lib.hid (at_out_col (col := col) (by omega) HS'.out hlasts.out (.inr hco))
        go_enter Tryd.func14, Tryd.ntmps14
        go_wp2_with fail
        refine K.out.mono ?_
        rintro e w1 ⟨g, cap, rfl, hL⟩
        have f1 := hL.cell j hjl
        rw [Hst.out] at f1
        have hcp := hL.len
        have HB := Lib.hid hL.below
        clear hL
        go_wp2_with fail
        go_ret2
        exact ⟨_, _, rfl, .inr ⟨HO.out, rfl, rfl⟩, HB.out⟩
      · have HI := Lib.hid (at_in (by omega) (by omega) HS'.out hlasts.out (by omega) (show col - 1 ≤ (s.size : Int) - start by omega))
        obtain ⟨c, hcc'⟩ : ∃ c : Nat, col = (c : Int) + 1 := ⟨(col - 1).toNat, by omega⟩
        subst hcc'
        have hb1 : start + c ≤ s.size := by omega
        clear hc1 hc2 hl1 hl2 hcc hr
        go_enter Tryd.func14, Tryd.ntmps14
        go_wp2_with fail
        refine K.out.mono ?_
        rintro e w1 ⟨g, cap, rfl, hL⟩
        have f1 := hL.cell j hjl
        rw [Hst.out] at f1
        have hcp := hL.len
        have HB := Lib.hid hL.below
        clear hL
        go_wp2_with fail
        go_ret2
        exact ⟨_, 0, rfl, .inl ⟨_, HI.out, by simp; omega, rfl⟩, HB.out⟩
end Go.Proofs.YtcogdhdigjhjnaaDoor
