import Derived.Test.YtlgklkokadbpeaaDoorStP
namespace Go.Proofs.YtlgklkokadbpeaaDoor
open Go.RowKit

def smallB (c : Nat) : Bool := decide (97 ≤ c ∧ c ≤ 122)
def inB (c : Nat) : Bool := decide (97 ≤ c ∧ c ≤ 122 ∨ 48 ≤ c ∧ c ≤ 57 ∨ c = 46 ∨ c = 95 ∨ c = 45 ∨ c = 47)
/-- A file's name. -/
def allIn (s : ByteArray) : Nat → Bool
  | 0 => true
  | k + 1 => allIn s k && inB (B s k)
def nameR (s : ByteArray) : Bool := decide (1 ≤ s.size ∧ s.size ≤ 64) && smallB (B s 0) && allIn s s.size
theorem B_byte (s : ByteArray) (k : Nat) : B s k < 256 := UInt8.toNat_lt _
theorem small_prog (c : Nat) (w : World) :
    Calls Tryd.prog 45 #[.int .u8 c] w fun e w' => e = .returned (.bool (smallB c)) ∧ w = w' := by
  by_cases h1 : 97 ≤ c
  · by_cases h2 : c ≤ 122
    · have D := Lib.hid (show smallB c = true from decide_eq_true ⟨h1, h2⟩)
      have t1 : decide ((97 : Int) ≤ (c : Int)) = true := by simp; omega
      have t2 : decide ((c : Int) ≤ 122) = true := by simp; omega
      go_enter Tryd.func45, Tryd.ntmps45
      go_wp2
      go_ret
      exact ⟨by rw [D.out]; simp, rfl⟩
    · have D := Lib.hid (show smallB c = false from decide_eq_false (by omega))
      have t1 : decide ((97 : Int) ≤ (c : Int)) = true := by simp; omega
      have t2 : decide ((c : Int) ≤ 122) = false := by simp; omega
      go_enter Tryd.func45, Tryd.ntmps45
      go_wp2
      go_ret
      exact ⟨by rw [D.out]; simp, rfl⟩
  · have D := Lib.hid (show smallB c = false from decide_eq_false (by omega))
    have t1 : decide ((97 : Int) ≤ (c : Int)) = false := by simp; omega
    go_enter Tryd.func45, Tryd.ntmps45
    go_wp2
    go_ret
    exact ⟨by rw [D.out]; simp, rfl⟩

set_option maxHeartbeats 1000000 in
theorem in_prog (c : Nat) (w : World) :
    Calls Tryd.prog 46 #[.int .u8 c] w fun e w' => e = .returned (.bool (inB c)) ∧ w = w' := by
  have h : (97 ≤ c ∧ c ≤ 122) ∨ (48 ≤ c ∧ c ≤ 57) ∨ (58 ≤ c ∧ c = 95) ∨ (58 ≤ c ∧ c ≠ 95 ∧ ¬ (97 ≤ c ∧ c ≤ 122)) ∨ (c < 48 ∧ c = 46) ∨ (c < 48 ∧ c = 45) ∨ (c < 48 ∧ c = 47) ∨ (c < 48 ∧ c ≠ 45 ∧ c ≠ 46 ∧ c ≠ 47) := by omega
  rcases h with h | h | h | h | h | h | h | h
  · skip
    have D := Lib.hid (show inB c = true from decide_eq_true (by omega))
    have S0 := small_prog c w
    rw [show smallB c = true from decide_eq_true (by omega)] at S0
    have S := Lib.hid S0
    clear S0
    clear h
    go_enter Tryd.func46, Tryd.ntmps46
    go_wp2_with fail
    refine S.out.mono ?_
    rintro e w1 ⟨rfl, rfl⟩
    go_wp2_with fail
    go_ret
    exact ⟨by rw [D.out]; first | rfl | simp | simp [*], rfl⟩
  · skip
    have D := Lib.hid (show inB c = true from decide_eq_true (by omega))
    have S0 := small_prog c w
    rw [show smallB c = false from decide_eq_false (by omega)] at S0
    have S := Lib.hid S0
    clear S0
    have t1 : decide ((48 : Int) ≤ (c : Int)) = true := by simp; omega
    have t2 : decide ((c : Int) ≤ 57) = true := by simp; omega
    clear h
    go_enter Tryd.func46, Tryd.ntmps46
    go_wp2_with fail
    refine S.out.mono ?_
    rintro e w1 ⟨rfl, rfl⟩
    go_wp2_with fail
    go_ret
    exact ⟨by rw [D.out]; first | rfl | simp | simp [*], rfl⟩
  · skip
    have D := Lib.hid (show inB c = true from decide_eq_true (by omega))
    have S0 := small_prog c w
    rw [show smallB c = false from decide_eq_false (by omega)] at S0
    have S := Lib.hid S0
    clear S0
    have t1 : decide ((48 : Int) ≤ (c : Int)) = true := by simp; omega
    have t2 : decide ((c : Int) ≤ 57) = false := by simp; omega
    have e46 : ((c : Int) == 46) = false := by simp; omega
    have e95 : ((c : Int) == 95) = true := by simp; omega
    have e45 : ((c : Int) == 45) = false := by simp; omega
    have e47 : ((c : Int) == 47) = false := by simp; omega
    clear h
    go_enter Tryd.func46, Tryd.ntmps46
    go_wp2_with fail
    refine S.out.mono ?_
    rintro e w1 ⟨rfl, rfl⟩
    go_wp2_with fail
    go_ret
    exact ⟨by rw [D.out]; first | rfl | simp | simp [*], rfl⟩
  · skip
    have D := Lib.hid (show inB c = false from decide_eq_false (by omega))
    have S0 := small_prog c w
    rw [show smallB c = false from decide_eq_false (by omega)] at S0
    have S := Lib.hid S0
    clear S0
    have t1 : decide ((48 : Int) ≤ (c : Int)) = true := by simp; omega
    have t2 : decide ((c : Int) ≤ 57) = false := by simp; omega
    have e46 : ((c : Int) == 46) = false := by simp; omega
    have e95 : ((c : Int) == 95) = false := by simp; omega
    have e45 : ((c : Int) == 45) = false := by simp; omega
    have e47 : ((c : Int) == 47) = false := by simp; omega
    clear h
    go_enter Tryd.func46, Tryd.ntmps46
    go_wp2_with fail
    refine S.out.mono ?_
    rintro e w1 ⟨rfl, rfl⟩
    go_wp2_with fail
    go_ret
    exact ⟨by rw [D.out]; first | rfl | simp | simp [*], rfl⟩
  · skip
    have D := Lib.hid (show inB c = true from decide_eq_true (by omega))
    have S0 := small_prog c w
    rw [show smallB c = false from decide_eq_false (by omega)] at S0
    have S := Lib.hid S0
    clear S0
    have t1 : decide ((48 : Int) ≤ (c : Int)) = false := by simp; omega
    have e46 : ((c : Int) == 46) = true := by simp; omega
    have e95 : ((c : Int) == 95) = false := by simp; omega
    have e45 : ((c : Int) == 45) = false := by simp; omega
    have e47 : ((c : Int) == 47) = false := by simp; omega
    clear h
    go_enter Tryd.func46, Tryd.ntmps46
    go_wp2_with fail
    refine S.out.mono ?_
    rintro e w1 ⟨rfl, rfl⟩
    go_wp2_with fail
    go_ret
    exact ⟨by rw [D.out]; first | rfl | simp | simp [*], rfl⟩
  · skip
    have D := Lib.hid (show inB c = true from decide_eq_true (by omega))
    have S0 := small_prog c w
    rw [show smallB c = false from decide_eq_false (by omega)] at S0
    have S := Lib.hid S0
    clear S0
    have t1 : decide ((48 : Int) ≤ (c : Int)) = false := by simp; omega
    have e46 : ((c : Int) == 46) = false := by simp; omega
    have e95 : ((c : Int) == 95) = false := by simp; omega
    have e45 : ((c : Int) == 45) = true := by simp; omega
    have e47 : ((c : Int) == 47) = false := by simp; omega
    clear h
    go_enter Tryd.func46, Tryd.ntmps46
    go_wp2_with fail
    refine S.out.mono ?_
    rintro e w1 ⟨rfl, rfl⟩
    go_wp2_with fail
    go_ret
    exact ⟨by rw [D.out]; first | rfl | simp | simp [*], rfl⟩
  · skip
    have D := Lib.hid (show inB c = true from decide_eq_true (by omega))
    have S0 := small_prog c w
    rw [show smallB c = false from decide_eq_false (by omega)] at S0
    have S := Lib.hid S0
    clear S0
    have t1 : decide ((48 : Int) ≤ (c : Int)) = false := by simp; omega
    have e46 : ((c : Int) == 46) = false := by simp; omega
    have e95 : ((c : Int) == 95) = false := by simp; omega
    have e45 : ((c : Int) == 45) = false := by simp; omega
    have e47 : ((c : Int) == 47) = true := by simp; omega
    clear h
    go_enter Tryd.func46, Tryd.ntmps46
    go_wp2_with fail
    refine S.out.mono ?_
    rintro e w1 ⟨rfl, rfl⟩
    go_wp2_with fail
    go_ret
    exact ⟨by rw [D.out]; first | rfl | simp | simp [*], rfl⟩
  · skip
    have D := Lib.hid (show inB c = false from decide_eq_false (by omega))
    have S0 := small_prog c w
    rw [show smallB c = false from decide_eq_false (by omega)] at S0
    have S := Lib.hid S0
    clear S0
    have t1 : decide ((48 : Int) ≤ (c : Int)) = false := by simp; omega
    have e46 : ((c : Int) == 46) = false := by simp; omega
    have e95 : ((c : Int) == 95) = false := by simp; omega
    have e45 : ((c : Int) == 45) = false := by simp; omega
    have e47 : ((c : Int) == 47) = false := by simp; omega
    clear h
    go_enter Tryd.func46, Tryd.ntmps46
    go_wp2_with fail
    refine S.out.mono ?_
    rintro e w1 ⟨rfl, rfl⟩
    go_wp2_with fail
    go_ret
    exact ⟨by rw [D.out]; first | rfl | simp | simp [*], rfl⟩

theorem all_step (s : ByteArray) (k : Nat) (h : inB (B s k) = true) : allIn s (k + 1) = allIn s k := by simp [allIn, h]
theorem all_bad (s : ByteArray) (k : Nat) (hk : inB (B s k) = false) : ∀ n, k < n → allIn s n = false := by
  intro n
  induction n with
  | zero => intro h; omega
  | succ n ih =>
    intro h
    rcases Nat.lt_or_ge k n with h2 | h2
    · simp [allIn, ih h2]
    · obtain rfl : k = n := by omega
      simp [allIn, hk]
set_option maxRecDepth 100000 in
set_option maxHeartbeats 1000000 in
theorem name_prog (s : ByteArray) (w : World) (hs : s.size ≤ 1000000000000000) :
    Calls Tryd.prog 22 #[.string s] w fun e w' => e = .returned (.bool (nameR s)) ∧ w = w' := by
  by_cases h1 : s.size < 1
  · have D := Lib.hid (show nameR s = false by rw [nameR, decide_eq_false (by omega)]; rfl)
    have t1 : decide (s.size < 1) = true := decide_eq_true h1
    go_enter Tryd.func22, Tryd.ntmps22
    go_wp2_with fail
    go_ret
    exact ⟨by rw [D.out]; rfl, rfl⟩
  by_cases h2 : 64 < s.size
  · have D := Lib.hid (show nameR s = false by rw [nameR, decide_eq_false (by omega)]; rfl)
    have t1 : decide (s.size < 1) = false := decide_eq_false h1
    have t2 : decide (64 < s.size) = true := decide_eq_true h2
    go_enter Tryd.func22, Tryd.ntmps22
    go_wp2_with fail
    go_ret
    exact ⟨by rw [D.out]; rfl, rfl⟩
  have t1 : decide (s.size < 1) = false := decide_eq_false h1
  have t2 : decide (64 < s.size) = false := decide_eq_false h2
  have hp : 0 < s.size := by omega
  have hx0 : (s[0]).toNat = B s 0 := B_at s 0 hp
  have hsz : decide (1 ≤ s.size ∧ s.size ≤ 64) = true := decide_eq_true (by omega)
  have S0 := small_prog (B s 0) w
  cases h3 : smallB (B s 0) with
  | false =>
    rw [h3] at S0
    have S := Lib.hid S0
    have D := Lib.hid (show nameR s = false by rw [nameR, h3]; simp)
    clear S0 h3 hsz
    go_enter Tryd.func22, Tryd.ntmps22
    go_wp2_with fail
    refine S.out.mono ?_
    rintro e w1 ⟨rfl, rfl⟩
    go_wp2_with fail
    go_ret
    exact ⟨by rw [D.out]; rfl, rfl⟩
  | true =>
    rw [h3] at S0
    have S := Lib.hid S0
    have D := Lib.hid (show nameR s = allIn s s.size by rw [nameR, h3, hsz]; simp)
    clear S0 h3 hsz
    go_enter Tryd.func22, Tryd.ntmps22
    go_wp2_with fail
    refine S.out.mono ?_
    rintro e w1 ⟨rfl, rfl⟩
    go_wp2_with fail
    go_loop [20] (fun v => ∃ k : Nat, k ≤ s.size ∧ v = .int .i64 k ∧ allIn s k = true) (fun v => s.size - (intOf v).toNat)
    case atStart => exact ⟨0, by omega, by go_num, rfl⟩
    case round =>
      obtain ⟨k, hk, rfl, hn⟩ := hrel
      by_cases hlt : k < s.size
      · have hxk : (s[k]).toNat = B s k := B_at s k hlt
        have I0 := in_prog (B s k) w
        cases hb : inB (B s k) with
        | false =>
          rw [hb] at I0
          have I := Lib.hid I0
          have D2 := Lib.hid (all_bad s k hb s.size hlt)
          clear I0 hb hn
          go_wp2_with fail
          refine I.out.mono ?_
          rintro e w1 ⟨rfl, rfl⟩
          go_wp2_with fail
          go_ret
          exact ⟨by rw [D.out, D2.out]; rfl, rfl⟩
        | true =>
          rw [hb] at I0
          have I := Lib.hid I0
          have D2 := Lib.hid ((all_step s k hb).trans hn)
          clear I0 hb hn
          go_wp2_with fail
          refine I.out.mono ?_
          rintro e w1 ⟨rfl, rfl⟩
          go_wp2_with fail
          go_round
          case rel => exact ⟨k + 1, by omega, by go_num, D2.out⟩
          case measure => simp [intOf]; omega
      · obtain rfl : k = s.size := by omega
        have D2 := Lib.hid hn
        clear hn
        go_wp2_with fail
        go_ret
        exact ⟨by rw [D.out, D2.out]; rfl, rfl⟩

/-- What a program that does something answers. -/
theorem a_small : nameR ⟨#[97]⟩ = true := by decide +kernel
theorem cells_new (w : World) (T : TypeId) : (w.alloc (.cells #[.int .i64 0, .map none] T)).cell? ⟨w.heap.size, 0, none⟩ = some (.int .i64 0) ∧ (w.alloc (.cells #[.int .i64 0, .map none] T)).cell? ⟨w.heap.size, 1, none⟩ = some (.map none) ∧ ∀ k, (w.alloc (.cells #[.int .i64 0, .map none] T)).frozen? ⟨w.heap.size, k, none⟩ = false :=
  ⟨World.cell?_alloc_at _ _ _ _ rfl, World.cell?_alloc_at _ _ _ _ rfl, fun _ => World.frozen?_alloc_at _ _ _ _ rfl⟩
set_option maxRecDepth 100000 in
set_option maxHeartbeats 1000000 in
theorem awake_true (w : World) (hT : Lib.Utf8Tabs 0 1 w) :
    Calls Tryd.prog 15 #[] w fun e w' => e = .returned (.bool true) ∧ Below w.heap.size w w' := by
  have N : ∀ W, Calls Tryd.prog 22 #[.string ⟨#[97]⟩] W fun e w' => e = .returned (.bool true) ∧ W = w' := fun W => by
    have := name_prog ⟨#[97]⟩ W (by decide)
    rw [a_small] at this
    exact this
  have NP := Lib.hid (new_prog w)
  have C := cells_new w 52
  have HB := Lib.hid ((Below.refl w.heap.size w).alloc (Nat.le_refl _) (.cells #[.int .i64 0, .map none] 52))
  have PP := Lib.hid (put_prog (w.alloc (.cells #[.int .i64 0, .map none] 52)) w.heap.size C.1 C.2.1 C.2.2 (by simp) (tabs_below hT HB.out) N)
  have GP := Lib.hid get_prog
  have RP := Lib.hid rev_prog
  clear N C hT
  go_enter Tryd.func15, Tryd.ntmps15
  go_wp2_with fail
  refine NP.out.mono ?_
  rintro e w1 ⟨rfl, rfl⟩
  go_wp2_with fail
  refine PP.out.mono ?_
  rintro e w2 ⟨rfl, R, x0, x1, x2, xb⟩
  have HB2 := Lib.hid (HB.out.trans (xb w.heap.size (Nat.le_refl _)))
  have GG := Lib.hid (GP.out w2 _ _ x1 x2)
  clear x2 xb
  go_wp2_with fail
  refine GG.out.mono ?_
  rintro e w3 ⟨rfl, hb3⟩
  have HB3 := Lib.hid (HB2.out.trans (hb3.mono HB2.out.size))
  have y0 := cell_later hb3 x0
  have HB4 := Lib.hid (HB3.out.alloc HB3.out.size (.cells #[.string ⟨#[97]⟩, .string ⟨#[120]⟩, .int .i64 1] 45))
  have y1 := cell_later ((Below.refl w3.heap.size w3).alloc (Nat.le_refl _) (.cells #[.string ⟨#[97]⟩, .string ⟨#[120]⟩, .int .i64 1] 45)) y0
  have RR := Lib.hid (RP.out _ _ y1)
  clear x0 x1 hb3 y0 y1
  simp only [fileV]
  go_wp2_with fail
  refine RR.out.mono ?_
  rintro e w5 ⟨rfl, hb5⟩
  have HB5 := Lib.hid (HB4.out.trans (hb5.mono HB4.out.size))
  clear hb5
  go_wp2_with fail
  go_ret
  exact ⟨rfl, HB5.out⟩
end Go.Proofs.YtlgklkokadbpeaaDoor
