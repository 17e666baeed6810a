import Derived.Test.YtogoolpgajopcaaTrRa
namespace Go.Proofs.Ytogoolpgajopcaa
open Go.RowKit
/-- A contract of a function of one node that looks at nothing but its cells. -/
def Flat (f : Nat) (b : Bool) (k : Int) (t : ByteArray) (n m a : Int) (l : Nat) (A : Option Addr) (c : Nat) : Prop := ∀ w : World, Calls Try.prog f #[.agg #[.int .i64 k, .string t, .int .i64 n, .int .i64 m, .int .i64 a, .slice A l c]] w fun e w' => e = .returned (.bool b) ∧ Below w.heap.size w w'
theorem plain_any (k : Int) (t : ByteArray) (n m a : Int) (l : Nat) (A : Option Addr) (c : Nat) : Flat 30 (plainB n m) k t n m a l A c := by
  intro w
  obtain ⟨y, hy⟩ : ∃ y, plainB n m = y := ⟨_, rfl⟩
  rw [hy]
  have HY := Lib.hid hy
  clear hy
  go_enter Try.func30, Try.ntmps30
  go_wp2_with fail
  all_goals
    go_ret
    refine ⟨ret_bool ?_, (Below.refl _ _).alloc (Nat.le_refl _) _⟩
    rw [← HY.out]
    simp [plainB, *]
theorem notext_any (k : Int) (t : ByteArray) (n m a : Int) (l : Nat) (A : Option Addr) (c : Nat) : Flat 29 (emptyB t) k t n m a l A c := by
  intro w
  obtain ⟨y, hy⟩ : ∃ y, emptyB t = y := ⟨_, rfl⟩
  rw [hy]
  have HY := Lib.hid hy
  clear hy
  go_enter Try.func29, Try.ntmps29
  go_wp2_with fail
  all_goals
    go_ret
    refine ⟨ret_bool ?_, (Below.refl _ _).alloc (Nat.le_refl _) _⟩
    rw [← HY.out]
    simp [emptyB, *]
theorem bare_any (k : Int) (t : ByteArray) (n m a : Int) (l : Nat) (A : Option Addr) (c : Nat) : Flat 32 (bareB t n m) k t n m a l A c := by
  intro w
  have K1 := Lib.hid (plain_any k t n m a l A c)
  have K2 := Lib.hid (notext_any k t n m a l A c)
  unfold Flat at K1 K2
  unfold bareB
  generalize plainB n m = b1 at *
  generalize emptyB t = b2 at *
  go_enter Try.func32, Try.ntmps32
  go_wp2_with (first
    | (go_at_call 30; refine (K1.out _).mono ?_; rintro e w1 ⟨rfl, hb⟩; have bx := Box.later (by first | assumption | exact Box.new _ _ _ _ _ _ _ _ _) hb; have bx2 := bx; obtain ⟨-, -, c0, c1, c2, c3, c4, c5⟩ := bx2)
    | (go_at_call 29; refine (K2.out _).mono ?_; rintro e w1 ⟨rfl, hb⟩; have bx := Box.later (by first | assumption | exact Box.new _ _ _ _ _ _ _ _ _) hb; have bx2 := bx; obtain ⟨-, -, c0, c1, c2, c3, c4, c5⟩ := bx2))
  all_goals
    go_ret
    refine ⟨ret_bool ?_, Box.below (by assumption)⟩
    simp [*]
theorem isname_any (k : Int) (t : ByteArray) (n m a : Int) (l : Nat) (A : Option Addr) (c : Nat) (ht : t.size ≤ 1000000000000000) : Flat 31 (idB t) k t n m a l A c := by
  intro w
  have K1 := Lib.hid (fun W => isname_prog t W ht)
  generalize idB t = b1 at *
  go_enter Try.func31, Try.ntmps31
  go_wp2_with (first
    | (go_at_call 68; refine (K1.out _).mono ?_; rintro e w1 ⟨rfl, hb⟩; have bx := Box.later (by first | assumption | exact Box.new _ _ _ _ _ _ _ _ _) hb; have bx2 := bx; obtain ⟨-, -, c0, c1, c2, c3, c4, c5⟩ := bx2))
  all_goals
    go_ret
    refine ⟨ret_bool ?_, (by first | exact Box.below (by assumption) | exact (Below.refl _ _).alloc (Nat.le_refl _) _)⟩
    rfl
theorem flags_any (k : Int) (t : ByteArray) (n m a : Int) (l : Nat) (A : Option Addr) (c : Nat) : Flat 37 (flagsB n m) k t n m a l A c := by
  intro w
  obtain ⟨y, hy⟩ : ∃ y, flagsB n m = y := ⟨_, rfl⟩
  rw [hy]
  have HY := Lib.hid hy
  clear hy
  go_enter Try.func37, Try.ntmps37
  go_wp2_with fail
  all_goals
    go_ret
    refine ⟨ret_bool ?_, (by first | exact Box.below (by assumption) | exact (Below.refl _ _).alloc (Nat.le_refl _) _)⟩
    rw [← HY.out]; simp [flagsB, *]; try omega
theorem types_any (P : Fo) (hall : AllC (FunP 11 (·.ty)) P) (j : Nat) (q : Int) (hq : q = (j : Int)) (k : Int) (t : ByteArray) (n m a : Int) (A : Option Addr) (c : Nat) (w : World) (hH : Holds w w.heap.size P A 0) (hl : P.len ≤ 1000000000000000) :
    Calls Try.prog 33 #[.agg #[.int .i64 k, .string t, .int .i64 n, .int .i64 m, .int .i64 a, .slice A P.len c], .int .i64 q] w fun e w' => e = .returned (.bool (typesB P.inf j)) ∧ Below w.heap.size w w' := by
  have K1 := Lib.hid (fun W (hW : Below w.heap.size w W) => all_Type (·.ty) P hall A c W ((hH.below hW).more hW.size) hl)
  have hL := inf_len P
  obtain ⟨y, hy⟩ : ∃ y, typesB P.inf j = y := ⟨_, rfl⟩
  rw [hy]
  unfold typesB lenB at hy
  rw [hL] at hy
  generalize P.inf.all (·.ty) = b1 at *
  generalize P.len = x at *
  clear hH hall hL
  by_cases h1 : x = j
  · have t1 : (((x : Nat) : Int) == q) = true := by subst hq; simp [h1]
    have HY : Hid (b1 = y) := Lib.hid (by rw [← hy]; simp [h1])
    clear hy hq h1
    go_enter Try.func33, Try.ntmps33
    go_wp2_with (first
      | (go_at_call 34; refine (K1.out _ (by first | exact Box.below (by assumption) | exact (Below.refl _ _).alloc (Nat.le_refl _) _)).mono ?_; rintro e w1 ⟨rfl, hb⟩; have bx := Box.later (by first | assumption | exact Box.new _ _ _ _ _ _ _ _ _) hb; have bx2 := bx; obtain ⟨-, -, c0, c1, c2, c3, c4, c5⟩ := bx2))
    all_goals
      go_ret
      refine ⟨ret_bool ?_, (by first | exact Box.below (by assumption) | exact (Below.refl _ _).alloc (Nat.le_refl _) _)⟩
      exact HY.out
  · have t1 : (((x : Nat) : Int) == q) = false := by subst hq; simp; omega
    have HY : Hid (false = y) := Lib.hid (by rw [← hy]; simp [h1])
    clear hy hq h1
    go_enter Try.func33, Try.ntmps33
    go_wp2_with fail
    all_goals
      go_ret
      refine ⟨ret_bool ?_, (by first | exact Box.below (by assumption) | exact (Below.refl _ _).alloc (Nat.le_refl _) _)⟩
      exact HY.out
end Go.Proofs.Ytogoolpgajopcaa
