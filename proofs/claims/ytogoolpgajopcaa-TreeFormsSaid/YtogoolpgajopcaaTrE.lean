import Derived.Test.YtogoolpgajopcaaTrD
namespace Go.Proofs.Ytogoolpgajopcaa
open Go.RowKit
def numberS : ByteArray := ⟨#[110, 117, 109, 98, 101, 114]⟩
def nullS : ByteArray := ⟨#[110, 117, 108, 108]⟩
set_option maxRecDepth 100000 in
set_option maxHeartbeats 2000000 in
theorem word_prog (t : ByteArray) (w : World) (ht : t = numberS ∨ t = nullS) : Calls Try.prog 66 #[.string t] w fun e w' => e = .returned (.bool true) ∧ w = w' := by
  rcases ht with rfl | rfl
  all_goals
    try unfold numberS
    try unfold nullS
    go_enter Try.func66, Try.ntmps66
    go_wp2_with fail
    go_ret
    exact ⟨rfl, rfl⟩
theorem plain_prog (k : Int) (t : ByteArray) (a : Int) (l : Nat) (A : Option Addr) (c : Nat) (w : World) : Calls Try.prog 30 #[.agg #[.int .i64 k, .string t, .int .i64 0, .int .i64 0, .int .i64 a, .slice A l c]] w fun e w' => e = .returned (.bool true) ∧ Below w.heap.size w w' := by
  go_enter Try.func30, Try.ntmps30
  go_wp2_with fail
  go_ret
  exact ⟨rfl, (Below.refl _ _).alloc (Nat.le_refl _) _⟩
theorem notext_prog (k n m a : Int) (l : Nat) (A : Option Addr) (c : Nat) (w : World) : Calls Try.prog 29 #[.agg #[.int .i64 k, .string ⟨#[]⟩, .int .i64 n, .int .i64 m, .int .i64 a, .slice A l c]] w fun e w' => e = .returned (.bool true) ∧ Below w.heap.size w w' := by
  go_enter Try.func29, Try.ntmps29
  go_wp2_with fail
  go_ret
  exact ⟨rfl, (Below.refl _ _).alloc (Nat.le_refl _) _⟩
theorem bare_prog (k a : Int) (l : Nat) (A : Option Addr) (c : Nat) (w : World) : Calls Try.prog 32 #[.agg #[.int .i64 k, .string ⟨#[]⟩, .int .i64 0, .int .i64 0, .int .i64 a, .slice A l c]] w fun e w' => e = .returned (.bool true) ∧ Below w.heap.size w w' := by
  have K1 := Lib.hid (fun W => plain_prog k ⟨#[]⟩ a l A c W)
  have K2 := Lib.hid (fun W => notext_prog k 0 0 a l A c W)
  go_enter Try.func32, Try.ntmps32
  go_wp2_with fail
  refine (K1.out _).mono ?_
  rintro e w1 ⟨rfl, hb1⟩
  have c0 := box_cells hb1 0
  have c1 := box_cells hb1 1
  have c2 := box_cells hb1 2
  have c3 := box_cells hb1 3
  have c4 := box_cells hb1 4
  have c5 := box_cells hb1 5
  have HB := Lib.hid (below_box hb1)
  clear hb1
  simp at c0 c1 c2 c3 c4 c5
  go_wp2_with fail
  refine (K2.out _).mono ?_
  rintro e w2 ⟨rfl, hb2⟩
  go_wp2_with fail
  go_ret
  exact ⟨rfl, below_step HB.out hb2⟩
theorem tname_prog (k a : Int) (t : ByteArray) (A : Option Addr) (c : Nat) (w : World) (ht : t = numberS ∨ t = nullS) : Calls Try.prog 28 #[.agg #[.int .i64 k, .string t, .int .i64 0, .int .i64 0, .int .i64 a, .slice A 0 c]] w fun e w' => e = .returned (.bool true) ∧ Below w.heap.size w w' := by
  have K0 := Lib.hid (fun W => word_prog t W ht)
  have K1 := Lib.hid (fun W => plain_prog k t a 0 A c W)
  clear ht
  go_enter Try.func28, Try.ntmps28
  go_wp2_with fail
  refine (K0.out _).mono ?_
  rintro e w1 ⟨rfl, rfl⟩
  go_wp2_with fail
  refine (K1.out _).mono ?_
  rintro e w1 ⟨rfl, hb1⟩
  have c5 := box_cells hb1 5
  have HB := Lib.hid (below_box hb1)
  clear hb1
  simp at c5
  go_wp2_with fail
  go_ret
  exact ⟨rfl, HB.out⟩
set_option maxRecDepth 100000 in
set_option maxHeartbeats 2000000 in
theorem tleaf_prog (a : Int) (t : ByteArray) (A : Option Addr) (c : Nat) (w : World) (ht : t = numberS ∨ t = nullS) : Calls Try.prog 11 #[.agg #[.int .i64 1, .string t, .int .i64 0, .int .i64 0, .int .i64 a, .slice A 0 c]] w fun e w' => e = .returned (.bool true) ∧ Below w.heap.size w w' := by
  have K0 := Lib.hid (fun W => tname_prog 1 a t A c W ht)
  clear ht
  go_enter Try.func11, Try.ntmps11
  go_wp2_with fail
  refine (K0.out _).mono ?_
  rintro e w1 ⟨rfl, hb1⟩
  have HB := Lib.hid (below_box hb1)
  clear hb1
  go_wp2_with fail
  go_ret
  exact ⟨rfl, HB.out⟩
def leafs : Fo → Prop
  | .nil => True
  | .cons k t n m _ P R => k = 1 ∧ (t = numberS ∨ t = nullS) ∧ n = 0 ∧ m = 0 ∧ P = .nil ∧ leafs R
set_option maxHeartbeats 2000000 in
theorem uall_prog (P : Fo) (A : Option Addr) (c : Nat) (w : World) (hL : leafs P) (hH : Holds w w.heap.size P A 0) (hl : P.len ≤ 1000000000000000) : Calls Try.prog 34 #[.slice A P.len c, .func (.func 11) #[] #[]] w fun e w' => e = .returned (.bool true) ∧ Below w.heap.size w w' := by
  have HL := Lib.hid hL
  have HH := Lib.hid hH
  clear hL hH
  go_enter Try.func34, Try.ntmps34
  go_wp2_with fail
  go_loopw [6, 9] (fun _ i wr => ∃ (j : Nat) (R : Fo), j + R.len = P.len ∧ i = .int .i64 j ∧ leafs R ∧ Holds wr w.heap.size R A j ∧ Below w.heap.size w wr) (fun _ i _ => P.len - (intOf i).toNat)
  case atStart => exact ⟨0, P, by omega, by go_num, HL.out, HH.out, Below.refl _ _⟩
  case round =>
    obtain ⟨j, R, hj, rfl, hlf, hHr, hB⟩ := hrel
    have HBw := Lib.hid hB
    clear hB
    cases R with
    | nil =>
      have tj : decide ((j : Int) < (P.len : Int)) = false := by simp; simp [Fo.len] at hj; omega
      have tj2 : decide (j < P.len) = false := by simp; simp [Fo.len] at hj; omega
      clear hj hlf hHr
      go_wp2_with fail
      go_ret
      exact ⟨rfl, HBw.out⟩
    | cons k1 t1 n1 m1 a1 P1 R1 =>
      obtain ⟨⟨ad, A1, c1, rfl, hblk, hcell, hc1, hc2, ht1, hP1⟩, hR1⟩ := hHr
      obtain ⟨rfl, htw, rfl, rfl, rfl, hlf⟩ := hlf
      have hjl : j + 1 + R1.len = P.len := by simp only [Fo.len] at hj; omega
      have hjl2 : j < P.len := by omega
      obtain ⟨f0, f1, f2, f3, f4, f5⟩ := six hcell
      simp only [Fo.len] at f5
      have K := Lib.hid (fun W => tleaf_prog a1 t1 A1 c1 W htw)
      have HR1 := Lib.hid hR1
      have HLF := Lib.hid hlf
      clear hcell hR1 hlf hj hP1 htw
      go_wp2_with fail
      refine (K.out _).mono ?_
      rintro e w2 ⟨rfl, hb⟩
      have HB3 := Lib.hid (((Below.refl wr.heap.size wr).alloc (Nat.le_refl _) _).trans (hb.mono (by simp)))
      have HH2 := Lib.hid (HR1.out.below (HB3.out.mono HBw.out.size))
      clear hb
      go_wp2_with fail
      go_roundw
      case rel => exact ⟨j + 1, R1, hjl, by go_num, HLF.out, HH2.out, below_step HBw.out HB3.out⟩
      case measure => simp [intOf]; omega
def PU : Fo := .cons 1 numberS 0 0 0 .nil (.cons 1 nullS 0 0 0 .nil .nil)
theorem PU_leafs : leafs PU := ⟨rfl, .inl rfl, rfl, rfl, rfl, rfl, .inr rfl, rfl, rfl, rfl, trivial⟩
set_option maxRecDepth 100000 in
set_option maxHeartbeats 2000000 in
theorem utype_prog (A : Option Addr) (c : Nat) (w : World) (hH : Holds w w.heap.size PU A 0) : Calls Try.prog 11 #[.agg #[.int .i64 9, .string ⟨#[]⟩, .int .i64 0, .int .i64 0, .int .i64 0, .slice A 2 c]] w fun e w' => e = .returned (.bool true) ∧ Below w.heap.size w w' := by
  have K0 := Lib.hid (fun W => bare_prog 9 0 2 A c W)
  have KA := Lib.hid (fun W (hW : Below w.heap.size w W) => uall_prog PU A c W PU_leafs ((hH.below hW).more hW.size) (by decide))
  rw [show PU.len = 2 from rfl] at KA
  clear hH
  go_enter Try.func11, Try.ntmps11
  go_wp2_with fail
  refine (K0.out _).mono ?_
  rintro e w1 ⟨rfl, hb1⟩
  have c5 := box_cells hb1 5
  have HB := Lib.hid (below_box hb1)
  clear hb1
  simp at c5
  go_wp2_with fail
  refine (KA.out _ HB.out).mono ?_
  rintro e w2 ⟨rfl, hb2⟩
  go_wp2_with fail
  go_ret
  exact ⟨rfl, below_step HB.out hb2⟩
set_option maxRecDepth 100000 in
set_option maxHeartbeats 2000000 in
theorem uexpr_prog (A : Option Addr) (c : Nat) (w : World) : Calls Try.prog 13 #[.agg #[.int .i64 9, .string ⟨#[]⟩, .int .i64 0, .int .i64 0, .int .i64 0, .slice A 2 c]] w fun e w' => e = .returned (.bool false) ∧ Below w.heap.size w w' := by
  go_enter Try.func13, Try.ntmps13
  go_wp2_with fail
  go_ret
  exact ⟨rfl, (Below.refl _ _).alloc (Nat.le_refl _) _⟩
end Go.Proofs.Ytogoolpgajopcaa
