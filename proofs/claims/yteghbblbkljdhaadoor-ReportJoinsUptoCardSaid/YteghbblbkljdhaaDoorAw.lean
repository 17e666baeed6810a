import Derived.Test.YteghbblbkljdhaaDoorLr
import Derived.Deep.RegionHeld3
namespace Go.Proofs.YteghbblbkljdhaaDoor
open Go.RowKit

theorem line_prog (f t s : ByteArray) (a c : Int) (w : World) (hs : s.size ≤ 1000000000000) (hf : f.size ≤ 1000000000000000) (ht : t.size ≤ 1000000000000000) (hS : HasSaid w) (hT : Tab10 w) :
    Calls Tryd.prog 24 #[.agg #[.string f, .int .i64 a, .int .i64 c, .string t], .string s] w fun e w' => e = .returned (.string ⟨(lineL f.data.toList t.data.toList a c s).toArray⟩) ∧ Below w.heap.size w w' := by
  by_cases te : t.data.toList = []
  · by_cases h : a < 0 ∨ s.size < a
    · exact line_out_e f t s a c w hs hf ht hS h te
    · obtain ⟨n, rfl⟩ : ∃ n : Nat, a = n := ⟨a.toNat, by omega⟩
      exact line_in_e f t s n c w hs hf ht hS hT (by omega) te
  · by_cases h : a < 0 ∨ s.size < a
    · exact line_out_t f t s a c w hs hf ht hS h te
    · obtain ⟨n, rfl⟩ : ∃ n : Nat, a = n := ⟨a.toNat, by omega⟩
      exact line_in_t f t s n c w hs hf ht hS hT (by omega) te
theorem line_ref (f t s : ByteArray) (a c : Int) (w : World) (hs : s.size ≤ 1000000000000) (hf : f.size ≤ 1000000000000000) (ht : t.size ≤ 1000000000000000) (hT : Tab10 w) :
    Calls Tryd.prog 25 #[.agg #[.string f, .int .i64 a, .int .i64 c, .string t], .string s] w fun e w' => e = .returned (.string ⟨(lineL f.data.toList t.data.toList a c s).toArray⟩) ∧ Below w.heap.size w w' := by
  by_cases te : t.data.toList = []
  · by_cases h : a < 0 ∨ s.size < a
    · exact lineR_out_e f t s a c w hs hf ht h te
    · obtain ⟨n, rfl⟩ : ∃ n : Nat, a = n := ⟨a.toNat, by omega⟩
      exact lineR_in_e f t s n c w hs hf ht hT (by omega) te
  · by_cases h : a < 0 ∨ s.size < a
    · exact lineR_out_t f t s a c w hs hf ht h te
    · obtain ⟨n, rfl⟩ : ∃ n : Nat, a = n := ⟨a.toNat, by omega⟩
      exact lineR_in_t f t s n c w hs hf ht hT (by omega) te
theorem awake_line : lineL [97] [] 2 24 ⟨#[120, 10, 121]⟩ = [97, 58, 50, 58, 49, 58, 32, 100, 111, 101, 115, 32, 110, 111, 116, 32, 102, 105, 116] := by decide +kernel
theorem awake_a (w2 : World) (h1 : HasSaid w2) (h2 : Tab10 w2) : Calls Tryd.prog 24 #[.agg #[.string ⟨#[97]⟩, .int .i64 2, .int .i64 24, .string ⟨#[]⟩], .string ⟨#[120, 10, 121]⟩] w2 fun e w' => e = .returned (.string ⟨#[97, 58, 50, 58, 49, 58, 32, 100, 111, 101, 115, 32, 110, 111, 116, 32, 102, 105, 116]⟩) ∧ Below w2.heap.size w2 w' :=
  (line_prog ⟨#[97]⟩ ⟨#[]⟩ ⟨#[120, 10, 121]⟩ 2 24 w2 (by decide) (by decide) (by decide) h1 h2).mono fun e w' ⟨he, hb⟩ => ⟨he.trans (congrArg (fun l => Ending.returned (.string ⟨List.toArray l⟩)) awake_line), hb⟩
theorem words_one : wordsL 1 = [115, 121, 110, 116, 97, 120] := rfl
set_option maxRecDepth 100000 in
set_option maxHeartbeats 1000000 in
theorem awake_true (w : World) (hS : HasSaid w) (hT : Tab10 w) :
    Calls Tryd.prog 23 #[] w fun e w' => e = .returned (.bool true) ∧ Below w.heap.size w w' := by
  have A := Lib.hid (awake_a)
  have HS := Lib.hid (fun w2 => said_below (w' := w2) hS)
  have HT := Lib.hid (fun w2 => tab_below (w' := w2) hT)
  have HB := Lib.hid (Below.refl w.heap.size w)
  clear hS hT
  go_enter Tryd.func23, Tryd.ntmps23
  go_wp2_with fail
  refine (A.out _ (HS.out _ HB.out) (HT.out _ HB.out)).mono ?_
  rintro e w2 ⟨rfl, hb2⟩
  have HB2 := Lib.hid (below_step HB.out hb2)
  go_wp2_with fail
  refine (words_prog 1 _ (HS.out _ HB2.out)).mono ?_
  rintro e w3 ⟨rfl, rfl⟩
  rw [words_one]
  go_wp2_with fail
  go_ret
  exact ⟨rfl, HB2.out⟩

theorem keep1 (w w3 : World) (v0 v1 v2 v3 : Value) (T : TypeId) (h : Below w.heap.size w w3) (hb : Below (w.alloc (.cells #[v0, v1, v2, v3] T)).heap.size (w.alloc (.cells #[v0, v1, v2, v3] T)) w3) :
    BD w w3.drew ∧ w3.drew.cell? ⟨w.heap.size, 0, none⟩ = some v0 ∧ w3.drew.cell? ⟨w.heap.size, 1, none⟩ = some v1 ∧ w3.drew.cell? ⟨w.heap.size, 2, none⟩ = some v2 ∧ w3.drew.cell? ⟨w.heap.size, 3, none⟩ = some v3 :=
  ⟨Below.drew h, diag_cells w _ v0 v1 v2 v3 T (Below.drew hb)⟩
set_option maxRecDepth 100000 in
set_option maxHeartbeats 2000000 in
theorem lines_walk (f t s : ByteArray) (a c code : Int) (w : World) (hS : HasSaid w) (hT : Tab10 w) (hf : f.size ≤ 1000000000000000) (ht : t.size ≤ 1000000000000000) :
    Calls Tryd.prog 7 #[.agg #[.string f, .int .i64 a, .int .i64 c, .string t], .string s, .int .i64 code] w fun e w' => e = .returned (.bool true) ∧ Below w.heap.size w w' := by
  have AW := Lib.hid (fun w1 hb => awake_true w1 (said_below (w' := w1) hS hb) (tab_below hT hb))
  have HB := Lib.hid ((Below.refl w.heap.size w).alloc (Nat.le_refl _) (.cells #[.string f, .int .i64 a, .int .i64 c, .string t] 55))
  by_cases hs : 100000 < s.size
  · have t1 : decide ((100000 : Int) < (s.size : Int)) = true := by simp; omega
    clear hS hT
    go_enter Tryd.func7, Tryd.ntmps7
    go_wp2_with fail
    refine (AW.out _ HB.out).mono ?_
    rintro e w1 ⟨rfl, hb1⟩
    go_wp2_with fail
    have HB1 := Lib.hid (below_step HB.out hb1)
    refine (AW.out _ HB1.out).mono ?_
    rintro e w2 ⟨rfl, hb2⟩
    go_wp2_with fail
    go_ret
    exact ⟨rfl, below_step HB1.out hb2⟩
  · have t1 : decide ((100000 : Int) < (s.size : Int)) = false := by simp; omega
    have LP := Lib.hid (fun w1 hb => line_prog f t s a c w1 (by omega) hf ht (said_below (w' := w1) hS hb) (tab_below hT hb))
    have LR := Lib.hid (fun w1 hb => line_ref f t s a c w1 (by omega) hf ht (tab_below (w' := w1) hT hb))
    have HS := Lib.hid (fun w2 => said_below (w' := w2) hS)
    clear hS hT
    go_enter Tryd.func7, Tryd.ntmps7
    go_wp2_with fail
    refine (AW.out _ HB.out).mono ?_
    rintro e w1 ⟨rfl, hb1⟩
    have B0 := keep1 _ w1 _ _ _ _ _ (below_step HB.out hb1) hb1
    have WP := Lib.hid (fun q w2 (hb : Below w.heap.size w w2) => words_prog q w2 (HS.out w2 hb))
    clear hb1
    go_wp2_with fail
    go_region_held3 (fun w' => BD w w' ∧ w'.cell? ⟨w.heap.size, 0, none⟩ = some (.string f) ∧ w'.cell? ⟨w.heap.size, 1, none⟩ = some (.int .i64 a) ∧ w'.cell? ⟨w.heap.size, 2, none⟩ = some (.int .i64 c) ∧ w'.cell? ⟨w.heap.size, 3, none⟩ = some (.string t)) (first | exact B0 | assumption | exact keepA (by assumption) (by assumption) | exact keepA (by assumption) ⟨by assumption, by assumption, by assumption, by assumption, by assumption⟩) (first
      | (go_at_call 24; refine (LP.out _ ?_).mono ?_; (show BD _ _; first | assumption | exact And.left (by assumption)); rintro e w' ⟨rfl, hb⟩)
      | (go_at_call 25; refine (LR.out _ ?_).mono ?_; (show BD _ _; first | assumption | exact And.left (by assumption)); rintro e w' ⟨rfl, hb⟩)
      | (go_at_call 26; refine (WP.out _ _ ?_).mono ?_; (show BD _ _; first | assumption | exact And.left (by assumption)); rintro e w' ⟨rfl, rfl⟩)
      | (go_at_call 27; refine (words_ref _ _).mono ?_; rintro e w' ⟨rfl, rfl⟩))
    rename_i hS
    obtain ⟨b3, k0, k1, k2, k3⟩ := hS
    have HB3 := Lib.hid b3
    clear b3 hb B0
    go_wp2_with fail
    go_ret
    exact ⟨rfl, HB3.out⟩
end Go.Proofs.YteghbblbkljdhaaDoor
