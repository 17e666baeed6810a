import Derived.Test.YtogoolpgajopcaaTrK
import Derived.Test.YtogoolpgajopcaaTrF
namespace Go.Proofs.Ytogoolpgajopcaa
open Go.RowKit
set_option maxHeartbeats 1000000 in
theorem small_prog (k : Int) (t : ByteArray) (n m a : Int) (P : Fo) (A : Option Addr) (c : Nat) (w : World) (hH : Holds w w.heap.size P A 0) (hl : P.len ≤ 1000000000000000) :
    Calls Try.prog 10 #[val6 k t n m a P.len A c] w fun e w' => e = .returned (.bool (decide (1 + P.nodes ≤ 20000))) ∧ Below w.heap.size w w' := by
  have hH1 : Holds (w.alloc (.cells (cells6 k t n m a P.len A c).toArray 24)) (w.alloc (.cells (cells6 k t n m a P.len A c).toArray 24)).heap.size P A 0 := (hH.below ((Below.refl _ _).alloc (Nat.le_refl _) _)).more (by simp)
  have K := Lib.hid (nodes_ref P k t n m a A c _ hH1 hl)
  have hD : Hid (decide (((cap20 (1 + P.nodes) : Nat) : Int) ≤ 20000) = decide (1 + P.nodes ≤ 20000)) := Lib.hid (by
    rw [decide_eq_decide]; unfold cap20; split <;> omega)
  simp only [val6, cells6] at K ⊢
  clear hH hH1
  go_enter Try.func10, Try.ntmps10
  go_wp2_with fail
  refine K.out.mono ?_
  rintro e w2 ⟨rfl, hb2⟩
  generalize cap20 (1 + P.nodes) = y at *
  have HB := Lib.hid (below_box hb2)
  clear hb2
  go_wp2_with fail
  go_ret
  exact ⟨ret_bool hD.out, HB.out⟩
/-- Bared tells of these two true, in each later world. -/
structure GoodA (w : World) (v u : Value) : Prop where
  all : ∀ w', BD w w' → Calls Try.prog 24 #[v, u] w' fun e w'' => e = .returned (.bool true) ∧ Below w'.heap.size w' w''
theorem GoodA.call {w w' : World} {v u : Value} (h : GoodA w v u) (hb : BD w w') : Calls Try.prog 24 #[v, u] w' fun e w'' => e = .returned (.bool true) ∧ Below w'.heap.size w' w'' := h.all w' hb
set_option maxRecDepth 100000 in
set_option maxHeartbeats 4000000 in
theorem bare_walk (k : Int) (t : ByteArray) (n m a : Int) (P : Fo) (A : Option Addr) (c : Nat) (w : World) (hH : Holds w w.heap.size P A 0) (hl : P.len ≤ c) (hc : c ≤ 1000000000000000) :
    Calls Try.prog 6 #[val6 k t n m a P.len A c] w (LawPost w) := by
  have HH := Lib.hid hH
  have KA := Lib.hid (fun W => awake_true W)
  simp only [val6, cells6]
  clear hH
  go_enter Try.func6, Try.ntmps6
  go_wp2_with fail
  refine (KA.out _).mono ?_
  rintro e W1 ⟨rfl, hb1⟩
  have FN : Hid (∀ W', Below W1.heap.size W1 W' → W'.cell? ⟨w.heap.size, 0, none⟩ = some (.int .i64 k) ∧ W'.cell? ⟨w.heap.size, 1, none⟩ = some (.string t) ∧ W'.cell? ⟨w.heap.size, 2, none⟩ = some (.int .i64 n) ∧ W'.cell? ⟨w.heap.size, 3, none⟩ = some (.int .i64 m) ∧ W'.cell? ⟨w.heap.size, 4, none⟩ = some (.int .i64 a) ∧ W'.cell? ⟨w.heap.size, 5, none⟩ = some (.slice A P.len c)) := Lib.hid fun W' h => by
    have h2 := hb1.trans (h.mono hb1.size)
    exact ⟨box_cells h2 0, box_cells h2 1, box_cells h2 2, box_cells h2 3, box_cells h2 4, box_cells h2 5⟩
  have HB1 := Lib.hid (below_box hb1)
  have hs1 : w.heap.size + 1 ≤ W1.heap.size := by have := hb1.size; simp at this; omega
  obtain ⟨c0, c1, c2, c3, c4, c5⟩ := FN.out W1 (Below.refl _ _)
  have KSm := Lib.hid (small_prog k t n m a P A c W1 ((HH.out.below HB1.out).more HB1.out.size) (by omega))
  simp only [val6, cells6] at KSm
  clear hb1
  go_wp2_with fail
  refine KSm.out.mono ?_
  rintro e W2 ⟨rfl, hb2⟩
  have HB2 := Lib.hid (below_step HB1.out hb2)
  obtain ⟨d0, d1, d2, d3, d4, d5⟩ := FN.out W2 hb2
  have hs2 := hb2.size
  by_cases hN : 1 + P.nodes ≤ 20000
  case neg =>
    rw [decide_eq_false hN]
    clear hb2 c0 c1 c2 c3 c4 c5 KSm
    go_wp2_with fail
    refine (KA.out _).mono ?_
    rintro e W3 ⟨rfl, hb3⟩
    have HB3 := Lib.hid (below_step HB2.out hb3)
    clear hb3
    go_wp2_with fail
    go_ret
    exact ⟨rfl, HB3.out⟩
  rw [decide_eq_true hN]
  have KB := Lib.hid (bareN_prog P k t n m a A c W2 ((HH.out.below HB2.out).more HB2.out.size) hN)
  simp only [val6, cells6] at KB
  have HB12 := Lib.hid hb2
  have HN := Lib.hid hN
  clear hb2 c0 c1 c2 c3 c4 c5 KSm hN
  go_wp2_with fail
  refine KB.out.mono ?_
  rintro e W3 ⟨A1, rfl, hH3, hb3⟩
  have HB13 := Lib.hid (below_step HB12.out hb3)
  have HB3 := Lib.hid (below_step HB2.out hb3)
  have HH3 := Lib.hid hH3.holds
  have hs3 := hb3.size
  clear hb3 hH3 KB d0 d1 d2 d3 d4 d5
  go_wp2_with fail
  generalize hW4 : World.alloc W3 _ = W4
  have hs4 : W4.heap.size = W3.heap.size + 1 := by rw [← hW4]; simp
  have h34 : Below W3.heap.size W3 W4 := by rw [← hW4]; exact (Below.refl _ _).alloc (Nat.le_refl _) _
  have FA : Hid (∀ w', BD W4 w' → w'.cell? ⟨W3.heap.size, 0, none⟩ = some (.int .i64 k) ∧ w'.cell? ⟨W3.heap.size, 1, none⟩ = some (.string t) ∧ w'.cell? ⟨W3.heap.size, 2, none⟩ = some (.int .i64 n) ∧ w'.cell? ⟨W3.heap.size, 3, none⟩ = some (.int .i64 m) ∧ w'.cell? ⟨W3.heap.size, 4, none⟩ = some (.int .i64 0) ∧ w'.cell? ⟨W3.heap.size, 5, none⟩ = some (.slice A1 P.len P.len)) := Lib.hid (by
    subst hW4
    exact fun w' h => ⟨box_cells h 0, box_cells h 1, box_cells h 2, box_cells h 3, box_cells h 4, box_cells h 5⟩)
  have HB4 := Lib.hid (below_step HB3.out h34)
  have HB14 := Lib.hid (below_step HB13.out h34)
  have hN4 : Holds W4 W4.heap.size P A 0 := (HH.out.below HB4.out).more HB4.out.size
  have hA4 : Holds W4 W4.heap.size P.bare A1 0 := (HH3.out.below h34).more (by omega)
  have K1 := Lib.hid (fun (w' : World) (h : BD W4 w') => bared_ref P k t n m a A c A1 P.len w' ((hN4.below h).more h.size) (by omega) ((hA4.below h).more h.size))
  have K2 : Hid (∀ w', BD W4 w' → Calls Try.prog 23 #[val6 k t n m 0 P.len A1 P.len] w' fun e w'' => ∃ A2, e = .returned (val6 k t n m 0 P.len A2 P.len) ∧ GoodA w'' (val6 k t n m 0 P.len A2 P.len) (val6 k t n m a P.len A c) ∧ Below w'.heap.size w' w'') := Lib.hid (fun w' h => by
    have hb := bareN_prog P.bare k t n m 0 A1 P.len w' ((hA4.below h).more h.size) (by rw [bare_nodes]; exact HN.out)
    simp only [bare_len, bare_bare] at hb
    refine hb.mono ?_
    rintro e w'' ⟨A2, rfl, hH2, hb2⟩
    have h2 : BD W4 w'' := below_step h hb2
    exact ⟨A2, rfl, ⟨fun w3 h3 => bared_ref P k t n m a A c A2 P.len w3 ((hN4.below (below_step h2 h3)).more (below_step h2 h3).size) (by omega) ((hH2.holds.below h3).more h3.size)⟩, hb2⟩)
  have MK : Hid (∀ w', BD W4 w' → BD W4 w' ∧ w'.cell? ⟨w.heap.size, 0, none⟩ = some (.int .i64 k) ∧ w'.cell? ⟨w.heap.size, 1, none⟩ = some (.string t) ∧ w'.cell? ⟨w.heap.size, 2, none⟩ = some (.int .i64 n) ∧ w'.cell? ⟨w.heap.size, 3, none⟩ = some (.int .i64 m) ∧ w'.cell? ⟨w.heap.size, 4, none⟩ = some (.int .i64 a) ∧ w'.cell? ⟨w.heap.size, 5, none⟩ = some (.slice A P.len c) ∧ w'.cell? ⟨W3.heap.size, 0, none⟩ = some (.int .i64 k) ∧ w'.cell? ⟨W3.heap.size, 1, none⟩ = some (.string t) ∧ w'.cell? ⟨W3.heap.size, 2, none⟩ = some (.int .i64 n) ∧ w'.cell? ⟨W3.heap.size, 3, none⟩ = some (.int .i64 m) ∧ w'.cell? ⟨W3.heap.size, 4, none⟩ = some (.int .i64 0) ∧ w'.cell? ⟨W3.heap.size, 5, none⟩ = some (.slice A1 P.len P.len)) := Lib.hid (fun w' h => by
    obtain ⟨c0, c1, c2, c3, c4, c5⟩ := FN.out w' (below_step HB14.out h)
    obtain ⟨d0, d1, d2, d3, d4, d5⟩ := FA.out w' h
    exact ⟨h, c0, c1, c2, c3, c4, c5, d0, d1, d2, d3, d4, d5⟩)
  simp only [val6, cells6] at K1 K2
  have B0 := MK.out W4 (Below.refl _ _)
  clear hW4 h34 hN4 hA4 FN FA HH HH3 HN KA HB1 HB2 HB12 HB13 HB14 HB3 hs1 hs2 hs3 hs4
  go_region_held3 (fun w' => BD W4 w' ∧ w'.cell? ⟨w.heap.size, 0, none⟩ = some (.int .i64 k) ∧ w'.cell? ⟨w.heap.size, 1, none⟩ = some (.string t) ∧ w'.cell? ⟨w.heap.size, 2, none⟩ = some (.int .i64 n) ∧ w'.cell? ⟨w.heap.size, 3, none⟩ = some (.int .i64 m) ∧ w'.cell? ⟨w.heap.size, 4, none⟩ = some (.int .i64 a) ∧ w'.cell? ⟨w.heap.size, 5, none⟩ = some (.slice A P.len c) ∧ w'.cell? ⟨W3.heap.size, 0, none⟩ = some (.int .i64 k) ∧ w'.cell? ⟨W3.heap.size, 1, none⟩ = some (.string t) ∧ w'.cell? ⟨W3.heap.size, 2, none⟩ = some (.int .i64 n) ∧ w'.cell? ⟨W3.heap.size, 3, none⟩ = some (.int .i64 m) ∧ w'.cell? ⟨W3.heap.size, 4, none⟩ = some (.int .i64 0) ∧ w'.cell? ⟨W3.heap.size, 5, none⟩ = some (.slice A1 P.len P.len))
    (first | exact B0 | exact MK.out _ (Below.drew (Below.refl _ _)) | exact MK.out _ (by assumption) | exact MK.out _ (below_step (And.left (by assumption)) (by assumption)) | exact MK.out _ (below_step (by assumption) (by assumption)))
    (first
      | (go_at_call 24; refine (GoodA.call hg ?_).mono ?_; (first | exact Below.refl _ _ | exact Below.drew (Below.refl _ _) | assumption); rintro e w' ⟨rfl, hb⟩)
      | (go_at_call 24; refine (K1.out _ ?_).mono ?_; (first | exact And.left (by assumption) | assumption); rintro e w' ⟨rfl, hb⟩)
      | (go_at_call 23; refine (K2.out _ ?_).mono ?_; (first | exact And.left (by assumption) | assumption); rintro e w' ⟨A2, rfl, hg, hb⟩))
  rename_i hS
  have HBe := Lib.hid (below_step HB4.out hS.1)
  clear hS hb hg B0
  go_wp2_with fail
  go_ret
  exact ⟨rfl, HBe.out⟩
end Go.Proofs.Ytogoolpgajopcaa
