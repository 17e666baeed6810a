import Derived.Test.YtogoolpgajopcaaTrL
namespace Go.Proofs.Ytogoolpgajopcaa
open Go.RowKit
theorem same_self : ∀ P : Fo, P.same P = true := by
  intro P
  induction P with
  | nil => rfl
  | cons k t n m a P R ihP ihR => simp [Fo.same, ihP, ihR]
theorem self_bare : ∀ P : Fo, P.same P.bare = true := by
  intro P
  induction P with
  | nil => rfl
  | cons k t n m a P R ihP ihR => simp [Fo.bare, Fo.same, ihP, ihR]
theorem one_self (k : Int) (t : ByteArray) (n m : Int) (P : Fo) : oneSame k t n m P k t n m P = true := by
  simp [oneSame, same_self]
theorem one_bare (k : Int) (t : ByteArray) (n m : Int) (P : Fo) : oneSame k t n m P k t n m P.bare = true := by
  simp [oneSame, self_bare]
/-- Both sides tell y of these two, in each later world. -/
structure GoodS (w : World) (v u : Value) (y : Bool) : Prop where
  prog : ∀ w', BD w w' → Calls Try.prog 21 #[v, u] w' fun e w'' => e = .returned (.bool y) ∧ Below w'.heap.size w' w''
  ref : ∀ w', BD w w' → Calls Try.prog 22 #[v, u] w' fun e w'' => e = .returned (.bool y) ∧ Below w'.heap.size w' w''
theorem GoodS.two {w : World} {k : Int} {t : ByteArray} {n m a : Int} {P : Fo} {A : Option Addr} {c : Nat} {k' : Int} {t' : ByteArray} {n' m' a' : Int} {Q : Fo} {A' : Option Addr} {c' l : Nat} {y : Bool} (hP : Holds w w.heap.size P A 0) (hl : P.len ≤ 1000000000000000) (hQ : Holds w w.heap.size Q A' 0) (hl' : Q.len ≤ 1000000000000000) (hq : Q.len = l) (hy : oneSame k t n m P k' t' n' m' Q = y) :
    GoodS w (.agg #[.int .i64 k, .string t, .int .i64 n, .int .i64 m, .int .i64 a, .slice A P.len c]) (.agg #[.int .i64 k', .string t', .int .i64 n', .int .i64 m', .int .i64 a', .slice A' l c']) y := by
  subst hq hy
  exact ⟨fun w' h => same_prog P k t n m a A c k' t' n' m' a' Q A' c' w' ((hP.below h).more h.size) hl ((hQ.below h).more h.size) hl', fun w' h => same_ref P k t n m a A c k' t' n' m' a' Q A' c' w' ((hP.below h).more h.size) hl ((hQ.below h).more h.size) hl'⟩
theorem GoodS.mono {w w' : World} {v u : Value} {y : Bool} (h : GoodS w v u y) (hb : BD w w') : GoodS w' v u y := ⟨fun w2 h2 => h.prog w2 (below_step hb h2), fun w2 h2 => h.ref w2 (below_step hb h2)⟩
set_option maxRecDepth 100000 in
set_option maxHeartbeats 4000000 in
theorem same_walk (k : Int) (t : ByteArray) (n m a : Int) (P : Fo) (A : Option Addr) (c : Nat) (k' : Int) (t' : ByteArray) (n' m' a' : Int) (Q : Fo) (A' : Option Addr) (c' : Nat) (w : World) (hH : Holds w w.heap.size P A 0) (hl : P.len ≤ c) (hc : c ≤ 1000000000000000) (hH' : Holds w w.heap.size Q A' 0) (hl' : Q.len ≤ c') (hc' : c' ≤ 1000000000000000) :
    Calls Try.prog 5 #[val6 k t n m a P.len A c, val6 k' t' n' m' a' Q.len A' c'] w (LawPost w) := by
  have HH := Lib.hid hH
  have HH' := Lib.hid hH'
  have KA := Lib.hid (fun W => awake_true W)
  simp only [val6, cells6]
  clear hH hH'
  go_enter Try.func5, Try.ntmps5
  go_wp2_with fail
  refine (KA.out _).mono ?_
  rintro e W1 ⟨rfl, hb1⟩
  have FN : Hid (∀ w', Below W1.heap.size W1 w' → w'.cell? ⟨w.heap.size, 0, none⟩ = some (.int .i64 k) ∧ w'.cell? ⟨w.heap.size, 1, none⟩ = some (.string t) ∧ w'.cell? ⟨w.heap.size, 2, none⟩ = some (.int .i64 n) ∧ w'.cell? ⟨w.heap.size, 3, none⟩ = some (.int .i64 m) ∧ w'.cell? ⟨w.heap.size, 4, none⟩ = some (.int .i64 a) ∧ w'.cell? ⟨w.heap.size, 5, none⟩ = some (.slice A P.len c) ∧ w'.cell? ⟨w.heap.size + 1, 0, none⟩ = some (.int .i64 k') ∧ w'.cell? ⟨w.heap.size + 1, 1, none⟩ = some (.string t') ∧ w'.cell? ⟨w.heap.size + 1, 2, none⟩ = some (.int .i64 n') ∧ w'.cell? ⟨w.heap.size + 1, 3, none⟩ = some (.int .i64 m') ∧ w'.cell? ⟨w.heap.size + 1, 4, none⟩ = some (.int .i64 a') ∧ w'.cell? ⟨w.heap.size + 1, 5, none⟩ = some (.slice A' Q.len c')) := Lib.hid fun W' h => by
    have h2 := hb1.trans (h.mono hb1.size)
    exact ⟨(two_boxes h2 0).1, (two_boxes h2 1).1, (two_boxes h2 2).1, (two_boxes h2 3).1, (two_boxes h2 4).1, (two_boxes h2 5).1, (two_boxes h2 0).2, (two_boxes h2 1).2, (two_boxes h2 2).2, (two_boxes h2 3).2, (two_boxes h2 4).2, (two_boxes h2 5).2⟩
  have HB1 := Lib.hid (below_step (((Below.refl w.heap.size w).alloc (Nat.le_refl _) _).alloc (by simp) _) hb1)
  obtain ⟨c0, c1, c2, c3, c4, c5, x0, x1, x2, x3, x4, x5⟩ := FN.out W1 (Below.refl _ _)
  have KSm := Lib.hid (small_prog k t n m a P A c W1 ((HH.out.below HB1.out).more HB1.out.size) (by omega))
  simp only [val6, cells6] at KSm
  clear hb1
  go_wp2_with fail
  refine KSm.out.mono ?_
  rintro e W2 ⟨rfl, hb2⟩
  have HB2 := Lib.hid (below_step HB1.out hb2)
  have HB12 := Lib.hid hb2
  obtain ⟨d0, d1, d2, d3, d4, d5, y0, y1, y2, y3, y4, y5⟩ := FN.out W2 hb2
  clear hb2 c0 c1 c2 c3 c4 c5 x0 x1 x2 x3 x4 x5 KSm
  by_cases hN : 1 + P.nodes ≤ 20000
  case neg =>
    rw [decide_eq_false hN]
    go_wp2_with fail
    refine (KA.out _).mono ?_
    rintro e W3 ⟨rfl, hb3⟩
    have HB3 := Lib.hid (below_step HB2.out hb3)
    clear hb3
    go_wp2_with fail
    go_ret
    exact ⟨rfl, HB3.out⟩
  rw [decide_eq_true hN]
  have KSn := Lib.hid (small_prog k' t' n' m' a' Q A' c' W2 ((HH'.out.below HB2.out).more HB2.out.size) (by omega))
  simp only [val6, cells6] at KSn
  have HN := Lib.hid hN
  clear hN
  go_wp2_with fail
  refine KSn.out.mono ?_
  rintro e W3 ⟨rfl, hb3⟩
  have HB3 := Lib.hid (below_step HB2.out hb3)
  have HB13 := Lib.hid (below_step HB12.out hb3)
  clear hb3 KSn d0 d1 d2 d3 d4 d5 y0 y1 y2 y3 y4 y5
  by_cases hM : 1 + Q.nodes ≤ 20000
  case neg =>
    rw [decide_eq_false hM]
    go_wp2_with fail
    refine (KA.out _).mono ?_
    rintro e W4 ⟨rfl, hb4⟩
    have HB4 := Lib.hid (below_step HB3.out hb4)
    clear hb4
    go_wp2_with fail
    go_ret
    exact ⟨rfl, HB4.out⟩
  rw [decide_eq_true hM]
  clear hM
  have hN3 : Holds W3 W3.heap.size P A 0 := (HH.out.below HB3.out).more HB3.out.size
  have hM3 : Holds W3 W3.heap.size Q A' 0 := (HH'.out.below HB3.out).more HB3.out.size
  obtain ⟨o, ho⟩ : ∃ o, oneSame k t n m P k' t' n' m' Q = o := ⟨_, rfl⟩
  have G1 := Lib.hid (GoodS.two (a := a) (c := c) (a' := a') (c' := c') hN3 (by omega) hM3 (by omega) rfl ho)
  have G2 := Lib.hid (GoodS.two (a := a) (c := c) (a' := a) (c' := c) hN3 (by omega) hN3 (by omega) rfl (one_self k t n m P))
  have K2 : Hid (∀ w', BD W3 w' → Calls Try.prog 23 #[.agg #[.int .i64 k, .string t, .int .i64 n, .int .i64 m, .int .i64 a, .slice A P.len c]] w' fun e w'' => ∃ A2, e = .returned (.agg #[.int .i64 k, .string t, .int .i64 n, .int .i64 m, .int .i64 0, .slice A2 P.len P.len]) ∧ GoodS w'' (.agg #[.int .i64 k, .string t, .int .i64 n, .int .i64 m, .int .i64 a, .slice A P.len c]) (.agg #[.int .i64 k, .string t, .int .i64 n, .int .i64 m, .int .i64 0, .slice A2 P.len P.len]) true ∧ Below w'.heap.size w' w'') := Lib.hid (fun w' h => by
    refine (bareN_prog P k t n m a A c w' ((hN3.below h).more h.size) HN.out).mono ?_
    rintro e w'' ⟨A2, rfl, hH2, hb2⟩
    have h2 : BD W3 w'' := below_step h hb2
    exact ⟨A2, rfl, GoodS.two ((hN3.below h2).more h2.size) (by omega) (hH2.holds) (by rw [bare_len]; omega) (bare_len P) (one_bare k t n m P), hb2⟩)
  have MK : Hid (∀ w', BD W3 w' → BD W3 w' ∧ w'.cell? ⟨w.heap.size, 0, none⟩ = some (.int .i64 k) ∧ w'.cell? ⟨w.heap.size, 1, none⟩ = some (.string t) ∧ w'.cell? ⟨w.heap.size, 2, none⟩ = some (.int .i64 n) ∧ w'.cell? ⟨w.heap.size, 3, none⟩ = some (.int .i64 m) ∧ w'.cell? ⟨w.heap.size, 4, none⟩ = some (.int .i64 a) ∧ w'.cell? ⟨w.heap.size, 5, none⟩ = some (.slice A P.len c) ∧ w'.cell? ⟨w.heap.size + 1, 0, none⟩ = some (.int .i64 k') ∧ w'.cell? ⟨w.heap.size + 1, 1, none⟩ = some (.string t') ∧ w'.cell? ⟨w.heap.size + 1, 2, none⟩ = some (.int .i64 n') ∧ w'.cell? ⟨w.heap.size + 1, 3, none⟩ = some (.int .i64 m') ∧ w'.cell? ⟨w.heap.size + 1, 4, none⟩ = some (.int .i64 a') ∧ w'.cell? ⟨w.heap.size + 1, 5, none⟩ = some (.slice A' Q.len c')) := Lib.hid (fun w' h => ⟨h, FN.out w' (below_step HB13.out h)⟩)
  have B0 := MK.out W3 (Below.refl _ _)
  clear hN3 hM3 ho FN HH HH' HN KA HB1 HB2 HB12 HB13
  cases o with
  | false =>
    go_wp2_with fail
    go_region_held3 (fun w' => BD W3 w' ∧ w'.cell? ⟨w.heap.size, 0, none⟩ = some (.int .i64 k) ∧ w'.cell? ⟨w.heap.size, 1, none⟩ = some (.string t) ∧ w'.cell? ⟨w.heap.size, 2, none⟩ = some (.int .i64 n) ∧ w'.cell? ⟨w.heap.size, 3, none⟩ = some (.int .i64 m) ∧ w'.cell? ⟨w.heap.size, 4, none⟩ = some (.int .i64 a) ∧ w'.cell? ⟨w.heap.size, 5, none⟩ = some (.slice A P.len c) ∧ w'.cell? ⟨w.heap.size + 1, 0, none⟩ = some (.int .i64 k') ∧ w'.cell? ⟨w.heap.size + 1, 1, none⟩ = some (.string t') ∧ w'.cell? ⟨w.heap.size + 1, 2, none⟩ = some (.int .i64 n') ∧ w'.cell? ⟨w.heap.size + 1, 3, none⟩ = some (.int .i64 m') ∧ w'.cell? ⟨w.heap.size + 1, 4, none⟩ = some (.int .i64 a') ∧ w'.cell? ⟨w.heap.size + 1, 5, none⟩ = some (.slice A' Q.len c'))
      (first | exact B0 | exact MK.out _ (Below.drew (Below.refl _ _)) | exact MK.out _ (by assumption) | exact MK.out _ (below_step (And.left (by assumption)) (by assumption)) | exact MK.out _ (below_step (by assumption) (by assumption)))
      (first
        | (go_at_call 21; refine (GoodS.prog hg _ ?_).mono ?_; (first | exact Below.refl _ _ | exact Below.drew (Below.refl _ _) | assumption); rintro e w' ⟨rfl, hb⟩)
        | (go_at_call 21; refine (GoodS.prog (by first | exact G1.out | exact G2.out) _ ?_).mono ?_; (first | exact And.left (by assumption) | assumption); rintro e w' ⟨rfl, hb⟩)
        | (go_at_call 22; refine (GoodS.ref (by first | exact G1.out | exact G2.out) _ ?_).mono ?_; (first | exact And.left (by assumption) | assumption); rintro e w' ⟨rfl, hb⟩)
        | (go_at_call 23; refine (K2.out _ ?_).mono ?_; (first | exact And.left (by assumption) | assumption); rintro e w' ⟨A2, rfl, hg, hb⟩))
    rename_i hS
    have HBe := Lib.hid (below_step HB3.out hS.1)
    clear hS hb hg B0
    go_wp2_with fail
    go_ret
    exact ⟨rfl, HBe.out⟩
  | true =>
    go_wp2_with fail
    go_region_held3 (fun w' => BD W3 w' ∧ w'.cell? ⟨w.heap.size, 0, none⟩ = some (.int .i64 k) ∧ w'.cell? ⟨w.heap.size, 1, none⟩ = some (.string t) ∧ w'.cell? ⟨w.heap.size, 2, none⟩ = some (.int .i64 n) ∧ w'.cell? ⟨w.heap.size, 3, none⟩ = some (.int .i64 m) ∧ w'.cell? ⟨w.heap.size, 4, none⟩ = some (.int .i64 a) ∧ w'.cell? ⟨w.heap.size, 5, none⟩ = some (.slice A P.len c) ∧ w'.cell? ⟨w.heap.size + 1, 0, none⟩ = some (.int .i64 k') ∧ w'.cell? ⟨w.heap.size + 1, 1, none⟩ = some (.string t') ∧ w'.cell? ⟨w.heap.size + 1, 2, none⟩ = some (.int .i64 n') ∧ w'.cell? ⟨w.heap.size + 1, 3, none⟩ = some (.int .i64 m') ∧ w'.cell? ⟨w.heap.size + 1, 4, none⟩ = some (.int .i64 a') ∧ w'.cell? ⟨w.heap.size + 1, 5, none⟩ = some (.slice A' Q.len c'))
      (first | exact B0 | exact MK.out _ (Below.drew (Below.refl _ _)) | exact MK.out _ (by assumption) | exact MK.out _ (below_step (And.left (by assumption)) (by assumption)) | exact MK.out _ (below_step (by assumption) (by assumption)))
      (first
        | (go_at_call 21; refine (GoodS.prog hg _ ?_).mono ?_; (first | exact Below.refl _ _ | exact Below.drew (Below.refl _ _) | assumption); rintro e w' ⟨rfl, hb⟩)
        | (go_at_call 21; refine (GoodS.prog (by first | exact G1.out | exact G2.out) _ ?_).mono ?_; (first | exact And.left (by assumption) | assumption); rintro e w' ⟨rfl, hb⟩)
        | (go_at_call 22; refine (GoodS.ref (by first | exact G1.out | exact G2.out) _ ?_).mono ?_; (first | exact And.left (by assumption) | assumption); rintro e w' ⟨rfl, hb⟩)
        | (go_at_call 23; refine (K2.out _ ?_).mono ?_; (first | exact And.left (by assumption) | assumption); rintro e w' ⟨A2, rfl, hg, hb⟩))
    rename_i hS
    have HBe := Lib.hid (below_step HB3.out hS.1)
    clear hS hb hg B0
    go_wp2_with fail
    go_ret
    exact ⟨rfl, HBe.out⟩
end Go.Proofs.Ytogoolpgajopcaa
