import Derived.Test.YtogoolpgajopcaaTrFn
import Derived.Test.YtogoolpgajopcaaTrC
import Derived.Deep.RegionHeld3
namespace Go.Proofs.Ytogoolpgajopcaa
open Go.RowKit
/-- The walker lies at g, stands at number i, and has the parts F. -/
structure Wk (g i : Nat) (F : Fo) (A : Option Addr) (c B : Nat) (W : World) : Prop where
  c0 : W.cell? ⟨g, 0, none⟩ = some (.int .i64 i)
  c1 : W.cell? ⟨g, 1, none⟩ = some (.slice A F.len c)
  fz : W.frozen? ⟨g, 0, none⟩ = false
  lt : g < W.heap.size
  ge : B ≤ g
  hold : Holds W B F A 0
theorem Wk.later {g i : Nat} {F : Fo} {A : Option Addr} {c B : Nat} {W W' : World} (h : Wk g i F A c B W) (hb : Below W.heap.size W W') : Wk g i F A c B W' :=
  ⟨(hb.cell (p := ⟨g, 0, none⟩) h.lt).trans h.c0, (hb.cell (p := ⟨g, 1, none⟩) h.lt).trans h.c1, (hb.frozen (p := ⟨g, 0, none⟩) h.lt).trans h.fz, by have := hb.size; have := h.lt; omega, h.ge, h.hold.below (hb.mono (by have := h.lt; have := h.ge; omega))⟩
theorem Wk.step {g i : Nat} {F : Fo} {A : Option Addr} {c B : Nat} {W : World} (h : Wk g i F A c B W) : Wk g (i + 1) F A c B (W.setCell ⟨g, 0, none⟩ (.int .i64 ((i + 1 : Nat) : Int))) ∧ Below B W (W.setCell ⟨g, 0, none⟩ (.int .i64 ((i + 1 : Nat) : Int))) := by
  have hb : Below B W (W.setCell ⟨g, 0, none⟩ (.int .i64 ((i + 1 : Nat) : Int))) := (Below.refl _ _).setCell h.ge _
  exact ⟨⟨World.cell?_setCell_same _ _ _ h.c0, (World.cell?_setCell_other _ _ _ _ (by simp)).trans h.c1, by rw [World.frozen?_setCell]; exact h.fz, by simpa using h.lt, h.ge, h.hold.below hb⟩, hb⟩
theorem step_any {g i : Nat} {F : Fo} {A : Option Addr} {c B : Nat} {W : World} (h : Wk g i F A c B W) (hi : i ≤ 1000000000000000) :
    Calls Try.prog 91 #[.pointer (some ⟨g, 0, none⟩)] W fun e w' => e = .returned (.tuple #[]) ∧ Wk g (i + 1) F A c B w' ∧ Below B W w' := by
  have H := Lib.hid h.step
  have c0 := h.c0
  have fz := h.fz
  clear h
  go_enter Try.func91, Try.ntmps91
  go_wp2_with fail
  go_end0
  have e : ((i : Int) + 1) = ((i + 1 : Nat) : Int) := by omega
  rw [e]
  exact ⟨rfl, H.out.1, H.out.2⟩
theorem done_any {g i : Nat} {F : Fo} {A : Option Addr} {c B : Nat} {W : World} (h : Wk g i F A c B W) :
    Calls Try.prog 77 #[.pointer (some ⟨g, 0, none⟩)] W fun e w' => e = .returned (.bool (decide (i = F.len))) ∧ Below B W w' := by
  have c0 := h.c0
  have c1 := h.c1
  clear h
  by_cases hi : i = F.len
  · rw [decide_eq_true hi]
    have t1 : (((i : Nat) : Int) == (F.len : Int)) = true := by simp [hi]
    clear hi
    go_enter Try.func77, Try.ntmps77
    go_wp2_with fail
    go_quiet (fail)
    go_wp2_with fail
    go_ret
    exact ⟨rfl, below_drewN (Below.refl _ _) _⟩
  · rw [decide_eq_false hi]
    have t1 : (((i : Nat) : Int) == (F.len : Int)) = false := by simp; omega
    clear hi
    go_enter Try.func77, Try.ntmps77
    go_wp2_with fail
    go_quiet (fail)
    go_wp2_with fail
    go_ret
    exact ⟨rfl, below_drewN (Below.refl _ _) _⟩
theorem take_all_false {l : List Inf} {p : Inf → Bool} {j x : Nat} (h : (l.take j).all p = false) (hj : j ≤ x) : (l.take x).all p = false := by
  cases hx : (l.take x).all p with
  | false => rfl
  | true =>
    rw [List.all_eq_true] at hx
    have h2 : (l.take j).all p = true := by
      rw [List.all_eq_true]
      intro a ha
      refine hx a (List.mem_of_mem_take (i := j) ?_)
      rw [List.take_take, Nat.min_eq_left hj]
      exact ha
    rw [h] at h2
    cases h2
theorem below_trans {B : Nat} {a b d : World} (h : Below B a b) (h' : Below b.heap.size b d) (hB : B ≤ b.heap.size) : Below B a d := h.trans (h'.mono hB)
set_option maxRecDepth 100000 in
set_option maxHeartbeats 4000000 in
theorem times_variable (F : Fo) (hall : AllC (FunP 76 (·.var)) F) (q : Int) {g i : Nat} {A : Option Addr} {c B : Nat} {W : World} (h : Wk g i F A c B W) (hi : i ≤ F.len) (hlc : F.len ≤ c) (hcc : c ≤ 1000000000000000) :
    Calls Try.prog 75 #[.pointer (some ⟨g, 0, none⟩), .int .i64 q, .func (.func 76) #[] #[]] W fun e w' => ∃ b, e = .returned (.bool b) ∧ b = timesB (·.var) (F.inf.drop i) q ∧ (b = true → Wk g (i + q.toNat) F A c B w') ∧ Below B W w' := by
  have c0 := h.c0
  have c1 := h.c1
  have hl : F.len ≤ 1000000000000000 := by omega
  have HW := Lib.hid h
  by_cases hq0 : q < 0
  · have HT : Hid (false = timesB (·.var) (F.inf.drop i) q) := Lib.hid (by unfold timesB; rw [decide_eq_false (by omega)]; rfl)
    have tq : decide (q < 0) = true := by simpa using hq0
    clear h hall
    go_enter Try.func75, Try.ntmps75
    go_wp2_with fail
    go_quiet (fail)
    go_wp2_with fail
    go_ret
    exact ⟨false, rfl, HT.out, fun h => (by cases h), below_drewN (Below.refl _ _) _⟩
  have tq : decide (q < 0) = false := by simpa using hq0
  by_cases hq1 : (F.len : Int) - i < q
  · have HT : Hid (false = timesB (·.var) (F.inf.drop i) q) := Lib.hid (by unfold timesB; rw [List.length_drop, inf_len, decide_eq_false (by omega)]; rfl)
    have tq1 : decide ((F.len : Int) - (i : Int) < q) = true := by simpa using hq1
    clear h hall
    go_enter Try.func75, Try.ntmps75
    go_wp2_with fail
    go_quiet (fail)
    go_wp2_with fail
    go_ret
    exact ⟨false, rfl, HT.out, fun h => (by cases h), below_drewN (Below.refl _ _) _⟩
  obtain ⟨x, rfl⟩ : ∃ x : Nat, q = x := ⟨q.toNat, by omega⟩
  have tq1 : decide ((F.len : Int) - (i : Int) < (x : Int)) = false := by simpa using hq1
  have hxF : i + x ≤ F.len := by omega
  have HT : Hid (timesB (·.var) (F.inf.drop i) x = ((F.inf.drop i).take x).all (·.var)) := Lib.hid (by
    unfold timesB; rw [List.length_drop, inf_len, decide_eq_true (by omega)]; simp)
  rw [HT.out]
  have HA := Lib.hid hall
  clear h hall hq0 hq1
  go_enter Try.func75, Try.ntmps75
  go_wp2_with fail
  go_quiet (fail)
  go_wp2_with fail
  clear c0 c1 tq tq1
  go_loopw [25] (fun v wr => ∃ j : Nat, j ≤ x ∧ v = .int .i64 j ∧ Wk g (i + j) F A c B wr ∧ ((F.inf.drop i).take j).all (·.var) = true ∧ Below B W wr) (fun v _ => x - (intOf v).toNat)
  case atStart => exact ⟨0, by omega, by go_num, HW.out.later (below_drewN (Below.refl _ _) _), rfl, below_drewN (Below.refl _ _) _⟩
  case round =>
    obtain ⟨j, hj, rfl, hWk, ha, hB⟩ := hrel
    have HWk := Lib.hid hWk
    have HAl := Lib.hid ha
    have HBw := Lib.hid hB
    clear ha hB
    by_cases hlt : j < x
    · obtain ⟨k1, t1, n1, m1, a1, Q1, ad, A1, d1, R1, rfl, hd1, hR1, hP1⟩ := part_at (hWk.hold.more (by have := hWk.lt; have := hWk.ge; omega)) (j := i + j) (by omega)
      have K := Lib.hid (hP1.good _ _ HA.out)
      have MK := Lib.hid (fun w' (h : BD wr w') => (⟨h, (hWk.later h).c0, (hWk.later h).c1, hP1.cells w' h⟩ : BD wr w' ∧ w'.cell? ⟨g, 0, none⟩ = some (.int .i64 ((i + j : Nat) : Int)) ∧ w'.cell? ⟨g, 1, none⟩ = some (.slice (some ad) F.len c) ∧ At6 w' (ad.add ((i + j) * 6)) k1 t1 n1 m1 a1 Q1.len A1 d1))
      have HS : Hid (((F.inf.drop i).take (j + 1)).all (·.var) = (mk k1 t1 n1 m1 Q1.inf).var) := Lib.hid (by
        have e : (F.inf.drop i)[j]? = some (mk k1 t1 n1 m1 Q1.inf) := by
          rw [List.getElem?_drop]
          have := congrArg List.head? hd1
          simpa using this
        rw [List.take_add_one, e, List.all_append, HAl.out]; simp)
      have B0 := MK.out wr (Below.refl _ _)
      have hjF : i + j < F.len := by omega
      have hIJ : (i : Int) + (j : Int) < (F.len : Int) := by omega
      have hIJ0 : (0 : Int) ≤ (i : Int) + (j : Int) := by omega
      have hIJ2 : ((i : Int) + (j : Int)).toNat = i + j := by omega
      clear hWk hd1 hR1 hP1 hj
      generalize (mk k1 t1 n1 m1 Q1.inf).var = o at *
      generalize Q1.len = x1 at *
      unfold At6 at MK B0
      cases o with
      | false =>
        go_wp2_with fail
        go_region_held3 (fun w' => BD wr w' ∧ w'.cell? ⟨g, 0, none⟩ = some (.int .i64 ((i + j : Nat) : Int)) ∧ w'.cell? ⟨g, 1, none⟩ = some (.slice (some ad) F.len c) ∧ w'.cell? (ad.add ((i + j) * 6)) = some (.int .i64 k1) ∧ w'.cell? ⟨(ad.add ((i + j) * 6)).block, (ad.add ((i + j) * 6)).off + 1, none⟩ = some (.string t1) ∧ w'.cell? ⟨(ad.add ((i + j) * 6)).block, (ad.add ((i + j) * 6)).off + 2, none⟩ = some (.int .i64 n1) ∧ w'.cell? ⟨(ad.add ((i + j) * 6)).block, (ad.add ((i + j) * 6)).off + 3, none⟩ = some (.int .i64 m1) ∧ w'.cell? ⟨(ad.add ((i + j) * 6)).block, (ad.add ((i + j) * 6)).off + 4, none⟩ = some (.int .i64 a1) ∧ w'.cell? ⟨(ad.add ((i + j) * 6)).block, (ad.add ((i + j) * 6)).off + 5, none⟩ = some (.slice A1 x1 d1))
          (first | exact B0 | exact MK.out _ (Below.drew (Below.refl _ _)) | exact MK.out _ (by assumption) | exact MK.out _ (below_step (And.left (by assumption)) (by assumption)) | exact MK.out _ (below_step (by assumption) (by assumption)))
          (first | (go_at_call 76; refine (K.out _ ?_).mono ?_; (first | exact And.left (by assumption) | exact Below.refl _ _ | exact Below.drew (Below.refl _ _) | assumption); rintro e w' ⟨rfl, hb⟩))
        rename_i w5 hS
        have HS5 := Lib.hid hS.1
        clear hS B0
        go_wp2_with fail
        go_ret
        exact ⟨false, rfl, (take_all_false HS.out (by omega)).symm, fun h => (by cases h), below_trans HBw.out HS5.out (by have := HWk.out.lt; have := HWk.out.ge; omega)⟩
      | true =>
        go_wp2_with fail
        go_region_held3 (fun w' => BD wr w' ∧ w'.cell? ⟨g, 0, none⟩ = some (.int .i64 ((i + j : Nat) : Int)) ∧ w'.cell? ⟨g, 1, none⟩ = some (.slice (some ad) F.len c) ∧ w'.cell? (ad.add ((i + j) * 6)) = some (.int .i64 k1) ∧ w'.cell? ⟨(ad.add ((i + j) * 6)).block, (ad.add ((i + j) * 6)).off + 1, none⟩ = some (.string t1) ∧ w'.cell? ⟨(ad.add ((i + j) * 6)).block, (ad.add ((i + j) * 6)).off + 2, none⟩ = some (.int .i64 n1) ∧ w'.cell? ⟨(ad.add ((i + j) * 6)).block, (ad.add ((i + j) * 6)).off + 3, none⟩ = some (.int .i64 m1) ∧ w'.cell? ⟨(ad.add ((i + j) * 6)).block, (ad.add ((i + j) * 6)).off + 4, none⟩ = some (.int .i64 a1) ∧ w'.cell? ⟨(ad.add ((i + j) * 6)).block, (ad.add ((i + j) * 6)).off + 5, none⟩ = some (.slice A1 x1 d1))
          (first | exact B0 | exact MK.out _ (Below.drew (Below.refl _ _)) | exact MK.out _ (by assumption) | exact MK.out _ (below_step (And.left (by assumption)) (by assumption)) | exact MK.out _ (below_step (by assumption) (by assumption)))
          (first | (go_at_call 76; refine (K.out _ ?_).mono ?_; (first | exact And.left (by assumption) | exact Below.refl _ _ | exact Below.drew (Below.refl _ _) | assumption); rintro e w' ⟨rfl, hb⟩))
        rename_i w5 hS
        have HS5 := Lib.hid hS.1
        clear hS B0
        have KS := Lib.hid (step_any (HWk.out.later HS5.out) (by omega))
        go_wp2_with fail
        refine KS.out.mono ?_
        rintro e w6 ⟨rfl, hk6, hb6⟩
        have HK6 := Lib.hid hk6
        have HB6 := Lib.hid ((below_trans HBw.out HS5.out (by have := HWk.out.lt; have := HWk.out.ge; omega)).trans hb6)
        clear hk6 hb6
        go_wp2_with fail
        go_roundw
        case rel => exact ⟨j + 1, by omega, by go_num, HK6.out, HS.out, HB6.out⟩
        case measure => simp [intOf]; omega
    · obtain rfl : j = x := by omega
      clear hWk
      have tj : decide ((j : Int) < (j : Int)) = false := by simp
      go_wp2_with fail
      go_ret
      exact ⟨true, rfl, HAl.out.symm, fun _ => by simpa using HWk.out, HBw.out⟩
end Go.Proofs.Ytogoolpgajopcaa
