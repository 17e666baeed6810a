import Derived.Test.YtogoolpgajopcaaTrI
namespace Go.Proofs.Ytogoolpgajopcaa
open Go.RowKit
theorem box6 {w : World} {b : Nat} {k : Int} {t : ByteArray} {n m a : Int} {l : Nat} {A : Option Addr} {c : Nat} (h : ∀ j u, (cells6 k t n m a l A c)[j]? = some u → w.cell? ⟨b, j, none⟩ = some u) :
    w.cell? ⟨b, 0, none⟩ = some (.int .i64 k) ∧ w.cell? ⟨b, 1, none⟩ = some (.string t) ∧ w.cell? ⟨b, 2, none⟩ = some (.int .i64 n) ∧ w.cell? ⟨b, 3, none⟩ = some (.int .i64 m) ∧ w.cell? ⟨b, 4, none⟩ = some (.int .i64 a) ∧ w.cell? ⟨b, 5, none⟩ = some (.slice A l c) :=
  ⟨h 0 _ rfl, h 1 _ rfl, h 2 _ rfl, h 3 _ rfl, h 4 _ rfl, h 5 _ rfl⟩
theorem some6 {w : World} {b : Nat} (h : ∀ x, x < 6 → ∃ u, w.cell? ⟨b, x, none⟩ = some u) :
    (∃ u, w.cell? ⟨b, 0, none⟩ = some u) ∧ (∃ u, w.cell? ⟨b, 1, none⟩ = some u) ∧ (∃ u, w.cell? ⟨b, 2, none⟩ = some u) ∧ (∃ u, w.cell? ⟨b, 3, none⟩ = some u) ∧ (∃ u, w.cell? ⟨b, 4, none⟩ = some u) ∧ (∃ u, w.cell? ⟨b, 5, none⟩ = some u) :=
  ⟨h 0 (by omega), h 1 (by omega), h 2 (by omega), h 3 (by omega), h 4 (by omega), h 5 (by omega)⟩
theorem fro6 {w : World} {b : Nat} (h : ∀ x, w.frozen? ⟨b, x, none⟩ = false) :
    w.frozen? ⟨b, 0, none⟩ = false ∧ w.frozen? ⟨b, 1, none⟩ = false ∧ w.frozen? ⟨b, 2, none⟩ = false ∧ w.frozen? ⟨b, 3, none⟩ = false ∧ w.frozen? ⟨b, 4, none⟩ = false ∧ w.frozen? ⟨b, 5, none⟩ = false :=
  ⟨h 0, h 1, h 2, h 3, h 4, h 5⟩
def ProgBare (P : Fo) : Prop := ∀ (k : Int) (t : ByteArray) (n m a : Int) (A : Option Addr) (c : Nat) (w : World), Holds w w.heap.size P A 0 → 1 + P.nodes ≤ 20000 →
    Calls Try.prog 23 #[val6 k t n m a P.len A c] w fun e w' => ∃ A', e = .returned (val6 k t n m 0 P.len A' P.len) ∧ Holds2 w' w.heap.size w'.heap.size P.bare A' 0 ∧ Below w.heap.size w w'
set_option maxHeartbeats 1000000 in
theorem bareN_prog (P : Fo) : ProgBare P := by
  refine fo_ind ?_ P
  clear P
  intro P hall k t n m a A c w hH hl
  simp only [val6, cells6]
  have HA := Lib.hid hall
  have HH := Lib.hid hH
  have hlen : P.len ≤ 20000 := by have := len_nodes P; omega
  have HL := Lib.hid hl
  clear hall hH hl
  have hmk := make_nodes P.len hlen
  go_enter Try.func23, Try.ntmps23
  go_wp2_with fail
  generalize hW : World.alloc _ _ = W at *
  have hBx : Hid (Below w.heap.size w W) := Lib.hid (by rw [← hW]; exact (((Below.refl _ _).alloc (Nat.le_refl _) _).alloc (by simp) _).alloc (by simp; omega) _)
  have hsz : W.heap.size = w.heap.size + 3 := by rw [← hW]; simp
  have hF : Hid (Fill W (w.heap.size + 2) P.len .nil) := Lib.hid (by
    rw [← hW]
    have h := Fill.start ((w.alloc (.cells #[.int .i64 k, .string t, .int .i64 n, .int .i64 m, .int .i64 0, .slice A P.len c] 24)).alloc (.cells #[.int .i64 0, .string { data := #[] }, .int .i64 0, .int .i64 0, .int .i64 0, .slice none 0 0] 24)) P.len
    simpa using h)
  have hX : Hid (∀ x u, (cells6 k t n m 0 P.len A c)[x]? = some u → W.cell? ⟨w.heap.size, x, none⟩ = some u) := Lib.hid (by
    intro x u hu
    rw [← hW, World.cell?_alloc_lt _ _ _ (by simp; omega), World.cell?_alloc_lt _ _ _ (by simp), cell_of_row _ _ _ _ _ _ (heap_alloc_new w _)]
    simpa [cells6] using hu)
  have hY : Hid (∀ x, x < 6 → ∃ u, W.cell? ⟨w.heap.size + 1, x, none⟩ = some u) := Lib.hid (by
    intro x hx
    rw [← hW, World.cell?_alloc_lt _ _ _ (by simp), show w.heap.size + 1 = (w.alloc (.cells #[.int .i64 k, .string t, .int .i64 n, .int .i64 m, .int .i64 0, .slice A P.len c] 24)).heap.size by simp, cell_of_row _ _ _ _ _ _ (heap_alloc_new _ _)]
    rcases x with _ | _ | _ | _ | _ | _ | x <;> first | exact ⟨_, rfl⟩ | omega)
  have hZ : Hid (∀ x, W.frozen? ⟨w.heap.size, x, none⟩ = false ∧ W.frozen? ⟨w.heap.size + 1, x, none⟩ = false) := Lib.hid (by
    intro x
    rw [← hW]
    constructor
    · rw [World.frozen?_alloc_past _ _ _ (by simp; omega), World.frozen?_alloc_past _ _ _ (by simp)]; simp
    · rw [World.frozen?_alloc_past _ _ _ (by simp), show w.heap.size + 1 = (w.alloc (.cells #[.int .i64 k, .string t, .int .i64 n, .int .i64 m, .int .i64 0, .slice A P.len c] 24)).heap.size by simp]; simp)
  clear hW hmk
  go_loopw [4, 5, 14] (fun _ _ i wr => ∃ (j : Nat) (S R : Fo), j + R.len = P.len ∧ S.len = j ∧ S.app R.bare = P.bare ∧ i = .int .i64 j ∧ R.nodes ≤ P.nodes ∧ AllC ProgBare R ∧ Holds wr w.heap.size R A j ∧ Fill wr (w.heap.size + 2) P.len S ∧ Below (w.heap.size + 2) W wr) (fun _ _ i _ => P.len - (intOf i).toNat)
  case atStart => exact ⟨0, .nil, P, by omega, rfl, rfl, by go_num, Nat.le_refl _, HA.out, HH.out.below hBx.out, hF.out, Below.refl _ _⟩
  case round =>
    obtain ⟨j, S, R, hj, hSj, happ, rfl, hRn, hall, hHr, hFr, hBr⟩ := hrel
    have HBr := Lib.hid hBr
    clear hBr
    cases R with
    | nil =>
      have hjl : j = P.len := by simpa [Fo.len] using hj
      have tj : decide ((j : Int) < (P.len : Int)) = false := by simp; omega
      have tj2 : decide (j < P.len) = false := by simp; omega
      obtain ⟨f0, f1, f2, f3, f4, f5⟩ := box6 (fun x u hu => (HBr.out.cell (p := ⟨w.heap.size, x, none⟩) (by simp)).trans (hX.out x u hu))
      obtain ⟨⟨y0, e0⟩, ⟨y1, e1⟩, ⟨y2, e2⟩, ⟨y3, e3⟩, ⟨y4, e4⟩, ⟨y5, e5⟩⟩ := some6 (w := wr) (b := w.heap.size + 1) (fun x hx => by obtain ⟨u, hu⟩ := hY.out x hx; exact ⟨u, (HBr.out.cell (p := ⟨w.heap.size + 1, x, none⟩) (by simp)).trans hu⟩)
      obtain ⟨z0, z1, z2, z3, z4, z5⟩ := fro6 (w := wr) (b := w.heap.size) (fun x => (HBr.out.frozen (p := ⟨w.heap.size, x, none⟩) (by simp)).trans (hZ.out x).1)
      obtain ⟨g0, g1, g2, g3, g4, g5⟩ := fro6 (w := wr) (b := w.heap.size + 1) (fun x => (HBr.out.frozen (p := ⟨w.heap.size + 1, x, none⟩) (by simp)).trans (hZ.out x).2)
      have HP := Lib.hid hFr
      have HS : Hid (S = P.bare) := Lib.hid (by rw [← happ]; simp [Fo.bare, app_nil])
      clear hFr happ hj hall hHr hRn
      go_wp2_with fail
      generalize hWf : World.setCell _ _ _ = Wf at *
      have hW1 : ∀ p : Addr, w.heap.size + 2 ≤ p.block → Wf.cell? p = wr.cell? p := fun p hp => by
        rw [← hWf]
        have hn : ∀ (b x : Nat), b < w.heap.size + 2 → (⟨b, x, none⟩ : Addr) ≠ p := fun b x hb e => by subst e; exact absurd hp (by simpa using hb)
        rw [World.cell?_setCell_other _ _ _ _ (hn _ _ (by omega)), World.cell?_setCell_other _ _ _ _ (hn _ _ (by omega)), World.cell?_setCell_other _ _ _ _ (hn _ _ (by omega)), World.cell?_setCell_other _ _ _ _ (hn _ _ (by omega)), World.cell?_setCell_other _ _ _ _ (hn _ _ (by omega)), World.cell?_setCell_other _ _ _ _ (hn _ _ (by omega)), World.cell?_setCell_other _ _ _ _ (hn _ _ (by omega))]
      have hE : ∀ x u, (cells6 k t n m 0 P.len (some ⟨w.heap.size + 1 + 1, 0, none⟩) P.len)[x]? = some u → Wf.cell? ⟨w.heap.size + 1, x, none⟩ = some u := fun x u hu => by
        rw [← hWf]
        have h := put6_at (w := wr.setCell ⟨w.heap.size, 5, none⟩ (.slice (some ⟨w.heap.size + 1 + 1, 0, none⟩) P.len P.len)) (g := w.heap.size + 1) (y := 0) (fun x hx => some_set (by rcases x with _ | _ | _ | _ | _ | _ | x <;> first | exact ⟨_, by assumption⟩ | omega)) x u hu
        simpa [put6] using h
      have hBf : Below w.heap.size w Wf := by
        rw [← hWf]
        exact (((((((hBx.out.trans (HBr.out.mono (by omega))).setCell (by simp) _).setCell (by simp) _).setCell (by simp) _).setCell (by simp) _).setCell (by simp) _).setCell (by simp) _).setCell (by simp) _
      have hSf : wr.heap.size = Wf.heap.size := by rw [← hWf]; simp
      obtain ⟨q0, q1, q2, q3, q4, q5⟩ := box6 hE
      refine bodyPost_ret (v := val6 k t n m 0 P.len (some ⟨w.heap.size + 1 + 1, 0, none⟩) P.len) ?_ rfl ?_
      · simp [results, Try.results23, go_sem, q0, q1, q2, q3, q4, q5, val6, cells6]
      · refine ⟨some ⟨w.heap.size + 1 + 1, 0, none⟩, rfl, ?_, hBf⟩
        rw [← HS.out]
        exact (HP.out.top.holds2 HP.out.lt).keep (by omega) (by omega) (fun p hp _ => hW1 p hp)
    | cons k1 t1 n1 m1 a1 P1 R1 =>
      obtain ⟨⟨ad, A', c', rfl, hblk, hcell, hc1, hc2, ht1, hP1⟩, hR1⟩ := hHr
      obtain ⟨hall1, hall2⟩ := hall
      have hjl : j + 1 + R1.len = P.len := by simp only [Fo.len] at hj; omega
      have hjl2 : j < P.len := by omega
      obtain ⟨f0, f1, f2, f3, f4, f5⟩ := six hcell
      have hws := HBr.out.size
      have hn1 : 1 + P1.nodes ≤ 20000 := by have := HL.out; simp only [Fo.nodes] at hRn; omega
      have hn2 : R1.nodes ≤ P.nodes := by simp only [Fo.nodes] at hRn; omega
      have K : Hid (∀ o : Obj, _) := Lib.hid fun (o : Obj) => hall1 k1 t1 n1 m1 a1 A' c' (wr.alloc o) ((hP1.below ((Below.refl _ _).alloc (by omega) _)).more (by rw [alloc_size]; omega)) hn1
      have HHR := Lib.hid hR1
      have HA2 := Lib.hid hall2
      have HP := Lib.hid hFr
      have HN := Lib.hid hn2
      have HS : Hid ((S.app (.cons k1 t1 n1 m1 0 P1.bare .nil)).app R1.bare = P.bare) := Lib.hid (by rw [← happ, app_assoc]; simp [Fo.bare, Fo.app])
      simp only [val6, cells6] at K
      have hl1 := Lib.hid (len_nodes P1)
      clear hcell hR1 hall1 hall2 hj hP1 hFr happ hn1 hn2 hRn
      go_wp2_with fail
      refine (K.out _).mono ?_
      rintro e w2 ⟨A2, rfl, hH2, hb2⟩
      have hbz := below_box hb2
      have hF2 := HP.out.below hbz
      have HB2 := Lib.hid hbz
      have HP2 := Lib.hid hF2
      have HH2 := Lib.hid hH2
      have hs2 := hbz.size
      have hsb : Hid (wr.heap.size + 1 ≤ w2.heap.size) := Lib.hid (by have := hb2.size; rw [alloc_size] at this; exact this)
      subst hSj
      obtain ⟨⟨y0, e0⟩, ⟨y1, e1⟩, ⟨y2, e2⟩, ⟨y3, e3⟩, ⟨y4, e4⟩, ⟨y5, e5⟩⟩ : (∃ u, w2.cell? ⟨w.heap.size + 1 + 1, S.len * 6, none⟩ = some u) ∧ (∃ u, w2.cell? ⟨w.heap.size + 1 + 1, S.len * 6 + 1, none⟩ = some u) ∧ (∃ u, w2.cell? ⟨w.heap.size + 1 + 1, S.len * 6 + 2, none⟩ = some u) ∧ (∃ u, w2.cell? ⟨w.heap.size + 1 + 1, S.len * 6 + 3, none⟩ = some u) ∧ (∃ u, w2.cell? ⟨w.heap.size + 1 + 1, S.len * 6 + 4, none⟩ = some u) ∧ (∃ u, w2.cell? ⟨w.heap.size + 1 + 1, S.len * 6 + 5, none⟩ = some u) :=
        ⟨hF2.cell _ (by omega), hF2.cell _ (by omega), hF2.cell _ (by omega), hF2.cell _ (by omega), hF2.cell _ (by omega), hF2.cell _ (by omega)⟩
      have z0 : w2.frozen? ⟨w.heap.size + 1 + 1, S.len * 6, none⟩ = false := hF2.free _
      have z1 : w2.frozen? ⟨w.heap.size + 1 + 1, S.len * 6 + 1, none⟩ = false := hF2.free _
      have z2 : w2.frozen? ⟨w.heap.size + 1 + 1, S.len * 6 + 2, none⟩ = false := hF2.free _
      have z3 : w2.frozen? ⟨w.heap.size + 1 + 1, S.len * 6 + 3, none⟩ = false := hF2.free _
      have z4 : w2.frozen? ⟨w.heap.size + 1 + 1, S.len * 6 + 4, none⟩ = false := hF2.free _
      have z5 : w2.frozen? ⟨w.heap.size + 1 + 1, S.len * 6 + 5, none⟩ = false := hF2.free _
      clear hb2 hH2 hbz hF2
      go_wp2_with fail
      refine ⟨⟨S.len + 1, S.app (.cons k1 t1 n1 m1 0 P1.bare .nil), R1, hjl, by rw [app_len]; rfl, HS.out, by go_num, HN.out, HA2.out, ?_, ?_, ?_⟩, by simp [intOf]; omega⟩
      · exact (HHR.out.below (HB2.out.mono (by omega))).keep (w' := put6 w2 (w.heap.size + 1 + 1) (S.len * 6) (.int .i64 k1) (.string t1) (.int .i64 n1) (.int .i64 m1) (.int .i64 0) (.slice A2 P1.len P1.len)) (fun p hp => put6_other (.inl (by omega)))
      · exact HP2.out.put (by omega) (bare_len P1) (HH2.out.keep (by rw [alloc_size]; omega) (Nat.le_refl _) (fun _ _ _ => rfl)) (Nat.le_refl _) (by omega) ht1
      · exact ((((((HBr.out.trans (HB2.out.mono (by omega))).setCell (Nat.le_refl _) _).setCell (Nat.le_refl _) _).setCell (Nat.le_refl _) _).setCell (Nat.le_refl _) _).setCell (Nat.le_refl _) _).setCell (Nat.le_refl _) _
end Go.Proofs.Ytogoolpgajopcaa
