import Derived.Test.YtogoolpgajopcaaTrA
namespace Go.Proofs.Ytogoolpgajopcaa
open Go.RowKit
theorem alloc_size (w : World) (o : Obj) : (w.alloc o).heap.size = w.heap.size + 1 := by simp
def CountP (P : Fo) : Prop := ∀ (k : Int) (t : ByteArray) (n m a : Int) (A : Option Addr) (c : Nat) (w : World) (B g L : Nat), Holds w B P A 0 → P.len ≤ 1000000000000000 → B ≤ g → g < w.heap.size → w.cell? ⟨g, 0, none⟩ = some (.int .i64 L) → w.frozen? ⟨g, 0, none⟩ = false → L ≤ 20001 →
    Calls Try.prog 61 #[val6 k t n m a P.len A c, .pointer (some ⟨g, 0, none⟩)] w fun e w' => e = .returned (.tuple #[]) ∧ w'.cell? ⟨g, 0, none⟩ = some (.int .i64 ((L - (1 + P.nodes) : Nat) : Int)) ∧ w'.frozen? ⟨g, 0, none⟩ = false ∧ w.heap.size ≤ w'.heap.size ∧ Below B w w'
set_option maxHeartbeats 1000000 in
theorem count_prog (P : Fo) : CountP P := by
  refine fo_ind ?_ P
  clear P
  intro P hall k t n m a A c w B g L hH hl hBg hg hc hf hL
  simp only [val6, cells6]
  have HA := Lib.hid hall
  have HH := Lib.hid hH
  clear hall hH
  by_cases h0 : L = 0
  · subst h0
    go_enter Try.func61, Try.ntmps61
    go_wp2_with fail
    refine bodyPost_ret (v := .tuple #[]) (by simp [results, Try.results61, go_sem]) rfl ?_
    refine ⟨rfl, ?_, ?_, by simp, (Below.refl _ _).alloc (Nat.le_refl _) _ |>.mono (by omega)⟩
    · rw [World.cell?_alloc_lt _ _ _ hg, hc]; simp
    · rw [World.frozen?_alloc_past _ _ _ hg, hf]
  · have t0 : (((L : Nat) : Int) == 0) = false := beq_eq_false_iff_ne.2 (by omega)
    have hb0 : Below B w (w.setCell ⟨g, 0, none⟩ (.int .i64 ((L : Int) - 1))) := (Below.refl _ _).setCell hBg _
    have HB0 := Lib.hid hb0
    go_enter Try.func61, Try.ntmps61
    go_wp2_with fail
    generalize hW : World.alloc _ _ = W at *
    have hszc : ∀ v, (w.setCell ⟨g, 0, none⟩ v).heap.size = w.heap.size := fun v => by simp
    have hWB : Hid (Below B w W) := Lib.hid (by rw [← hW]; exact HB0.out.alloc (by have := HB0.out.size; omega) _)
    have hcW : Hid (W.cell? ⟨g, 0, none⟩ = some (.int .i64 ((L - 1 : Nat) : Int))) := Lib.hid (by
      rw [← hW, World.cell?_alloc_lt _ _ _ (by rw [hszc]; exact hg), World.cell?_setCell_same _ _ _ hc, show ((L : Int) - 1) = ((L - 1 : Nat) : Int) by omega])
    have hfW : Hid (W.frozen? ⟨g, 0, none⟩ = false) := Lib.hid (by
      rw [← hW, World.frozen?_alloc_past _ _ _ (by rw [hszc]; exact hg), World.frozen?_setCell, hf])
    have hsW : w.heap.size ≤ W.heap.size := by rw [← hW, alloc_size, hszc]; omega
    clear hW hb0 hc hf t0 hszc HB0
    go_loopw [5, 18] (fun _ i wr => ∃ (j x : Nat) (R : Fo), j + R.len = P.len ∧ i = .int .i64 j ∧ x ≤ 20001 ∧ x - R.nodes = L - (1 + P.nodes) ∧ AllC CountP R ∧ Holds wr B R A j ∧ wr.cell? ⟨g, 0, none⟩ = some (.int .i64 x) ∧ wr.frozen? ⟨g, 0, none⟩ = false ∧ w.heap.size ≤ wr.heap.size ∧ Below B w wr) (fun _ i _ => P.len - (intOf i).toNat)
    case atStart => exact ⟨0, L - 1, P, by omega, by go_num, by omega, by omega, HA.out, HH.out.below hWB.out, hcW.out, hfW.out, hsW, hWB.out⟩
    case round =>
      obtain ⟨j, x, R, hj, rfl, hx, hxe, hall, hHr, hcr, hfr, hsr, hBr⟩ := hrel
      have HBr := Lib.hid hBr
      clear hBr
      cases R with
      | nil =>
        have tj : decide ((j : Int) < (P.len : Int)) = false := by simp; simp [Fo.len] at hj; omega
        have tj2 : decide (j < P.len) = false := by simp; simp [Fo.len] at hj; omega
        have HC := Lib.hid hcr
        have HF := Lib.hid hfr
        have hx2 : Hid (x = L - (1 + P.nodes)) := Lib.hid (by simpa [Fo.nodes] using hxe)
        clear hj hall hHr hcr hfr hxe
        go_wp2_with fail
        go_end0
        exact ⟨rfl, by rw [← hx2.out]; exact HC.out, HF.out, hsr, HBr.out⟩
      | cons k1 t1 n1 m1 a1 P1 R1 =>
        obtain ⟨⟨ad, A', c', rfl, hblk, hcell, hc1, hc2, ht1, hP1⟩, hR1⟩ := hHr
        obtain ⟨hall1, hall2⟩ := hall
        have hjl : j + 1 + R1.len = P.len := by simp only [Fo.len] at hj; omega
        have hjl2 : j < P.len := by omega
        obtain ⟨f0, f1, f2, f3, f4, f5⟩ := six hcell
        have hgr : g < wr.heap.size := by omega
        have K : Hid (∀ o : Obj, _) := Lib.hid fun (o : Obj) => hall1 k1 t1 n1 m1 a1 A' c' (wr.alloc o) B g x (hP1.below ((Below.refl _ _).alloc (by omega) _)) (by omega) hBg (by rw [alloc_size]; omega) (by rw [World.cell?_alloc_lt _ _ _ hgr]; exact hcr) (by rw [World.frozen?_alloc_past _ _ _ hgr]; exact hfr) hx
        have HHR := Lib.hid hR1
        have HA2 := Lib.hid hall2
        have hxe2 : Hid (x - (1 + P1.nodes) - R1.nodes = L - (1 + P.nodes)) := Lib.hid (by simp only [Fo.nodes] at hxe; omega)
        simp only [val6, cells6] at K
        generalize 1 + P1.nodes = y at *
        clear hcell hR1 hall1 hall2 hj hP1 hxe hcr hfr
        go_wp2_with fail
        refine (K.out _).mono ?_
        rintro e w2 ⟨rfl, hc2', hf2, hs2, hb2⟩
        rw [alloc_size] at hs2
        have HB2 := Lib.hid ((HBr.out.alloc (by have := HBr.out.size; omega) _).trans hb2)
        have HH2 := Lib.hid ((HHR.out.below ((Below.refl B wr).alloc (by omega) _)).below hb2)
        have HF2 := Lib.hid hf2
        have HC2 := Lib.hid hc2'
        by_cases hz : x - y = 0
        · have tz : ((((x - y : Nat)) : Int) == 0) = true := by simp; omega
          have hfin : Hid (x - y = L - (1 + P.nodes)) := Lib.hid (by have := hxe2.out; omega)
          clear hb2
          go_wp2_with fail
          refine bodyPost_ret (v := .tuple #[]) (by simp [results, Try.results61, go_sem]) rfl ?_
          exact ⟨rfl, by rw [← hfin.out]; exact HC2.out, HF2.out, by omega, HB2.out⟩
        · have tz : ((((x - y : Nat)) : Int) == 0) = false := beq_eq_false_iff_ne.2 (by omega)
          clear hb2
          go_wp2_with fail
          go_roundw
          case rel => exact ⟨j + 1, x - y, R1, hjl, by go_num, by omega, hxe2.out, HA2.out, HH2.out, HC2.out, HF2.out, by omega, HB2.out⟩
          case measure => simp [intOf]; omega
def ProgNodes (P : Fo) : Prop := ∀ (k : Int) (t : ByteArray) (n m a : Int) (A : Option Addr) (c : Nat) (w : World), Holds w w.heap.size P A 0 → P.len ≤ 1000000000000000 →
    Calls Try.prog 19 #[val6 k t n m a P.len A c] w fun e w' => e = .returned (.int .i64 (cap20 (1 + P.nodes))) ∧ Below w.heap.size w w'
set_option maxHeartbeats 1000000 in
theorem nodes_prog (P : Fo) : ProgNodes P := by
  intro k t n m a A c w hH hl
  have hH1 : Holds ((w.alloc (.cells (cells6 k t n m a P.len A c).toArray 24)).alloc (.cells #[.int .i64 20001] 3)) w.heap.size P A 0 := hH.below (((Below.refl _ _).alloc (Nat.le_refl _) _).alloc (by simp) _)
  have K := Lib.hid (count_prog P k t n m a A c _ w.heap.size (w.heap.size + 1) 20001 hH1 hl (by omega) (by simp) (by simp) (by simp) (Nat.le_refl _))
  have hcap : Hid ((20001 : Int) - ((20001 - (1 + P.nodes) : Nat) : Int) = (cap20 (1 + P.nodes) : Nat)) := Lib.hid (by unfold cap20; split <;> omega)
  simp only [val6, cells6] at K ⊢
  clear hH hH1
  go_enter Try.func19, Try.ntmps19
  go_wp2_with fail
  refine K.out.mono ?_
  rintro e w2 ⟨rfl, hc2, hf2, hs2, hb2⟩
  generalize 20001 - (1 + P.nodes) = y at *
  have HB := Lib.hid ((((Below.refl w.heap.size w).alloc (Nat.le_refl _) _).alloc (by simp) _).trans hb2)
  have hy : (y : Int) ≤ 20001 ∧ (0 : Int) ≤ (y : Int) := by have := hcap.out; have := cap20_le (1 + P.nodes); omega
  clear hb2
  go_wp2_with fail
  go_ret
  exact ⟨ret_int hcap.out, HB.out⟩
end Go.Proofs.Ytogoolpgajopcaa
