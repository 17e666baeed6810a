import Derived.Test.YtogoolpgajopcaaTrJ
namespace Go.Proofs.Ytogoolpgajopcaa
open Go.RowKit
theorem bare_same : ∀ P : Fo, P.bare.same P = true := by
  intro P
  induction P with
  | nil => rfl
  | cons k t n m a P R ihP ihR => simp [Fo.bare, Fo.same, ihP, ihR]
theorem bare_one (k : Int) (t : ByteArray) (n m : Int) (P : Fo) : oneSame k t n m P.bare k t n m P = true := by
  simp [oneSame, bare_same]
theorem bare_bare : ∀ P : Fo, P.bare.bare = P.bare := by
  intro P
  induction P with
  | nil => rfl
  | cons k t n m a P R ihP ihR => simp [Fo.bare, ihP, ihR]
theorem bare_nodes : ∀ P : Fo, P.bare.nodes = P.nodes := by
  intro P
  induction P with
  | nil => rfl
  | cons k t n m a P R ihP ihR => simp [Fo.bare, Fo.nodes, ihP, ihR]
def BaredR (P : Fo) : Prop := ∀ (k : Int) (t : ByteArray) (n m a : Int) (A : Option Addr) (c : Nat) (A' : Option Addr) (c' : Nat) (w : World),
    Holds w w.heap.size P A 0 → P.len ≤ 1000000000000000 → Holds w w.heap.size P.bare A' 0 →
    Calls Try.prog 24 #[val6 k t n m 0 P.len A' c', val6 k t n m a P.len A c] w fun e w' => e = .returned (.bool true) ∧ Below w.heap.size w w'
set_option maxHeartbeats 4000000 in
theorem bared_ref (P : Fo) : BaredR P := by
  refine fo_ind ?_ P
  clear P
  intro P hall k t n m a A c A' c' w hH hl hH'
  have HA := Lib.hid hall
  have HH := Lib.hid hH
  have HH' := Lib.hid hH'
  have KS := Lib.hid (fun (W : World) (hb : Below w.heap.size w W) => same_ref P.bare k t n m 0 A' c' k t n m a P A c W ((hH'.below hb).more hb.size) (by rw [bare_len]; exact hl) ((hH.below hb).more hb.size) hl)
  simp only [bare_one, bare_len] at KS
  simp only [val6, cells6] at KS ⊢
  clear hall hH hH'
  go_enter Try.func24, Try.ntmps24
  go_wp2_with fail
  have hB0 : Below w.heap.size w ((w.alloc (.cells #[.int .i64 k, .string t, .int .i64 n, .int .i64 m, .int .i64 0, .slice A' P.len c'] 24)).alloc (.cells #[.int .i64 k, .string t, .int .i64 n, .int .i64 m, .int .i64 a, .slice A P.len c] 24)) := ((Below.refl _ _).alloc (Nat.le_refl _) _).alloc (by simp) _
  refine (KS.out _ hB0).mono ?_
  rintro e W ⟨rfl, hb1⟩
  have hBx : Hid (Below w.heap.size w W) := Lib.hid (hB0.trans (hb1.mono hB0.size))
  have hB5 : Hid (∀ W', Below W.heap.size W W' → W'.cell? ⟨w.heap.size, 5, none⟩ = some (.slice A' P.len c') ∧ W'.cell? ⟨w.heap.size + 1, 5, none⟩ = some (.slice A P.len c)) := Lib.hid (fun W' h => two_boxes (below_step hb1 h) 5)
  have hsz : w.heap.size + 2 ≤ W.heap.size := by have := hb1.size; simp at this; omega
  obtain ⟨c50, d50⟩ := hB5.out W (Below.refl _ _)
  clear hb1 hB0
  go_wp2_with fail
  go_loopw [5] (fun i wr => ∃ (j : Nat) (R : Fo), j + R.len = P.len ∧ i = .int .i64 j ∧ AllC BaredR R ∧ Holds wr w.heap.size R A j ∧ Holds wr w.heap.size R.bare A' j ∧ Below W.heap.size W wr) (fun i _ => P.len - (intOf i).toNat)
  case atStart => exact ⟨0, P, by omega, by go_num, HA.out, HH.out.below hBx.out, HH'.out.below hBx.out, Below.refl _ _⟩
  case round =>
    obtain ⟨j, R, hj, rfl, hall, hHr, hHr', hB⟩ := hrel
    obtain ⟨c5, d5⟩ := hB5.out wr hB
    have HBw := Lib.hid hB
    clear hB
    cases R with
    | nil =>
      have tj : decide ((j : Int) < (P.len : Int)) = false := by simp; simp [Fo.len] at hj; omega
      have tj2 : decide (j < P.len) = false := by simp; simp [Fo.len] at hj; omega
      clear hj hall hHr hHr'
      go_wp2_with fail
      go_ret
      exact ⟨rfl, below_step hBx.out HBw.out⟩
    | cons k1 t1 n1 m1 a1 P1 R1 =>
        obtain ⟨⟨ad2, A2, c2, rfl, hblk2, hcell2, hc12, hc22, ht2, hP2⟩, hR2⟩ := hHr
        obtain ⟨⟨ad, A1, c1, rfl, hblk, hcell, hc1, hc2, ht1, hP1⟩, hR1⟩ := hHr'
        obtain ⟨hall1, hall2⟩ := hall
        have hjl : j + 1 + R1.len = P.len := by simp only [Fo.len] at hj; omega
        have hjl2 : j < P.len := by omega
        rw [bare_len] at hcell
        obtain ⟨f0, f1, f2, f3, f4, f5⟩ := six hcell
        obtain ⟨g0, g1, g2, g3, g4, g5⟩ := six hcell2
        have hwr : w.heap.size ≤ wr.heap.size := by have := HBw.out.size; omega
        have MK := Lib.hid (fun (w' : World) (h : BD wr w') => (⟨h, cell_later h c5, cell_later h d5, cell_later h f0, cell_later h f1, cell_later h f2, cell_later h f3, cell_later h f4, cell_later h f5, cell_later h g0, cell_later h g1, cell_later h g2, cell_later h g3, cell_later h g4, cell_later h g5⟩ :
          BD wr w' ∧ w'.cell? ⟨w.heap.size, 5, none⟩ = some (.slice (some ad) P.len c') ∧ w'.cell? ⟨w.heap.size + 1, 5, none⟩ = some (.slice (some ad2) P.len c) ∧
          w'.cell? (ad.add (j * 6)) = some (.int .i64 k1) ∧ w'.cell? ⟨(ad.add (j * 6)).block, (ad.add (j * 6)).off + 1, none⟩ = some (.string t1) ∧ w'.cell? ⟨(ad.add (j * 6)).block, (ad.add (j * 6)).off + 2, none⟩ = some (.int .i64 n1) ∧ w'.cell? ⟨(ad.add (j * 6)).block, (ad.add (j * 6)).off + 3, none⟩ = some (.int .i64 m1) ∧ w'.cell? ⟨(ad.add (j * 6)).block, (ad.add (j * 6)).off + 4, none⟩ = some (.int .i64 0) ∧ w'.cell? ⟨(ad.add (j * 6)).block, (ad.add (j * 6)).off + 5, none⟩ = some (.slice A1 P1.len c1) ∧
          w'.cell? (ad2.add (j * 6)) = some (.int .i64 k1) ∧ w'.cell? ⟨(ad2.add (j * 6)).block, (ad2.add (j * 6)).off + 1, none⟩ = some (.string t1) ∧ w'.cell? ⟨(ad2.add (j * 6)).block, (ad2.add (j * 6)).off + 2, none⟩ = some (.int .i64 n1) ∧ w'.cell? ⟨(ad2.add (j * 6)).block, (ad2.add (j * 6)).off + 3, none⟩ = some (.int .i64 m1) ∧ w'.cell? ⟨(ad2.add (j * 6)).block, (ad2.add (j * 6)).off + 4, none⟩ = some (.int .i64 a1) ∧ w'.cell? ⟨(ad2.add (j * 6)).block, (ad2.add (j * 6)).off + 5, none⟩ = some (.slice A2 P1.len c2)))
        have K := Lib.hid (fun (w' : World) (h : BD wr w') => hall1 k1 t1 n1 m1 a1 A2 c2 A1 c1 w' ((hP2.below (h.mono hwr)).more (by have := h.size; omega)) (by omega) ((hP1.below (h.mono hwr)).more (by have := h.size; omega)))
        simp only [val6, cells6] at K
        have HHR := Lib.hid hR1
        have HHR2 := Lib.hid hR2
        have HA2 := Lib.hid hall2
        have B0 := MK.out wr (Below.refl _ _)
        clear hcell hcell2 hR1 hR2 hall1 hall2 hj hP1 hP2 f0 f1 f2 f3 f4 f5 g0 g1 g2 g3 g4 g5 c5 d5
        go_wp2_with fail
        go_region_held3 (fun w' => BD wr w' ∧ w'.cell? ⟨w.heap.size, 5, none⟩ = some (.slice (some ad) P.len c') ∧ w'.cell? ⟨w.heap.size + 1, 5, none⟩ = some (.slice (some ad2) P.len c) ∧
          w'.cell? (ad.add (j * 6)) = some (.int .i64 k1) ∧ w'.cell? ⟨(ad.add (j * 6)).block, (ad.add (j * 6)).off + 1, none⟩ = some (.string t1) ∧ w'.cell? ⟨(ad.add (j * 6)).block, (ad.add (j * 6)).off + 2, none⟩ = some (.int .i64 n1) ∧ w'.cell? ⟨(ad.add (j * 6)).block, (ad.add (j * 6)).off + 3, none⟩ = some (.int .i64 m1) ∧ w'.cell? ⟨(ad.add (j * 6)).block, (ad.add (j * 6)).off + 4, none⟩ = some (.int .i64 0) ∧ w'.cell? ⟨(ad.add (j * 6)).block, (ad.add (j * 6)).off + 5, none⟩ = some (.slice A1 P1.len c1) ∧
          w'.cell? (ad2.add (j * 6)) = some (.int .i64 k1) ∧ w'.cell? ⟨(ad2.add (j * 6)).block, (ad2.add (j * 6)).off + 1, none⟩ = some (.string t1) ∧ w'.cell? ⟨(ad2.add (j * 6)).block, (ad2.add (j * 6)).off + 2, none⟩ = some (.int .i64 n1) ∧ w'.cell? ⟨(ad2.add (j * 6)).block, (ad2.add (j * 6)).off + 3, none⟩ = some (.int .i64 m1) ∧ w'.cell? ⟨(ad2.add (j * 6)).block, (ad2.add (j * 6)).off + 4, none⟩ = some (.int .i64 a1) ∧ w'.cell? ⟨(ad2.add (j * 6)).block, (ad2.add (j * 6)).off + 5, none⟩ = some (.slice A2 P1.len c2))
          (first | exact B0 | exact MK.out _ (Below.drew (Below.refl _ _)) | exact MK.out _ (by assumption) | exact MK.out _ (below_step (And.left (by assumption)) (by assumption)) | exact MK.out _ (below_step (by assumption) (by assumption)))
          (first
            | (go_at_call 24; refine (K.out _ ?_).mono ?_; (first | exact And.left (by assumption) | assumption); rintro e w' ⟨rfl, hb⟩))
        rename_i hS
        have HB3 := Lib.hid hS.1
        clear hS hb B0
        have HR1 := Lib.hid (HHR.out.below (HB3.out.mono hwr))
        have HR2 := Lib.hid (HHR2.out.below (HB3.out.mono hwr))
        go_wp2_with fail
        go_roundw
        case rel => exact ⟨j + 1, R1, hjl, by go_num, HA2.out, HR2.out, HR1.out, below_step HBw.out HB3.out⟩
        case measure => simp [intOf]; omega
end Go.Proofs.Ytogoolpgajopcaa
