import Derived.Test.YtogoolpgajopcaaTrB
import Derived.Deep.RegionHeld3
namespace Go.Proofs.Ytogoolpgajopcaa
open Go.RowKit
/-- The same but for places. -/
def Fo.same : Fo → Fo → Bool
  | .nil, .nil => true
  | .cons k t n m _ P R, .cons k' t' n' m' _ P' R' => k == k' && (t.toList == t'.toList) && n == n' && m == m' && P.same P' && R.same R'
  | _, _ => false
def oneSame (k : Int) (t : ByteArray) (n m : Int) (P : Fo) (k' : Int) (t' : ByteArray) (n' m' : Int) (P' : Fo) : Bool := k == k' && (t.toList == t'.toList) && n == n' && m == m' && P.same P'
theorem same_len : ∀ (P P' : Fo), P.same P' = true → P.len = P'.len := by
  intro P
  induction P with
  | nil => intro P' h; cases P' with
    | nil => rfl
    | cons => simp [Fo.same] at h
  | cons k t n m a P R ihP ihR => intro P' h; cases P' with
    | nil => simp [Fo.same] at h
    | cons k' t' n' m' a' P' R' => simp only [Fo.same, Bool.and_eq_true] at h; simp only [Fo.len]; rw [ihR R' h.2]
theorem one_cons (k : Int) (t : ByteArray) (n m a : Int) (P R : Fo) (k' : Int) (t' : ByteArray) (n' m' a' : Int) (P' R' : Fo) : (Fo.cons k t n m a P R).same (.cons k' t' n' m' a' P' R') = (oneSame k t n m P k' t' n' m' P' && R.same R') := rfl
def BD (w w' : World) : Prop := Below w.heap.size w w'
def SameR (P : Fo) : Prop := ∀ (k : Int) (t : ByteArray) (n m a : Int) (A : Option Addr) (c : Nat) (k' : Int) (t' : ByteArray) (n' m' a' : Int) (P' : Fo) (A' : Option Addr) (c' : Nat) (w : World),
    Holds w w.heap.size P A 0 → P.len ≤ 1000000000000000 → Holds w w.heap.size P' A' 0 → P'.len ≤ 1000000000000000 →
    Calls Try.prog 22 #[val6 k t n m a P.len A c, val6 k' t' n' m' a' P'.len A' c'] w fun e w' => e = .returned (.bool (oneSame k t n m P k' t' n' m' P')) ∧ Below w.heap.size w w'
/-- What the two boxes and the two lists hold, in each later world. -/
theorem two_boxes {w w1 : World} {cs ds : Array Value} {t t' : TypeId} (hb : Below ((w.alloc (.cells cs t)).alloc (.cells ds t')).heap.size ((w.alloc (.cells cs t)).alloc (.cells ds t')) w1) (j : Nat) : w1.cell? ⟨w.heap.size, j, none⟩ = cs[j]? ∧ w1.cell? ⟨w.heap.size + 1, j, none⟩ = ds[j]? := by
  refine ⟨?_, ?_⟩
  · rw [hb.cell (p := ⟨w.heap.size, j, none⟩) (by simp; omega), World.cell?_alloc_lt _ _ _ (by simp)]
    exact cell_of_row _ _ _ _ _ _ (heap_alloc_new w _)
  · rw [hb.cell (p := ⟨w.heap.size + 1, j, none⟩) (by simp)]
    have := cell_of_row ((w.alloc (.cells cs t)).alloc (.cells ds t')) (w.alloc (.cells cs t)).heap.size j ds t' (0, 0) (heap_alloc_new (w.alloc (.cells cs t)) _)
    rw [alloc_size] at this
    exact this
set_option maxHeartbeats 4000000 in
theorem same_ref (P : Fo) : SameR P := by
  refine fo_ind ?_ P
  clear P
  intro P hall k t n m a A c k' t' n' m' a' P' A' c' w hH hl hH' hl'
  simp only [val6, cells6]
  by_cases h1 : k = k'
  case neg =>
    have t1 : (k != k') = true := by simpa using h1
    have hD : Hid (oneSame k t n m P k' t' n' m' P' = false) := Lib.hid (by unfold oneSame; rw [show (k == k') = false by simpa using h1]; rfl)
    clear hall hH hH'
    go_enter Try.func22, Try.ntmps22
    go_wp2_with fail
    go_ret
    exact ⟨ret_bool hD.out.symm, ((Below.refl _ _).alloc (Nat.le_refl _) _).alloc (by simp) _⟩
  subst h1
  by_cases h2 : (t.toList == t'.toList) = true
  case neg =>
    have h2' : (t.toList == t'.toList) = false := by simpa using h2
    have t2 : (t.toList != t'.toList) = true := by simpa using h2
    have hD : Hid (oneSame k t n m P k t' n' m' P' = false) := Lib.hid (by unfold oneSame; rw [h2']; simp)
    clear hall hH hH' h2
    go_enter Try.func22, Try.ntmps22
    go_wp2_with fail
    go_ret
    exact ⟨ret_bool hD.out.symm, ((Below.refl _ _).alloc (Nat.le_refl _) _).alloc (by simp) _⟩
  have t2 : (t.toList != t'.toList) = false := by simpa using h2
  have t2e : (t.toList == t'.toList) = true := h2
  by_cases h3 : n = n'
  case neg =>
    have t3 : (n != n') = true := by simpa using h3
    have hD : Hid (oneSame k t n m P k t' n' m' P' = false) := Lib.hid (by unfold oneSame; rw [show (n == n') = false by simpa using h3]; simp)
    clear hall hH hH' h2
    go_enter Try.func22, Try.ntmps22
    go_wp2_with fail
    go_ret
    exact ⟨ret_bool hD.out.symm, ((Below.refl _ _).alloc (Nat.le_refl _) _).alloc (by simp) _⟩
  subst h3
  by_cases h4 : m = m'
  case neg =>
    have t4 : (m != m') = true := by simpa using h4
    have hD : Hid (oneSame k t n m P k t' n m' P' = false) := Lib.hid (by unfold oneSame; rw [show (m == m') = false by simpa using h4]; simp)
    clear hall hH hH' h2
    go_enter Try.func22, Try.ntmps22
    go_wp2_with fail
    go_ret
    exact ⟨ret_bool hD.out.symm, ((Below.refl _ _).alloc (Nat.le_refl _) _).alloc (by simp) _⟩
  subst h4
  have hE : oneSame k t n m P k t' n m P' = P.same P' := by unfold oneSame; rw [h2]; simp
  rw [hE]
  clear hE h2
  by_cases h5 : P.len = P'.len
  case neg =>
    have t5 : (((P.len : Nat) : Int) != (P'.len : Int)) = true := by rw [bne_iff_ne]; omega
    have hD : Hid (P.same P' = false) := Lib.hid (by
      cases h : P.same P' with
      | false => rfl
      | true => exact absurd (same_len P P' h) h5)
    clear hall hH hH'
    go_enter Try.func22, Try.ntmps22
    go_wp2_with fail
    go_ret
    exact ⟨ret_bool hD.out.symm, ((Below.refl _ _).alloc (Nat.le_refl _) _).alloc (by simp) _⟩
  have t5 : (((P.len : Nat) : Int) != (P'.len : Int)) = false := by simp [h5]
  have H5 := Lib.hid h5
  have HA := Lib.hid hall
  have HH := Lib.hid hH
  have HH' := Lib.hid hH'
  clear hall hH hH' h5
  go_enter Try.func22, Try.ntmps22
  go_wp2_with fail
  generalize hW : World.alloc _ _ = W
  have hBx : Hid (Below w.heap.size w W) := Lib.hid (by rw [← hW]; exact ((Below.refl _ _).alloc (Nat.le_refl _) _).alloc (by simp) _)
  have hB5 : Hid (∀ W', Below W.heap.size W W' → W'.cell? ⟨w.heap.size, 5, none⟩ = some (.slice A P.len c) ∧ W'.cell? ⟨w.heap.size + 1, 5, none⟩ = some (.slice A' P'.len c')) := Lib.hid (by subst hW; exact fun W' h => two_boxes h 5)
  have hsz : W.heap.size = w.heap.size + 2 := by rw [← hW]; simp
  clear hW t2 t2e t5
  go_loopw [5] (fun i wr => ∃ (j : Nat) (R R' : Fo), j + R.len = P.len ∧ R'.len = R.len ∧ i = .int .i64 j ∧ R.same R' = P.same P' ∧ AllC SameR R ∧ Holds wr w.heap.size R A j ∧ Holds wr w.heap.size R' A' j ∧ Below W.heap.size W wr) (fun i _ => P.len - (intOf i).toNat)
  case atStart => exact ⟨0, P, P', by omega, H5.out.symm, by go_num, rfl, HA.out, HH.out.below hBx.out, HH'.out.below hBx.out, Below.refl _ _⟩
  case round =>
    obtain ⟨j, R, R', hj, hj', rfl, hs, hall, hHr, hHr', hB⟩ := hrel
    obtain ⟨c5, d5⟩ := hB5.out wr hB
    have HBw := Lib.hid hB
    have HS := Lib.hid hs
    clear hs hB
    cases R with
    | nil =>
      have tj : decide ((j : Int) < (P.len : Int)) = false := by simp; simp [Fo.len] at hj; omega
      have tj2 : decide (j < P.len) = false := by simp; simp [Fo.len] at hj; omega
      have hD : Hid (P.same P' = true) := Lib.hid (by
        rw [← HS.out]
        cases R' with
        | nil => rfl
        | cons => simp [Fo.len] at hj')
      clear hj hj' hall hHr hHr' HS
      go_wp2_with fail
      go_ret
      exact ⟨ret_bool hD.out.symm, below_step hBx.out HBw.out⟩
    | cons k1 t1 n1 m1 a1 P1 R1 =>
      cases R' with
      | nil => simp [Fo.len] at hj'
      | cons k2 t2 n2 m2 a2 P2 R2 =>
        obtain ⟨⟨ad, A1, c1, rfl, hblk, hcell, hc1, hc2, ht1, hP1⟩, hR1⟩ := hHr
        obtain ⟨⟨ad2, A2, c2, rfl, hblk2, hcell2, hc12, hc22, ht2, hP2⟩, hR2⟩ := hHr'
        obtain ⟨hall1, hall2⟩ := hall
        have hjl : j + 1 + R1.len = P.len := by simp only [Fo.len] at hj; omega
        have hjl2 : j < P.len := by omega
        have hjl3 : j < P'.len := by have := H5.out; omega
        have hjr : R2.len = R1.len := by simp only [Fo.len] at hj'; omega
        obtain ⟨f0, f1, f2, f3, f4, f5⟩ := six hcell
        obtain ⟨g0, g1, g2, g3, g4, g5⟩ := six hcell2
        have hwr : w.heap.size ≤ wr.heap.size := by have := HBw.out.size; omega
        have MK := Lib.hid (fun (w' : World) (h : BD wr w') => (⟨h, cell_later h c5, cell_later h d5, cell_later h f0, cell_later h f1, cell_later h f2, cell_later h f3, cell_later h f4, cell_later h f5, cell_later h g0, cell_later h g1, cell_later h g2, cell_later h g3, cell_later h g4, cell_later h g5⟩ :
          BD wr w' ∧ w'.cell? ⟨w.heap.size, 5, none⟩ = some (.slice (some ad) P.len c) ∧ w'.cell? ⟨w.heap.size + 1, 5, none⟩ = some (.slice (some ad2) P'.len c') ∧
          w'.cell? (ad.add (j * 6)) = some (.int .i64 k1) ∧ w'.cell? ⟨(ad.add (j * 6)).block, (ad.add (j * 6)).off + 1, none⟩ = some (.string t1) ∧ w'.cell? ⟨(ad.add (j * 6)).block, (ad.add (j * 6)).off + 2, none⟩ = some (.int .i64 n1) ∧ w'.cell? ⟨(ad.add (j * 6)).block, (ad.add (j * 6)).off + 3, none⟩ = some (.int .i64 m1) ∧ w'.cell? ⟨(ad.add (j * 6)).block, (ad.add (j * 6)).off + 4, none⟩ = some (.int .i64 a1) ∧ w'.cell? ⟨(ad.add (j * 6)).block, (ad.add (j * 6)).off + 5, none⟩ = some (.slice A1 P1.len c1) ∧
          w'.cell? (ad2.add (j * 6)) = some (.int .i64 k2) ∧ w'.cell? ⟨(ad2.add (j * 6)).block, (ad2.add (j * 6)).off + 1, none⟩ = some (.string t2) ∧ w'.cell? ⟨(ad2.add (j * 6)).block, (ad2.add (j * 6)).off + 2, none⟩ = some (.int .i64 n2) ∧ w'.cell? ⟨(ad2.add (j * 6)).block, (ad2.add (j * 6)).off + 3, none⟩ = some (.int .i64 m2) ∧ w'.cell? ⟨(ad2.add (j * 6)).block, (ad2.add (j * 6)).off + 4, none⟩ = some (.int .i64 a2) ∧ w'.cell? ⟨(ad2.add (j * 6)).block, (ad2.add (j * 6)).off + 5, none⟩ = some (.slice A2 P2.len c2)))
        have K := Lib.hid (fun (w' : World) (h : BD wr w') => hall1 k1 t1 n1 m1 a1 A1 c1 k2 t2 n2 m2 a2 P2 A2 c2 w' ((hP1.below (h.mono hwr)).more (by have := h.size; omega)) (by omega) ((hP2.below (h.mono hwr)).more (by have := h.size; omega)) (by omega))
        simp only [val6, cells6] at K
        have HHR := Lib.hid hR1
        have HHR2 := Lib.hid hR2
        have HA2 := Lib.hid hall2
        have HO := Lib.hid ((one_cons k1 t1 n1 m1 a1 P1 R1 k2 t2 n2 m2 a2 P2 R2).symm.trans HS.out)
        generalize oneSame k1 t1 n1 m1 P1 k2 t2 n2 m2 P2 = o at *
        have B0 := MK.out wr (Below.refl _ _)
        clear hcell hcell2 hR1 hR2 hall1 hall2 hj hj' hP1 hP2 f0 f1 f2 f3 f4 f5 g0 g1 g2 g3 g4 g5 c5 d5 HS
        go_wp2_with fail
        go_region_held3 (fun w' => BD wr w' ∧ w'.cell? ⟨w.heap.size, 5, none⟩ = some (.slice (some ad) P.len c) ∧ w'.cell? ⟨w.heap.size + 1, 5, none⟩ = some (.slice (some ad2) P'.len c') ∧
          w'.cell? (ad.add (j * 6)) = some (.int .i64 k1) ∧ w'.cell? ⟨(ad.add (j * 6)).block, (ad.add (j * 6)).off + 1, none⟩ = some (.string t1) ∧ w'.cell? ⟨(ad.add (j * 6)).block, (ad.add (j * 6)).off + 2, none⟩ = some (.int .i64 n1) ∧ w'.cell? ⟨(ad.add (j * 6)).block, (ad.add (j * 6)).off + 3, none⟩ = some (.int .i64 m1) ∧ w'.cell? ⟨(ad.add (j * 6)).block, (ad.add (j * 6)).off + 4, none⟩ = some (.int .i64 a1) ∧ w'.cell? ⟨(ad.add (j * 6)).block, (ad.add (j * 6)).off + 5, none⟩ = some (.slice A1 P1.len c1) ∧
          w'.cell? (ad2.add (j * 6)) = some (.int .i64 k2) ∧ w'.cell? ⟨(ad2.add (j * 6)).block, (ad2.add (j * 6)).off + 1, none⟩ = some (.string t2) ∧ w'.cell? ⟨(ad2.add (j * 6)).block, (ad2.add (j * 6)).off + 2, none⟩ = some (.int .i64 n2) ∧ w'.cell? ⟨(ad2.add (j * 6)).block, (ad2.add (j * 6)).off + 3, none⟩ = some (.int .i64 m2) ∧ w'.cell? ⟨(ad2.add (j * 6)).block, (ad2.add (j * 6)).off + 4, none⟩ = some (.int .i64 a2) ∧ w'.cell? ⟨(ad2.add (j * 6)).block, (ad2.add (j * 6)).off + 5, none⟩ = some (.slice A2 P2.len c2))
          (first | exact B0 | exact MK.out _ (Below.drew (Below.refl _ _)) | exact MK.out _ (by assumption) | exact MK.out _ (below_step (And.left (by assumption)) (by assumption)) | exact MK.out _ (below_step (by assumption) (by assumption)))
          (first
            | (go_at_call 22; refine (K.out _ ?_).mono ?_; (first | exact And.left (by assumption) | assumption); rintro e w' ⟨rfl, hb⟩))
        rename_i hS
        have HB3 := Lib.hid hS.1
        clear hS hb B0
        cases o with
        | false =>
          have hD : Hid (P.same P' = false) := Lib.hid (by have := HO.out; simpa using this.symm)
          go_wp2_with fail
          go_ret
          exact ⟨ret_bool hD.out.symm, below_step hBx.out (below_step HBw.out HB3.out)⟩
        | true =>
          have hD : Hid (R1.same R2 = P.same P') := Lib.hid (by have := HO.out; simpa using this)
          have HR1 := Lib.hid (HHR.out.below (HB3.out.mono hwr))
          have HR2 := Lib.hid (HHR2.out.below (HB3.out.mono hwr))
          go_wp2_with fail
          go_roundw
          case rel => exact ⟨j + 1, R1, R2, hjl, hjr, by go_num, hD.out, HA2.out, HR1.out, HR2.out, below_step HBw.out HB3.out⟩
          case measure => simp [intOf]; omega
end Go.Proofs.Ytogoolpgajopcaa
