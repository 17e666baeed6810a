import Derived.Test.YtogoolpgajopcaaTrC
namespace Go.Proofs.Ytogoolpgajopcaa
open Go.RowKit
def SameP (P : Fo) : Prop := ∀ (k : Int) (t : ByteArray) (n m a : Int) (A : Option Addr) (c : Nat) (k' : Int) (t' : ByteArray) (n' m' a' : Int) (P' : Fo) (A' : Option Addr) (c' : Nat) (w : World),
    Holds w w.heap.size P A 0 → P.len ≤ 1000000000000000 → Holds w w.heap.size P' A' 0 → P'.len ≤ 1000000000000000 →
    Calls Try.prog 21 #[val6 k t n m a P.len A c, val6 k' t' n' m' a' P'.len A' c'] w fun e w' => e = .returned (.bool (oneSame k t n m P k' t' n' m' P')) ∧ Below w.heap.size w w'
def EqP (P : Fo) : Prop := ∀ (A : Option Addr) (c : Nat) (P' : Fo) (A' : Option Addr) (c' : Nat) (w : World),
    Holds w w.heap.size P A 0 → P.len ≤ 1000000000000000 → Holds w w.heap.size P' A' 0 → P'.len ≤ 1000000000000000 →
    Calls Try.prog 62 #[.slice A P.len c, .slice A' P'.len c', .func (.func 21) #[] #[]] w fun e w' => e = .returned (.bool (P.same P')) ∧ Below w.heap.size w w'
set_option maxHeartbeats 4000000 in
theorem eq_step (P : Fo) (hall : AllC SameP P) : EqP P := by
  intro A c P' A' c' w hH hl hH' hl'
  by_cases h5 : P.len = P'.len
  case neg =>
    have t5 : (((P.len : Nat) : Int) != (P'.len : Int)) = true := by rw [bne_iff_ne]; omega
    have hD : Hid (P.same P' = false) := Lib.hid (by
      cases h : P.same P' with
      | false => rfl
      | true => exact absurd (same_len P P' h) h5)
    clear hall hH hH'
    go_enter Try.func62, Try.ntmps62
    go_wp2_with fail
    go_ret
    exact ⟨ret_bool hD.out.symm, Below.refl _ _⟩
  have t5 : (((P.len : Nat) : Int) != (P'.len : Int)) = false := by simp [h5]
  have H5 := Lib.hid h5
  have HA := Lib.hid hall
  have HH := Lib.hid hH
  have HH' := Lib.hid hH'
  clear hall hH hH' h5
  go_enter Try.func62, Try.ntmps62
  go_wp2_with fail
  clear t5
  go_loopw [7, 8, 9, 17] (fun _ _ _ i wr => ∃ (j : Nat) (R R' : Fo), j + R.len = P.len ∧ R'.len = R.len ∧ i = .int .i64 j ∧ R.same R' = P.same P' ∧ AllC SameP R ∧ Holds wr w.heap.size R A j ∧ Holds wr w.heap.size R' A' j ∧ Below w.heap.size w wr) (fun _ _ _ i _ => P.len - (intOf i).toNat)
  case atStart => exact ⟨0, P, P', by omega, H5.out.symm, by go_num, rfl, HA.out, HH.out, HH'.out, Below.refl _ _⟩
  case round =>
    obtain ⟨j, R, R', hj, hj', rfl, hs, hall, hHr, hHr', hB⟩ := hrel
    have HBw := Lib.hid hB
    have HS := Lib.hid hs
    clear hs hB
    cases R with
    | nil =>
      have tj : decide ((j : Int) < (P.len : Int)) = false := by simp; simp [Fo.len] at hj; omega
      have tj2 : decide (j < P.len) = false := by simp; simp [Fo.len] at hj; omega
      have hD : Hid (P.same P' = true) := Lib.hid (by
        rw [← HS.out]
        cases R' with
        | nil => rfl
        | cons => simp [Fo.len] at hj')
      clear hj hj' hall hHr hHr' HS
      go_wp2_with fail
      go_ret
      exact ⟨ret_bool hD.out.symm, HBw.out⟩
    | cons k1 t1 n1 m1 a1 P1 R1 =>
      cases R' with
      | nil => simp [Fo.len] at hj'
      | cons k2 t2 n2 m2 a2 P2 R2 =>
        obtain ⟨⟨ad, A1, c1, rfl, hblk, hcell, hc1, hc2, ht1, hP1⟩, hR1⟩ := hHr
        obtain ⟨⟨ad2, A2, c2, rfl, hblk2, hcell2, hc12, hc22, ht2, hP2⟩, hR2⟩ := hHr'
        obtain ⟨hall1, hall2⟩ := hall
        have hjl : j + 1 + R1.len = P.len := by simp only [Fo.len] at hj; omega
        have hjl2 : j < P.len := by omega
        have hjl3 : j < P'.len := by have := H5.out; omega
        have hjr : R2.len = R1.len := by simp only [Fo.len] at hj'; omega
        obtain ⟨f0, f1, f2, f3, f4, f5⟩ := six hcell
        have hwr : w.heap.size ≤ wr.heap.size := HBw.out.size
        obtain ⟨g0, g1, g2, g3, g4, g5⟩ := six hcell2
        have hbl2 : (ad2.add (j * 6)).block < wr.heap.size := by rw [block_add]; omega
        have G0 : ∀ o : Obj, (wr.alloc o).cell? (ad2.add (j * 6)) = some (.int .i64 k2) := fun o => by rw [World.cell?_alloc_lt wr o _ hbl2]; exact g0
        have K := Lib.hid (fun (w' : World) (h : Below wr.heap.size wr w') => hall1 k1 t1 n1 m1 a1 A1 c1 k2 t2 n2 m2 a2 P2 A2 c2 w' ((hP1.below (h.mono hwr)).more (by have := h.size; omega)) (by omega) ((hP2.below (h.mono hwr)).more (by have := h.size; omega)) (by omega))
        simp only [val6, cells6] at K
        have HHR := Lib.hid hR1
        have HHR2 := Lib.hid hR2
        have HA2 := Lib.hid hall2
        have HO := Lib.hid ((one_cons k1 t1 n1 m1 a1 P1 R1 k2 t2 n2 m2 a2 P2 R2).symm.trans HS.out)
        generalize oneSame k1 t1 n1 m1 P1 k2 t2 n2 m2 P2 = o at *
        clear hcell hcell2 hR1 hR2 hall1 hall2 hj hj' hP1 hP2 HS
        go_wp2_with fail
        refine (K.out _ (((Below.refl _ _).alloc (Nat.le_refl _) _).alloc (by simp) _)).mono ?_
        rintro e w2 ⟨rfl, hb⟩
        have HB3 := Lib.hid ((((Below.refl wr.heap.size wr).alloc (Nat.le_refl _) _).alloc (by simp) _).trans (hb.mono (by simp; omega)))
        clear hb
        cases o with
        | false =>
          have hD : Hid (P.same P' = false) := Lib.hid (by have := HO.out; simpa using this.symm)
          go_wp2_with fail
          go_ret
          exact ⟨ret_bool hD.out.symm, below_step HBw.out HB3.out⟩
        | true =>
          have hD : Hid (R1.same R2 = P.same P') := Lib.hid (by have := HO.out; simpa using this)
          have HR1 := Lib.hid (HHR.out.below (HB3.out.mono hwr))
          have HR2 := Lib.hid (HHR2.out.below (HB3.out.mono hwr))
          go_wp2_with fail
          go_roundw
          case rel => exact ⟨j + 1, R1, R2, hjl, hjr, by go_num, hD.out, HA2.out, HR1.out, HR2.out, below_step HBw.out HB3.out⟩
          case measure => simp [intOf]; omega
set_option maxHeartbeats 4000000 in
theorem same_step (P : Fo) (hall : AllC SameP P) : SameP P := by
  intro k t n m a A c k' t' n' m' a' P' A' c' w hH hl hH' hl'
  simp only [val6, cells6]
  by_cases h1 : k = k'
  case neg =>
    have t1 : (k != k') = true := by simpa using h1
    have hD : Hid (oneSame k t n m P k' t' n' m' P' = false) := Lib.hid (by unfold oneSame; rw [show (k == k') = false by simpa using h1]; rfl)
    clear hall hH hH'
    go_enter Try.func21, Try.ntmps21
    go_wp2_with fail
    go_ret
    exact ⟨ret_bool hD.out.symm, ((Below.refl _ _).alloc (Nat.le_refl _) _).alloc (by simp) _⟩
  subst h1
  by_cases h2 : (t.toList == t'.toList) = true
  case neg =>
    have h2' : (t.toList == t'.toList) = false := by simpa using h2
    have t2 : (t.toList != t'.toList) = true := by simpa using h2
    have hD : Hid (oneSame k t n m P k t' n' m' P' = false) := Lib.hid (by unfold oneSame; rw [h2']; simp)
    clear hall hH hH' h2
    go_enter Try.func21, Try.ntmps21
    go_wp2_with fail
    go_ret
    exact ⟨ret_bool hD.out.symm, ((Below.refl _ _).alloc (Nat.le_refl _) _).alloc (by simp) _⟩
  have t2 : (t.toList != t'.toList) = false := by simpa using h2
  have t2e : (t.toList == t'.toList) = true := h2
  by_cases h3 : n = n'
  case neg =>
    have t3 : (n != n') = true := by simpa using h3
    have hD : Hid (oneSame k t n m P k t' n' m' P' = false) := Lib.hid (by unfold oneSame; rw [show (n == n') = false by simpa using h3]; simp)
    clear hall hH hH' h2
    go_enter Try.func21, Try.ntmps21
    go_wp2_with fail
    go_ret
    exact ⟨ret_bool hD.out.symm, ((Below.refl _ _).alloc (Nat.le_refl _) _).alloc (by simp) _⟩
  subst h3
  by_cases h4 : m = m'
  case neg =>
    have t4 : (m != m') = true := by simpa using h4
    have hD : Hid (oneSame k t n m P k t' n m' P' = false) := Lib.hid (by unfold oneSame; rw [show (m == m') = false by simpa using h4]; simp)
    clear hall hH hH' h2
    go_enter Try.func21, Try.ntmps21
    go_wp2_with fail
    go_ret
    exact ⟨ret_bool hD.out.symm, ((Below.refl _ _).alloc (Nat.le_refl _) _).alloc (by simp) _⟩
  subst h4
  have hE : oneSame k t n m P k t' n m P' = P.same P' := by unfold oneSame; rw [h2]; simp
  rw [hE]
  clear hE h2
  have KE := Lib.hid (fun (o o' : Obj) => eq_step P hall A c P' A' c' ((w.alloc o).alloc o') ((hH.below (((Below.refl _ _).alloc (Nat.le_refl _) _).alloc (by simp) _)).more (by simp; omega)) hl ((hH'.below (((Below.refl _ _).alloc (Nat.le_refl _) _).alloc (by simp) _)).more (by simp; omega)) hl')
  clear hall hH hH'
  generalize P.same P' = s at *
  go_enter Try.func21, Try.ntmps21
  go_wp2_with fail
  refine (KE.out _ _).mono ?_
  rintro e w2 ⟨rfl, hb⟩
  have HB := Lib.hid ((((Below.refl w.heap.size w).alloc (Nat.le_refl _) _).alloc (by simp) _).trans (hb.mono (by simp; omega)))
  clear hb
  go_wp2_with fail
  go_ret
  exact ⟨rfl, HB.out⟩
theorem same_prog (P : Fo) : SameP P := fo_ind same_step P
end Go.Proofs.Ytogoolpgajopcaa
