import Derived.Test.YtgjblmlibhppiaaGreatDoorMy3
namespace Go.Proofs.YtgjblmlibhppiaaGreatDoor
set_option maxRecDepth 100000
set_option maxHeartbeats 64000000
open Go.RowKit
theorem fits_ftff {w : World} {b o np nf nv c1 c2 c3 : Nat} {t : ByteArray} {n lo hi : Int} {A1 A2 A3 : Option Addr} (x1 : w.cell? ⟨b, o + 1, none⟩ = some (.string t)) (_x2 : w.cell? ⟨b, o + 2, none⟩ = some (.int .i64 n)) (x3 : w.cell? ⟨b, o + 3, none⟩ = some (.slice A1 np c1)) (x4 : w.cell? ⟨b, o + 4, none⟩ = some (.slice A2 nf c2)) (x5 : w.cell? ⟨b, o + 5, none⟩ = some (.slice A3 nv c3)) :
  Calls Tryz.prog 82 #[.agg #[.bool false, .bool true, .bool false, .bool false, .int .i64 lo, .int .i64 hi], .pointer (some ⟨b, o, none⟩)] w fun e w' => e = .returned (.bool (fitsB ⟨false, true, false, false, lo, hi, true⟩ t n np nf nv)) ∧ Below w.heap.size w w' := by
 have hlt : b < w.heap.size := World.block_lt_of_cell? _ _ x1
 have HB : Hid (Below w.heap.size w (w.alloc (.cells #[.bool false, .bool true, .bool false, .bool false, .int .i64 lo, .int .i64 hi] 116))) := Hd ((Below.refl _ _).alloc (Nat.le_refl _) _)
 cases q0 : t.toList with
 | nil =>
  have e0 : (t.toList == []) = true := by rw [q0]; rfl
  have Q0 := Hd e0
  by_cases q2 : nf = 0
  ·have e2 : ¬ 0 < nf := by omega
   have z2 : decide ((0 : Int) < (nf : Int)) = false := by simp; omega
   have Q2 := Hd e2
   clear q2
   by_cases q3 : nv = 0
   ·have e3 : ¬ 0 < nv := by omega
    have z3 : decide ((0 : Int) < (nv : Int)) = false := by simp; omega
    have Q3 := Hd e3
    clear q3
    by_cases h1 : lo ≤ (np : Int)
    ·by_cases h2 : hi = -1
     ·have t2 : (hi == -1) = true := by simpa using h2
      have HR : Hid (fitsB ⟨false, true, false, false, lo, hi, true⟩ t n np nf nv = true) := Hd (by unfold fitsB; simp [Q0.out, Q2.out, Q3.out, h1, h2])
      clear h2
      go_enter Tryz.func82, Tryz.ntmps82
      go_wp2_with fail
      go_quiet (fail)
      go_wp2_with fail
      go_ret
      exact ⟨by rw [HR.out]; first | rfl | (show Ending.returned (.bool (decide ((np : Int) ≤ hi))) = _; rw [t3]), by first | exact HB.out | exact drewN_below HB.out _ | exact HB.out.drew⟩
     ·have t2 : (hi == -1) = false := by simpa using h2
      by_cases h3 : (np : Int) ≤ hi
      ·have t3 : decide ((np : Int) ≤ hi) = true := by simpa using h3
       have HR : Hid (fitsB ⟨false, true, false, false, lo, hi, true⟩ t n np nf nv = true) := Hd (by unfold fitsB; simp [Q0.out, Q2.out, Q3.out, h1, t2, h3])
       clear h2
       go_enter Tryz.func82, Tryz.ntmps82
       go_wp2_with fail
       go_quiet (fail)
       go_wp2_with fail
       go_ret
       exact ⟨by rw [HR.out]; first | rfl | (show Ending.returned (.bool (decide ((np : Int) ≤ hi))) = _; rw [t3]), by first | exact HB.out | exact drewN_below HB.out _ | exact HB.out.drew⟩
      ·have t3 : decide ((np : Int) ≤ hi) = false := by simpa using h3
       have HR : Hid (fitsB ⟨false, true, false, false, lo, hi, true⟩ t n np nf nv = false) := Hd (by unfold fitsB; simp [Q0.out, Q2.out, Q3.out, t2, h3])
       clear h2
       go_enter Tryz.func82, Tryz.ntmps82
       go_wp2_with fail
       go_quiet (fail)
       go_wp2_with fail
       go_ret
       exact ⟨by rw [HR.out]; first | rfl | (show Ending.returned (.bool (decide ((np : Int) ≤ hi))) = _; rw [t3]), by first | exact HB.out | exact drewN_below HB.out _ | exact HB.out.drew⟩
    ·have t1 : decide (lo ≤ (np : Int)) = false := by simpa using h1
     have t1b : (np : Int) < lo := by omega
     have HR : Hid (fitsB ⟨false, true, false, false, lo, hi, true⟩ t n np nf nv = false) := Hd (by unfold fitsB; simp [Q0.out, Q2.out, Q3.out, h1])
     go_enter Tryz.func82, Tryz.ntmps82
     go_wp2_with fail
     go_quiet (fail)
     go_wp2_with fail
     go_ret
     exact ⟨by rw [HR.out]; first | rfl | (show Ending.returned (.bool (decide ((np : Int) ≤ hi))) = _; rw [t3]), by first | exact HB.out | exact drewN_below HB.out _ | exact HB.out.drew⟩
   ·have e3 : 0 < nv := by omega
    have z3 : decide ((0 : Int) < (nv : Int)) = true := by simp; omega
    have Q3 := Hd e3
    clear q3
    have HR : Hid (fitsB ⟨false, true, false, false, lo, hi, true⟩ t n np nf nv = false) := Hd (by unfold fitsB; simp [Q0.out, Q2.out, Q3.out])
    go_enter Tryz.func82, Tryz.ntmps82
    go_wp2_with fail
    go_ret
    exact ⟨by rw [HR.out]; first | rfl | (show Ending.returned (.bool (decide ((np : Int) ≤ hi))) = _; rw [t3]), by first | exact HB.out | exact drewN_below HB.out _ | exact HB.out.drew⟩
  ·have e2 : 0 < nf := by omega
   have z2 : decide ((0 : Int) < (nf : Int)) = true := by simp; omega
   have Q2 := Hd e2
   clear q2
   have HR : Hid (fitsB ⟨false, true, false, false, lo, hi, true⟩ t n np nf nv = false) := Hd (by unfold fitsB; simp [Q0.out, Q2.out])
   go_enter Tryz.func82, Tryz.ntmps82
   go_wp2_with fail
   go_ret
   exact ⟨by rw [HR.out]; first | rfl | (show Ending.returned (.bool (decide ((np : Int) ≤ hi))) = _; rw [t3]), by first | exact HB.out | exact drewN_below HB.out _ | exact HB.out.drew⟩
 | cons hd tl =>
  have e0 : (t.toList == []) = false := by rw [q0]; rfl
  have Q0 := Hd e0
  have HR : Hid (fitsB ⟨false, true, false, false, lo, hi, true⟩ t n np nf nv = false) := Hd (by unfold fitsB; simp [Q0.out])
  go_enter Tryz.func82, Tryz.ntmps82
  go_wp2_with fail
  go_ret
  exact ⟨by rw [HR.out]; first | rfl | (show Ending.returned (.bool (decide ((np : Int) ≤ hi))) = _; rw [t3]), by first | exact HB.out | exact drewN_below HB.out _ | exact HB.out.drew⟩
theorem fits_ffft {w : World} {b o np nf nv c1 c2 c3 : Nat} {t : ByteArray} {n lo hi : Int} {A1 A2 A3 : Option Addr} (x1 : w.cell? ⟨b, o + 1, none⟩ = some (.string t)) (x2 : w.cell? ⟨b, o + 2, none⟩ = some (.int .i64 n)) (x3 : w.cell? ⟨b, o + 3, none⟩ = some (.slice A1 np c1)) (x4 : w.cell? ⟨b, o + 4, none⟩ = some (.slice A2 nf c2)) (_x5 : w.cell? ⟨b, o + 5, none⟩ = some (.slice A3 nv c3)) :
  Calls Tryz.prog 82 #[.agg #[.bool false, .bool false, .bool false, .bool true, .int .i64 lo, .int .i64 hi], .pointer (some ⟨b, o, none⟩)] w fun e w' => e = .returned (.bool (fitsB ⟨false, false, false, true, lo, hi, true⟩ t n np nf nv)) ∧ Below w.heap.size w w' := by
 have hlt : b < w.heap.size := World.block_lt_of_cell? _ _ x1
 have HB : Hid (Below w.heap.size w (w.alloc (.cells #[.bool false, .bool false, .bool false, .bool true, .int .i64 lo, .int .i64 hi] 116))) := Hd ((Below.refl _ _).alloc (Nat.le_refl _) _)
 cases q0 : t.toList with
 | nil =>
  have e0 : (t.toList == []) = true := by rw [q0]; rfl
  have Q0 := Hd e0
  by_cases q1 : n = 0
  ·have e1 : (n != 0) = false := by simpa using q1
   have Q1 := Hd q1
   clear q1
   by_cases q2 : nf = 0
   ·have e2 : ¬ 0 < nf := by omega
    have z2 : decide ((0 : Int) < (nf : Int)) = false := by simp; omega
    have Q2 := Hd e2
    clear q2
    by_cases h1 : lo ≤ (np : Int)
    ·by_cases h2 : hi = -1
     ·have t2 : (hi == -1) = true := by simpa using h2
      have HR : Hid (fitsB ⟨false, false, false, true, lo, hi, true⟩ t n np nf nv = true) := Hd (by unfold fitsB; simp [Q0.out, Q1.out, Q2.out, h1, h2])
      clear h2
      go_enter Tryz.func82, Tryz.ntmps82
      go_wp2_with fail
      go_quiet (fail)
      go_wp2_with fail
      go_ret
      exact ⟨by rw [HR.out]; first | rfl | (show Ending.returned (.bool (decide ((np : Int) ≤ hi))) = _; rw [t3]), by first | exact HB.out | exact drewN_below HB.out _ | exact HB.out.drew⟩
     ·have t2 : (hi == -1) = false := by simpa using h2
      by_cases h3 : (np : Int) ≤ hi
      ·have t3 : decide ((np : Int) ≤ hi) = true := by simpa using h3
       have HR : Hid (fitsB ⟨false, false, false, true, lo, hi, true⟩ t n np nf nv = true) := Hd (by unfold fitsB; simp [Q0.out, Q1.out, Q2.out, h1, t2, h3])
       clear h2
       go_enter Tryz.func82, Tryz.ntmps82
       go_wp2_with fail
       go_quiet (fail)
       go_wp2_with fail
       go_ret
       exact ⟨by rw [HR.out]; first | rfl | (show Ending.returned (.bool (decide ((np : Int) ≤ hi))) = _; rw [t3]), by first | exact HB.out | exact drewN_below HB.out _ | exact HB.out.drew⟩
      ·have t3 : decide ((np : Int) ≤ hi) = false := by simpa using h3
       have HR : Hid (fitsB ⟨false, false, false, true, lo, hi, true⟩ t n np nf nv = false) := Hd (by unfold fitsB; simp [Q0.out, Q1.out, Q2.out, t2, h3])
       clear h2
       go_enter Tryz.func82, Tryz.ntmps82
       go_wp2_with fail
       go_quiet (fail)
       go_wp2_with fail
       go_ret
       exact ⟨by rw [HR.out]; first | rfl | (show Ending.returned (.bool (decide ((np : Int) ≤ hi))) = _; rw [t3]), by first | exact HB.out | exact drewN_below HB.out _ | exact HB.out.drew⟩
    ·have t1 : decide (lo ≤ (np : Int)) = false := by simpa using h1
     have t1b : (np : Int) < lo := by omega
     have HR : Hid (fitsB ⟨false, false, false, true, lo, hi, true⟩ t n np nf nv = false) := Hd (by unfold fitsB; simp [Q0.out, Q1.out, Q2.out, h1])
     go_enter Tryz.func82, Tryz.ntmps82
     go_wp2_with fail
     go_quiet (fail)
     go_wp2_with fail
     go_ret
     exact ⟨by rw [HR.out]; first | rfl | (show Ending.returned (.bool (decide ((np : Int) ≤ hi))) = _; rw [t3]), by first | exact HB.out | exact drewN_below HB.out _ | exact HB.out.drew⟩
   ·have e2 : 0 < nf := by omega
    have z2 : decide ((0 : Int) < (nf : Int)) = true := by simp; omega
    have Q2 := Hd e2
    clear q2
    have HR : Hid (fitsB ⟨false, false, false, true, lo, hi, true⟩ t n np nf nv = false) := Hd (by unfold fitsB; simp [Q0.out, Q1.out, Q2.out])
    go_enter Tryz.func82, Tryz.ntmps82
    go_wp2_with fail
    go_ret
    exact ⟨by rw [HR.out]; first | rfl | (show Ending.returned (.bool (decide ((np : Int) ≤ hi))) = _; rw [t3]), by first | exact HB.out | exact drewN_below HB.out _ | exact HB.out.drew⟩
  ·have e1 : (n != 0) = true := by simpa using q1
   have Q1 := Hd q1
   have HR : Hid (fitsB ⟨false, false, false, true, lo, hi, true⟩ t n np nf nv = false) := Hd (by unfold fitsB; simp [Q0.out, Q1.out])
   clear q1
   go_enter Tryz.func82, Tryz.ntmps82
   go_wp2_with fail
   go_ret
   exact ⟨by rw [HR.out]; first | rfl | (show Ending.returned (.bool (decide ((np : Int) ≤ hi))) = _; rw [t3]), by first | exact HB.out | exact drewN_below HB.out _ | exact HB.out.drew⟩
 | cons hd tl =>
  have e0 : (t.toList == []) = false := by rw [q0]; rfl
  have Q0 := Hd e0
  have HR : Hid (fitsB ⟨false, false, false, true, lo, hi, true⟩ t n np nf nv = false) := Hd (by unfold fitsB; simp [Q0.out])
  go_enter Tryz.func82, Tryz.ntmps82
  go_wp2_with fail
  go_ret
  exact ⟨by rw [HR.out]; first | rfl | (show Ending.returned (.bool (decide ((np : Int) ≤ hi))) = _; rw [t3]), by first | exact HB.out | exact drewN_below HB.out _ | exact HB.out.drew⟩
theorem fits_fftf {w : World} {b o np nf nv c1 c2 c3 : Nat} {t : ByteArray} {n lo hi : Int} {A1 A2 A3 : Option Addr} (x1 : w.cell? ⟨b, o + 1, none⟩ = some (.string t)) (x2 : w.cell? ⟨b, o + 2, none⟩ = some (.int .i64 n)) (x3 : w.cell? ⟨b, o + 3, none⟩ = some (.slice A1 np c1)) (_x4 : w.cell? ⟨b, o + 4, none⟩ = some (.slice A2 nf c2)) (x5 : w.cell? ⟨b, o + 5, none⟩ = some (.slice A3 nv c3)) :
  Calls Tryz.prog 82 #[.agg #[.bool false, .bool false, .bool true, .bool false, .int .i64 lo, .int .i64 hi], .pointer (some ⟨b, o, none⟩)] w fun e w' => e = .returned (.bool (fitsB ⟨false, false, true, false, lo, hi, true⟩ t n np nf nv)) ∧ Below w.heap.size w w' := by
 have hlt : b < w.heap.size := World.block_lt_of_cell? _ _ x1
 have HB : Hid (Below w.heap.size w (w.alloc (.cells #[.bool false, .bool false, .bool true, .bool false, .int .i64 lo, .int .i64 hi] 116))) := Hd ((Below.refl _ _).alloc (Nat.le_refl _) _)
 cases q0 : t.toList with
 | nil =>
  have e0 : (t.toList == []) = true := by rw [q0]; rfl
  have Q0 := Hd e0
  by_cases q1 : n = 0
  ·have e1 : (n != 0) = false := by simpa using q1
   have Q1 := Hd q1
   clear q1
   by_cases q3 : nv = 0
   ·have e3 : ¬ 0 < nv := by omega
    have z3 : decide ((0 : Int) < (nv : Int)) = false := by simp; omega
    have Q3 := Hd e3
    clear q3
    by_cases h1 : lo ≤ (np : Int)
    ·by_cases h2 : hi = -1
     ·have t2 : (hi == -1) = true := by simpa using h2
      have HR : Hid (fitsB ⟨false, false, true, false, lo, hi, true⟩ t n np nf nv = true) := Hd (by unfold fitsB; simp [Q0.out, Q1.out, Q3.out, h1, h2])
      clear h2
      go_enter Tryz.func82, Tryz.ntmps82
      go_wp2_with fail
      go_quiet (fail)
      go_wp2_with fail
      go_ret
      exact ⟨by rw [HR.out]; first | rfl | (show Ending.returned (.bool (decide ((np : Int) ≤ hi))) = _; rw [t3]), by first | exact HB.out | exact drewN_below HB.out _ | exact HB.out.drew⟩
     ·have t2 : (hi == -1) = false := by simpa using h2
      by_cases h3 : (np : Int) ≤ hi
      ·have t3 : decide ((np : Int) ≤ hi) = true := by simpa using h3
       have HR : Hid (fitsB ⟨false, false, true, false, lo, hi, true⟩ t n np nf nv = true) := Hd (by unfold fitsB; simp [Q0.out, Q1.out, Q3.out, h1, t2, h3])
       clear h2
       go_enter Tryz.func82, Tryz.ntmps82
       go_wp2_with fail
       go_quiet (fail)
       go_wp2_with fail
       go_ret
       exact ⟨by rw [HR.out]; first | rfl | (show Ending.returned (.bool (decide ((np : Int) ≤ hi))) = _; rw [t3]), by first | exact HB.out | exact drewN_below HB.out _ | exact HB.out.drew⟩
      ·have t3 : decide ((np : Int) ≤ hi) = false := by simpa using h3
       have HR : Hid (fitsB ⟨false, false, true, false, lo, hi, true⟩ t n np nf nv = false) := Hd (by unfold fitsB; simp [Q0.out, Q1.out, Q3.out, t2, h3])
       clear h2
       go_enter Tryz.func82, Tryz.ntmps82
       go_wp2_with fail
       go_quiet (fail)
       go_wp2_with fail
       go_ret
       exact ⟨by rw [HR.out]; first | rfl | (show Ending.returned (.bool (decide ((np : Int) ≤ hi))) = _; rw [t3]), by first | exact HB.out | exact drewN_below HB.out _ | exact HB.out.drew⟩
    ·have t1 : decide (lo ≤ (np : Int)) = false := by simpa using h1
     have t1b : (np : Int) < lo := by omega
     have HR : Hid (fitsB ⟨false, false, true, false, lo, hi, true⟩ t n np nf nv = false) := Hd (by unfold fitsB; simp [Q0.out, Q1.out, Q3.out, h1])
     go_enter Tryz.func82, Tryz.ntmps82
     go_wp2_with fail
     go_quiet (fail)
     go_wp2_with fail
     go_ret
     exact ⟨by rw [HR.out]; first | rfl | (show Ending.returned (.bool (decide ((np : Int) ≤ hi))) = _; rw [t3]), by first | exact HB.out | exact drewN_below HB.out _ | exact HB.out.drew⟩
   ·have e3 : 0 < nv := by omega
    have z3 : decide ((0 : Int) < (nv : Int)) = true := by simp; omega
    have Q3 := Hd e3
    clear q3
    have HR : Hid (fitsB ⟨false, false, true, false, lo, hi, true⟩ t n np nf nv = false) := Hd (by unfold fitsB; simp [Q0.out, Q1.out, Q3.out])
    go_enter Tryz.func82, Tryz.ntmps82
    go_wp2_with fail
    go_ret
    exact ⟨by rw [HR.out]; first | rfl | (show Ending.returned (.bool (decide ((np : Int) ≤ hi))) = _; rw [t3]), by first | exact HB.out | exact drewN_below HB.out _ | exact HB.out.drew⟩
  ·have e1 : (n != 0) = true := by simpa using q1
   have Q1 := Hd q1
   have HR : Hid (fitsB ⟨false, false, true, false, lo, hi, true⟩ t n np nf nv = false) := Hd (by unfold fitsB; simp [Q0.out, Q1.out])
   clear q1
   go_enter Tryz.func82, Tryz.ntmps82
   go_wp2_with fail
   go_ret
   exact ⟨by rw [HR.out]; first | rfl | (show Ending.returned (.bool (decide ((np : Int) ≤ hi))) = _; rw [t3]), by first | exact HB.out | exact drewN_below HB.out _ | exact HB.out.drew⟩
 | cons hd tl =>
  have e0 : (t.toList == []) = false := by rw [q0]; rfl
  have Q0 := Hd e0
  have HR : Hid (fitsB ⟨false, false, true, false, lo, hi, true⟩ t n np nf nv = false) := Hd (by unfold fitsB; simp [Q0.out])
  go_enter Tryz.func82, Tryz.ntmps82
  go_wp2_with fail
  go_ret
  exact ⟨by rw [HR.out]; first | rfl | (show Ending.returned (.bool (decide ((np : Int) ≤ hi))) = _; rw [t3]), by first | exact HB.out | exact drewN_below HB.out _ | exact HB.out.drew⟩
theorem order_step (k : Int) (t : ByteArray) (n : Int) (ps : List Ty) (fs : FsT) (vs : VsT) (hp : ∀ p ∈ ps, OrdT p) (hf : ∀ f ∈ fs, OrdT f.2.2) (hv : ∀ v ∈ vs, ∀ b ∈ v.2, OrdT b) : OrdT (.mk k t n ps fs vs) := by
 intro K K' tt
 obtain ⟨k', t', n', ps2, fs2, vs2⟩ := tt
 refine ⟨fun w b o b' o' h h' => ?_⟩
 obtain ⟨A, c, A2, c2, A3, c3, ⟨x0, x1, x2, x3, x4, x5⟩, _, hP, hF, hV⟩ := h.six
 obtain ⟨B, d, B2, d2, B3, d3, ⟨y0, y1, y2, y3, y4, y5⟩, _, hP2, hF2, hV2⟩ := h'.six
 rw [ord_steps, ← or2_assoc (cmpB t t') _ _, ← or2_assoc (cmpZ k k') _ _, ← or2_assoc (cmpZ k k') _ _]
 have KA := Hd (fun w => compare_i k k' w)
 have KB := Hd (fun w => compare_s t t' w)
 have KC := Hd (fun w => compare_l n n' w)
 have KP := Hd (fun w' (hb : Below w.heap.size w w') => list_any ps ps2 hp (hP.later hb) (hP2.later hb))
 have KF := Hd (fun w' (hb : Below w.heap.size w w') => fields_any fs fs2 hf (hF.later hb) (hF2.later hb))
 have KV := Hd (fun w' (hb : Below w.heap.size w w') => vars_any vs vs2 hv (hV.later hb) (hV2.later hb))
 generalize cmpZ k k' = ca at KA ⊢
 generalize cmpB t t' = cb at KB ⊢
 generalize cmpZ n n' = cc at KC ⊢
 generalize lexC (flatL ps) (flatL ps2) = cp at KP ⊢
 generalize lexC (flatF fs) (flatF fs2) = cf at KF ⊢
 generalize lexC (flatV vs) (flatV vs2) = cv at KV ⊢
 rw [or2_assoc ca cb cc]
 have HBx : Hid (Gw w (w.alloc (.cells #[.int .i64 ca, .int .i64 cb, .int .i64 cc] 3)).drew) := Hd ((Gw.refl _).alloc _).drew
 have HS1 : Hid ((w.drew).cell? ⟨b, o, none⟩ = some (.int .i64 k) ∧ (w.drew).cell? ⟨b', o', none⟩ = some (.int .i64 k') ∧ (w.drew).cell? ⟨b, o + 1, none⟩ = some (.string t) ∧ (w.drew).cell? ⟨b', o' + 1, none⟩ = some (.string t') ∧ (w.drew).cell? ⟨b, o + 2, none⟩ = some (.int .i64 n) ∧ (w.drew).cell? ⟨b', o' + 2, none⟩ = some (.int .i64 n')) := Hd ⟨x0, y0, x1, y1, x2, y2⟩
 have HK3 : Hid (((w.alloc (.cells #[.int .i64 ca, .int .i64 cb, .int .i64 cc] 3)).drew).cell? ⟨b, o, none⟩ = some (.int .i64 k) ∧ ((w.alloc (.cells #[.int .i64 ca, .int .i64 cb, .int .i64 cc] 3)).drew).cell? ⟨b', o', none⟩ = some (.int .i64 k') ∧ ((w.alloc (.cells #[.int .i64 ca, .int .i64 cb, .int .i64 cc] 3)).drew).cell? ⟨b, o + 1, none⟩ = some (.string t) ∧ ((w.alloc (.cells #[.int .i64 ca, .int .i64 cb, .int .i64 cc] 3)).drew).cell? ⟨b', o' + 1, none⟩ = some (.string t') ∧ ((w.alloc (.cells #[.int .i64 ca, .int .i64 cb, .int .i64 cc] 3)).drew).cell? ⟨b, o + 2, none⟩ = some (.int .i64 n) ∧ ((w.alloc (.cells #[.int .i64 ca, .int .i64 cb, .int .i64 cc] 3)).drew).cell? ⟨b', o' + 2, none⟩ = some (.int .i64 n')) := Hd ⟨cell_stays HBx.out.below x0, cell_stays HBx.out.below y0, cell_stays HBx.out.below x1, cell_stays HBx.out.below y1, cell_stays HBx.out.below x2, cell_stays HBx.out.below y2⟩
 have HSo : Hid (∀ w', Below w.heap.size w w' → (w'.cell? ⟨b, o + 3, none⟩ = some (.slice A ps.length c) ∧ w'.cell? ⟨b', o' + 3, none⟩ = some (.slice B ps2.length d)) ∧ (w'.cell? ⟨b, o + 4, none⟩ = some (.slice A2 fs.length c2) ∧ w'.cell? ⟨b', o' + 4, none⟩ = some (.slice B2 fs2.length d2)) ∧ w'.cell? ⟨b, o + 5, none⟩ = some (.slice A3 vs.length c3) ∧ w'.cell? ⟨b', o' + 5, none⟩ = some (.slice B3 vs2.length d3)) := Hd fun w' hb => ⟨⟨cell_stays hb x3, cell_stays hb y3⟩, ⟨cell_stays hb x4, cell_stays hb y4⟩, cell_stays hb x5, cell_stays hb y5⟩
 clear hp hf hv h h' x0 x1 x2 x3 x4 x5 y0 y1 y2 y3 y4 y5 hP hF hV hP2 hF2 hV2
 go_enter Tryz.func77, Tryz.ntmps77
 go_wp2_with fail
 refine wp_region_held_drew (S := (fun w' => w'.cell? ⟨b, o, none⟩ = some (.int .i64 k) ∧ w'.cell? ⟨b', o', none⟩ = some (.int .i64 k') ∧ w'.cell? ⟨b, o + 1, none⟩ = some (.string t) ∧ w'.cell? ⟨b', o' + 1, none⟩ = some (.string t') ∧ w'.cell? ⟨b, o + 2, none⟩ = some (.int .i64 n) ∧ w'.cell? ⟨b', o' + 2, none⟩ = some (.int .i64 n'))) (by kernel_rfl) HS1.out (fun hHeld => ?_)
 refine Plan.start [0, 1, 2, 3, 4, 5, 6, 7, 9, 10, 11, 12, 13, 14, 15, 16, 18, 19, 20, 21, 22, 23, 24, 25] ?_
 iterate 24 (refine Plan.tk (so rfl) hHeld ?_; try simp only [Act.put, pz1, pz2, pz3])
 refine Plan.done ?_
 refine wpAnyH_ready (rs := [8]) (by kernel_rfl) (by simp) ?_
 refine AllReadyH.cons (sd (some 16) rfl) (fun K hK => ?_) AllReadyH.nil
 go_simp
 refine (KA.out _).mono ?_
 rintro e w2 ⟨rfl, rfl⟩
 go_wp2_with fail
 refine hK.out _ _ (HS1.out) (fun hHeld => ?_)
 clear hK K
 try simp only [Act.put, pz1, pz2, pz3]
 refine wpAnyH_ready (rs := [17]) (by kernel_rfl) (by simp) ?_
 refine AllReadyH.cons (sd (some 25) rfl) (fun K hK => ?_) AllReadyH.nil
 go_simp
 refine (KB.out _).mono ?_
 rintro e w2 ⟨rfl, rfl⟩
 go_wp2_with fail
 refine hK.out _ _ (HS1.out) (fun hHeld => ?_)
 clear hK K
 try simp only [Act.put, pz1, pz2, pz3]
 refine wpAnyH_ready (rs := [26]) (by kernel_rfl) (by simp) ?_
 refine AllReadyH.cons (sd (some 34) rfl) (fun K hK => ?_) AllReadyH.nil
 go_simp
 refine (KC.out _).mono ?_
 rintro e w2 ⟨rfl, rfl⟩
 go_wp2_with fail
 refine hK.out _ _ (HS1.out) (fun hHeld => ?_)
 clear hK K
 try simp only [Act.put, pz1, pz2, pz3]
 refine wpAnyH_ready (rs := [27]) (by kernel_rfl) (by simp) ?_
 refine AllReadyH.cons (sd (some 35) rfl) (fun K hK => ?_) AllReadyH.nil
 go_simp
 refine hK.out _ _ (HK3.out) (fun hHeld => ?_)
 clear hK K
 try simp only [Act.put, pz1, pz2, pz3]
 refine wpAnyH_ready (rs := [28]) (by kernel_rfl) (by simp) ?_
 refine AllReadyH.cons (sd (some 36) rfl) (fun K hK => ?_) AllReadyH.nil
 go_simp
 refine (or_3 _ _ _ _ _ (boxZ3 w ca cb cc).1 (boxZ3 w ca cb cc).2.1 (boxZ3 w ca cb cc).2.2).mono ?_
 rintro e w2 ⟨rfl, rfl⟩
 go_wp2_with fail
 refine hK.out _ _ (HK3.out) (fun hHeld => ?_)
 clear hK K
 try simp only [Act.put, pz1, pz2, pz3]
 refine Plan.start [29] ?_
 refine Plan.tk (so rfl) hHeld ?_
 try simp only [Act.put, pz1, pz2, pz3]
 refine Plan.done ?_
 refine wpAnyH_done (by kernel_rfl) ?_ _
 clear hHeld
 by_cases hc : or2 ca (or2 cb cc) = 0
 case neg =>
  have tc : (or2 ca (or2 cb cc) != 0) = true := by simpa using hc
  have HC := Hd hc
  clear hc
  go_wp2_with fail
  go_ret
  exact ⟨by rw [or2_ne HC.out]; rfl, HBx.out⟩
 have tc : (or2 ca (or2 cb cc) != 0) = false := by simpa using hc
 have H0 := Hd hc
 clear hc
 go_wp2_with fail
 refine wp_region_held_drew (S := (fun w' => w'.cell? ⟨b, o + 3, none⟩ = some (.slice A ps.length c) ∧ w'.cell? ⟨b', o' + 3, none⟩ = some (.slice B ps2.length d))) (by kernel_rfl) (HSo.out _ HBx.out.drew.below |> fun h => ⟨h.1.1, h.1.2⟩) (fun hHeld => ?_)
 refine Plan.start [0, 1, 2, 3, 4, 5, 6, 7] ?_
 iterate 8 (refine Plan.tk (so rfl) hHeld ?_; try simp only [Act.put, pz1, pz2, pz3])
 refine Plan.done ?_
 refine wpAnyH_ready (rs := [8]) (by kernel_rfl) (by simp) ?_
 refine AllReadyH.cons (sd (some 48) rfl) (fun K hK => ?_) AllReadyH.nil
 go_simp
 refine (KP.out _ HBx.out.drew.below).mono ?_
 rintro e w4 ⟨rfl, hb4⟩
 have HB4 : Hid (Gw w w4) := Hd (HBx.out.drew.trans hb4)
 clear hb4
 go_wp2_with fail
 refine hK.out _ _ ((HSo.out _ HB4.out.below |> fun h => ⟨h.1.1, h.1.2⟩)) (fun hHeld => ?_)
 clear hK K
 try simp only [Act.put, pz1, pz2, pz3]
 refine Plan.start [9] ?_
 refine Plan.tk (so rfl) hHeld ?_
 try simp only [Act.put, pz1, pz2, pz3]
 refine Plan.done ?_
 refine wpAnyH_done (by kernel_rfl) ?_ _
 clear hHeld
 by_cases hc : cp = 0
 case neg =>
  have tc : (cp != 0) = true := by simpa using hc
  have HC := Hd hc
  clear hc
  go_wp2_with fail
  go_ret
  exact ⟨by rw [H0.out, or2_zero, or2_ne HC.out]; rfl, HB4.out⟩
 have tc : (cp != 0) = false := by simpa using hc
 have H1 := Hd hc
 clear hc
 go_wp2_with fail
 refine wp_region_held_drew (S := (fun w' => w'.cell? ⟨b, o + 4, none⟩ = some (.slice A2 fs.length c2) ∧ w'.cell? ⟨b', o' + 4, none⟩ = some (.slice B2 fs2.length d2))) (by kernel_rfl) (HSo.out _ HB4.out.drew.below |> fun h => ⟨h.2.1.1, h.2.1.2⟩) (fun hHeld => ?_)
 refine Plan.start [0, 1, 2, 3, 4, 5, 6, 7] ?_
 iterate 8 (refine Plan.tk (so rfl) hHeld ?_; try simp only [Act.put, pz1, pz2, pz3])
 refine Plan.done ?_
 refine wpAnyH_ready (rs := [8]) (by kernel_rfl) (by simp) ?_
 refine AllReadyH.cons (sd (some 60) rfl) (fun K hK => ?_) AllReadyH.nil
 go_simp
 refine (KF.out _ HB4.out.drew.below).mono ?_
 rintro e w5 ⟨rfl, hb4⟩
 have HB5 : Hid (Gw w w5) := Hd (HB4.out.drew.trans hb4)
 clear hb4
 go_wp2_with fail
 refine hK.out _ _ ((HSo.out _ HB5.out.below |> fun h => ⟨h.2.1.1, h.2.1.2⟩)) (fun hHeld => ?_)
 clear hK K
 try simp only [Act.put, pz1, pz2, pz3]
 refine Plan.start [9] ?_
 refine Plan.tk (so rfl) hHeld ?_
 try simp only [Act.put, pz1, pz2, pz3]
 refine Plan.done ?_
 refine wpAnyH_done (by kernel_rfl) ?_ _
 clear hHeld
 by_cases hc : cf = 0
 case neg =>
  have tc : (cf != 0) = true := by simpa using hc
  have HC := Hd hc
  clear hc
  go_wp2_with fail
  go_ret
  exact ⟨by rw [H0.out, or2_zero, H1.out, or2_zero, or2_ne HC.out]; rfl, HB5.out⟩
 have tc : (cf != 0) = false := by simpa using hc
 have H2 := Hd hc
 clear hc
 go_wp2_with fail
 refine wp_region_held_drew (S := (fun w' => w'.cell? ⟨b, o + 5, none⟩ = some (.slice A3 vs.length c3) ∧ w'.cell? ⟨b', o' + 5, none⟩ = some (.slice B3 vs2.length d3))) (by kernel_rfl) (HSo.out _ HB5.out.drew.below |> fun h => ⟨h.2.2.1, h.2.2.2⟩) (fun hHeld => ?_)
 refine Plan.start [0, 1, 2, 3, 4, 5, 6, 7] ?_
 iterate 8 (refine Plan.tk (so rfl) hHeld ?_; try simp only [Act.put, pz1, pz2, pz3])
 refine Plan.done ?_
 refine wpAnyH_ready (rs := [8]) (by kernel_rfl) (by simp) ?_
 refine AllReadyH.cons (sd (some 72) rfl) (fun K hK => ?_) AllReadyH.nil
 go_simp
 refine (KV.out _ HB5.out.drew.below).mono ?_
 rintro e w6 ⟨rfl, hb4⟩
 have HB6 : Hid (Gw w w6) := Hd (HB5.out.drew.trans hb4)
 clear hb4
 go_wp2_with fail
 refine hK.out _ _ ((HSo.out _ HB6.out.below |> fun h => ⟨h.2.2.1, h.2.2.2⟩)) (fun hHeld => ?_)
 clear hK K
 try simp only [Act.put, pz1, pz2, pz3]
 refine Plan.start [9] ?_
 refine Plan.tk (so rfl) hHeld ?_
 try simp only [Act.put, pz1, pz2, pz3]
 refine Plan.done ?_
 refine wpAnyH_done (by kernel_rfl) ?_ _
 clear hHeld
 go_wp2_with fail
 go_ret
 exact ⟨by rw [H0.out, or2_zero, H1.out, or2_zero, H2.out, or2_zero]; rfl, HB6.out⟩
theorem order_any (t : Ty) : OrdT t := Ty.ind (C := OrdT) (fun k t n ps fs vs hp hf hv => order_step k t n ps fs vs hp hf hv) t
theorem Order_any {K K' : Nat → Prop} {w : World} {t t' : Ty} {cs cs' : List Value} (h : RepT K w t cs) (h' : RepT K' w t' cs') :
  Calls Tryz.prog 74 #[.agg cs.toArray, .agg cs'.toArray] w fun e w' => e = .returned (.int .i64 (ordT t t')) ∧ Gw w w' := by
 have hb1 : Gw w (w.alloc (.cells cs.toArray 26)) := (Gw.refl w).alloc _
 have hb2 : Gw w ((w.alloc (.cells cs.toArray 26)).alloc (.cells cs'.toArray 26)) := hb1.alloc _
 have a1 : AtT K ((w.alloc (.cells cs.toArray 26)).alloc (.cells cs'.toArray 26)) t w.heap.size 0 := (AtT.box _ h).later ((Below.refl _ _).alloc (Nat.le_refl _) _)
 have a2 : AtT K' ((w.alloc (.cells cs.toArray 26)).alloc (.cells cs'.toArray 26)) t' (w.heap.size + 1) 0 := by
  have := AtT.box (w := w.alloc (.cells cs.toArray 26)) 26 (h'.later hb1.below)
  rw [World.size_alloc] at this
  exact this
 have KO := Hd ((order_any t K K' t').ok _ _ _ _ _ a1 a2)
 have HB := Hd hb2
 obtain ⟨k, s, n, ps, fs, vs⟩ := t
 obtain ⟨k', s', n', ps', fs', vs'⟩ := t'
 obtain ⟨A, c, A', c', A'', c'', rfl, _⟩ := h.inv
 obtain ⟨B, d, B', d', B'', d'', rfl, _⟩ := h'.inv
 clear a1 a2 hb1 hb2 h h'
 generalize ordT (.mk k s n ps fs vs) (.mk k' s' n' ps' fs' vs') = r at KO ⊢
 simp only [cells6T] at KO HB ⊢
 go_enter Tryz.func74, Tryz.ntmps74
 go_wp2_with fail
 refine KO.out.mono ?_
 rintro e w1 ⟨rfl, hb⟩
 have HB1 := Hd (HB.out.trans hb)
 clear hb
 go_wp2_with fail
 go_ret
 exact ⟨rfl, HB1.out⟩
def cntT : Ty → Nat
 | .mk _ _ _ ps fs vs => 1 + ((ps.attach.map fun ⟨p, _⟩ => cntT p).sum + ((fs.attach.map fun ⟨f, _⟩ => cntT f.2.2).sum + (vs.attach.map fun ⟨v, _⟩ => (v.2.attach.map fun ⟨b, _⟩ => cntT b).sum).sum))
termination_by t => SizeOf.sizeOf t
decreasing_by
 ·exact ty_lt_p ‹_›
 ·exact ty_lt_f ‹_›
 ·exact ty_lt_v ‹_› ‹_›
def cntL (l : List Ty) : Nat := (l.map cntT).sum
def cntF (l : FsT) : Nat := (l.map fun f => cntT f.2.2).sum
def cntV (l : VsT) : Nat := (l.map fun v => cntL v.2).sum
theorem cntT_mk (k t n ps fs vs) : cntT (.mk k t n ps fs vs) = 1 + (cntL ps + (cntF fs + cntV vs)) := by
 rw [cntT]
 unfold cntL cntF cntV cntL
 simp only [List.map_attach_eq_pmap, List.pmap_eq_map]
def capN (n : Nat) : Nat := min n 4097
def Told (n S : Nat) : Prop := capN n = capN S ∧ n ≤ 8193
theorem Told.more {n S x : Nat} (h : Told n S) (hn : n ≤ 4096) : Told (n + capN x) (S + x) := by
 unfold Told capN at *
 omega
theorem Told.full {n S x : Nat} (h : Told n S) (hn : ¬ n ≤ 4096) : Told n (S + x) := by
 unfold Told capN at *
 omega
theorem take_end {α : Type} {l : List α} {i : Nat} (h : i < l.length) : l.take (i + 1) = l.take i ++ [l[i]] := by
 rw [List.take_add_one, List.getElem?_eq_getElem h]
 rfl
theorem cntL_take {l : List Ty} {i : Nat} (h : i < l.length) : cntL (l.take (i + 1)) = cntL (l.take i) + cntT l[i] := by
 unfold cntL
 rw [take_end h, List.map_append, List.sum_append]
 simp only [List.map_cons, List.map_nil, List.sum_cons, List.sum_nil, Nat.add_zero]
theorem cntF_take {l : FsT} {i : Nat} (h : i < l.length) : cntF (l.take (i + 1)) = cntF (l.take i) + cntT l[i].2.2 := by
 unfold cntF
 rw [take_end h, List.map_append, List.sum_append]
 simp only [List.map_cons, List.map_nil, List.sum_cons, List.sum_nil, Nat.add_zero]
theorem cntV_take {l : VsT} {i : Nat} (h : i < l.length) : cntV (l.take (i + 1)) = cntV (l.take i) + cntL l[i].2 := by
 unfold cntV
 rw [take_end h, List.map_append, List.sum_append]
 simp only [List.map_cons, List.map_nil, List.sum_cons, List.sum_nil, Nat.add_zero]
theorem cntL_split (l : List Ty) (i : Nat) : ∃ x, cntL l = cntL (l.take i) + x := ⟨cntL (l.drop i), by unfold cntL; rw [← List.sum_append, ← List.map_append, List.take_append_drop]⟩
theorem cntF_split (l : FsT) (i : Nat) : ∃ x, cntF l = cntF (l.take i) + x := ⟨cntF (l.drop i), by unfold cntF; rw [← List.sum_append, ← List.map_append, List.take_append_drop]⟩
theorem cntV_split (l : VsT) (i : Nat) : ∃ x, cntV l = cntV (l.take i) + x := ⟨cntV (l.drop i), by unfold cntV; rw [← List.sum_append, ← List.map_append, List.take_append_drop]⟩
theorem box_two (w0 : World) (cs ds : List Value) : ∃ (w1 : World) (g1 g2 : Nat), (w0.alloc (.cells cs.toArray 26)).alloc (.cells ds.toArray 26) = w1 ∧ w0.heap.size = g1 ∧ g1 + 1 = g2 ∧ Below w0.heap.size w0 w1 ∧ w1.heap.size = w0.heap.size + 2 ∧ w1.heap[g1]? = some (.cells cs.toArray 26 (0, 0)) ∧ w1.heap[g2]? = some (.cells ds.toArray 26 (0, 0)) := by
 refine ⟨_, _, _, rfl, rfl, rfl, ((Below.refl _ _).alloc (Nat.le_refl _) _).alloc (by simp) _, by simp, ?_, ?_⟩
 ·rw [Below.heap_alloc _ _ _ (by simp)]
  exact heap_alloc_new w0 _
 ·have h := heap_alloc_new (w0.alloc (.cells cs.toArray 26)) (.cells ds.toArray 26)
  rw [World.size_alloc] at h
  exact h
theorem same_any {K K' : Nat → Prop} {w : World} {s t : Ty} {cs ds : List Value} (hr : RepT K w s cs) (hp : RepT K' w t ds) :
  Calls Tryz.prog 86 #[.agg cs.toArray, .agg ds.toArray] w fun e w' => e = .returned (.bool (decide (ordT s t = 0))) ∧ Below w.heap.size w w' := by
 obtain ⟨w1, g1, g2, HW1, HG1, HG2, hb1, hs1, hx, hy⟩ := box_two w cs ds
 obtain ⟨k, s, n, ps, fs, vs⟩ := s
 obtain ⟨A, c, B, d, C, e, rfl, -⟩ := hr.inv
 obtain ⟨k2, s2, n2, ps2, fs2, vs2⟩ := t
 obtain ⟨A2, c2, B2, d2, C2, e2, rfl, -⟩ := hp.inv
 simp only [cells6T] at hr hp hx hy HW1 ⊢
 replace HW1 := Hd HW1
 replace HG1 := Hd HG1
 replace HG2 := Hd HG2
 have HB1 := Hd hb1
 have KO := Hd (Order_any (hr.later hb1) (hp.later hb1))
 obtain ⟨x0, x1, x2, x3, x4, x5⟩ := cz6 hx
 obtain ⟨y0, y1, y2, y3, y4, y5⟩ := cz6 hy
 generalize ordT (.mk k s n ps fs vs) (.mk k2 s2 n2 ps2 fs2 vs2) = q at KO ⊢
 clear hr hp hb1 hs1 hx hy
 go_enter Tryz.func86, Tryz.ntmps86
 go_upto_region 1 with fail
 rw [HW1.out, HG1.out, HG2.out]
 go_wp2_with fail
 refine KO.out.mono ?_
 rintro e5 w5 ⟨rfl, hb5⟩
 have HB5 := Hd (HB1.out.trans (hb5.below.mono HB1.out.size))
 clear hb5 x0 x1 x2 x3 x4 x5 y0 y1 y2 y3 y4 y5
 go_wp2_with fail
 go_ret
 exact ⟨by first | rfl | (congr 2; exact beq_eq_decide _ _) | simp [beq_eq_decide], HB5.out⟩
theorem plainly_any {K K' : Nat → Prop} {w : World} {s t : Ty} {cs ds : List Value} (hr : RepT K w s cs) (hp : RepT K' w t ds) :
  Calls Tryz.prog 59 #[.agg cs.toArray, .agg ds.toArray] w fun e w' => e = .returned (.bool (plnT s t)) ∧ Below w.heap.size w w' := by
 obtain ⟨w1, g1, g2, HW1, HG1, HG2, hb1, hs1, hx, hy⟩ := box_two w cs ds
 obtain ⟨k, s, n, ps, fs, vs⟩ := s
 obtain ⟨A, c, B, d, C, e, rfl, -⟩ := hr.inv
 obtain ⟨k2, s2, n2, ps2, fs2, vs2⟩ := t
 obtain ⟨A2, c2, B2, d2, C2, e2, rfl, -⟩ := hp.inv
 simp only [cells6T] at hr hp hx hy HW1 ⊢
 replace HW1 := Hd HW1
 replace HG1 := Hd HG1
 replace HG2 := Hd HG2
 have HB1 := Hd hb1
 have KO := Hd (same_any (hr.later hb1) (hp.later hb1))
 obtain ⟨x0, x1, x2, x3, x4, x5⟩ := cz6 hx
 obtain ⟨y0, y1, y2, y3, y4, y5⟩ := cz6 hy
 unfold plnT
 show Calls _ _ _ _ fun e w' => e = .returned (.bool (k2 == 3 || k2 == 2 || k == 1 || decide (ordT (.mk k s n ps fs vs) (.mk k2 s2 n2 ps2 fs2 vs2) = 0))) ∧ Below w.heap.size w w'
 generalize ordT (.mk k s n ps fs vs) (.mk k2 s2 n2 ps2 fs2 vs2) = q at KO ⊢
 have HP : Hid (∀ w', Below w.heap.size w w' → ∀ b : Bool, b = (k2 == 3 || k2 == 2 || k == 1 || decide (q = 0)) → Ending.returned (.bool b) = .returned (.bool (k2 == 3 || k2 == 2 || k == 1 || decide (q = 0))) ∧ Below w.heap.size w w') := Hd fun w' h b hb => ⟨by rw [hb], h⟩
 clear hr hp hb1 hs1 hx hy
 go_enter Tryz.func59, Tryz.ntmps59
 go_upto_region 1 with fail
 rw [HW1.out, HG1.out, HG2.out]
 by_cases h3 : k2 = 3
 ·have t3 : (k2 == 3) = true := by simp [h3]
  go_wp2_with fail
  go_ret
  exact HP.out _ HB1.out _ (by simp [t3])
 have t3 : (k2 == 3) = false := by simp [h3]
 by_cases h2 : k2 = 2
 ·have t2 : (k2 == 2) = true := by simp [h2]
  go_wp2_with fail
  go_ret
  exact HP.out _ HB1.out _ (by simp [t2])
 have t2 : (k2 == 2) = false := by simp [h2]
 by_cases h1 : k = 1
 ·have t1 : (k == 1) = true := by simp [h1]
  go_wp2_with fail
  go_ret
  exact HP.out _ HB1.out _ (by simp [t1])
 have t1 : (k == 1) = false := by simp [h1]
 clear h1 h2 h3
 go_wp2_with fail
 refine KO.out.mono ?_
 rintro e5 w5 ⟨rfl, hb5⟩
 have HB5 := Hd (HB1.out.trans (hb5.mono HB1.out.size))
 clear hb5 x0 x1 x2 x3 x4 x5 y0 y1 y2 y3 y4 y5
 go_wp2_with fail
 go_ret
 exact HP.out _ HB5.out _ (by simp [t1, t2, t3])
end Go.Proofs.YtgjblmlibhppiaaGreatDoor
