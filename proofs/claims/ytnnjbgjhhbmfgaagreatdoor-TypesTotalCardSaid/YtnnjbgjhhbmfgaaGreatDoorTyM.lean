import Derived.Test.YtnnjbgjhhbmfgaaGreatDoorTyK
import Derived.Test.YtnnjbgjhhbmfgaaGreatDoorTyD
namespace Go.Proofs.YtnnjbgjhhbmfgaaGreatDoor
open Go.RowKit
set_option maxRecDepth 100000 in
set_option maxHeartbeats 8000000 in
theorem pattern_any {k : Int} {w : World} {b o : Nat} (h : w.cell? ⟨b, o, none⟩ = some (.int .i64 k)) (i : Nat) : Calls Tryz.prog 49 #[.pointer (some ⟨b, o, none⟩), .int .i64 i] w fun e w' => e = .returned (.bool (k == 21 && i == 1)) ∧ w' = w := by
  by_cases hk : k = 21
  · have te : (k == 21) = true := by simpa using hk
    have ti : ((i : Int) == 1) = (i == 1) := by rw [Bool.eq_iff_iff, beq_iff_eq, beq_iff_eq]; omega
    generalize (i == 1) = q at ti ⊢
    clear hk
    go_enter Tryz.func49, Tryz.ntmps49
    go_wp2_with fail
    go_ret
    exact ⟨by rw [te]; rfl, rfl⟩
  · have te : (k == 21) = false := by simpa using hk
    clear hk
    go_enter Tryz.func49, Tryz.ntmps49
    go_wp2_with fail
    go_ret
    exact ⟨by rw [te]; rfl, rfl⟩
/-- A place is told to have a place named by infer, or not. -/
def InfP (t : Ty) : Prop := ∀ (K : Nat → Prop) (w : World) (b o : Nat), AtT K w t b o → Calls Tryz.prog 31 #[.pointer (some ⟨b, o, none⟩)] w fun e w' => e = .returned (.bool (infT t)) ∧ w' = w
theorem infPs_drop {k : Int} {ps : List Ty} {i : Nat} (h : i < ps.length) : infPs k i (ps.drop i) = ((!(k == 21 && i == 1) && infT ps[i]) || infPs k (i + 1) (ps.drop (i + 1))) := by
  rw [List.drop_eq_getElem_cons h, infPs]
theorem infFs_drop {fs : List (ByteArray × Int × Ty)} {i : Nat} (h : i < fs.length) : infFs (fs.drop i) = (infT fs[i].2.2 || infFs (fs.drop (i + 1))) := by
  rw [List.drop_eq_getElem_cons h, infFs, List.any_cons]; rfl
theorem inf_p {K : Nat → Prop} {ps : List Ty} {w : World} {A : Option Addr} {c i : Nat} (hP : ListT K w ps A c) (h : ∀ p ∈ ps, InfP p) (hi : i < ps.length) : ∃ b o, A = some ⟨b, o, none⟩ ∧ Calls Tryz.prog 31 #[.pointer (some ⟨b, o + i * 6, none⟩)] w fun e w' => e = .returned (.bool (infT ps[i])) ∧ w' = w := by
  obtain ⟨b, o, hA, _, hr⟩ := hP.at (by omega)
  exact ⟨b, o, hA, h _ (List.getElem_mem hi) K w b _ (hr i hi)⟩
theorem inf_f {K : Nat → Prop} {fs : List (ByteArray × Int × Ty)} {w : World} {A : Option Addr} {c i : Nat} (hP : ListF K w fs A c) (h : ∀ f ∈ fs, InfP f.2.2) (hi : i < fs.length) : ∃ b o, A = some ⟨b, o, none⟩ ∧ Calls Tryz.prog 31 #[.pointer (some ⟨b, o + i * 8 + 2, none⟩)] w fun e w' => e = .returned (.bool (infT fs[i].2.2)) ∧ w' = w := by
  obtain ⟨b, o, hA, _, hr⟩ := hP.at (by omega)
  exact ⟨b, o, hA, h _ (List.getElem_mem hi) K w b _ (hr i hi).2.2.2⟩
theorem ListF.shortF {K : Nat → Prop} {w : World} {l : List (ByteArray × Int × Ty)} {A : Option Addr} {c : Nat} (h : ListF K w l A c) : l.length ≤ 1000000000000000 := by
  obtain ⟨_, _, hr, _⟩ := h
  exact Nat.le_trans hr.le hr.big
set_option maxRecDepth 100000 in
set_option maxHeartbeats 16000000 in
theorem inf_step (k : Int) (t : ByteArray) (n : Int) (ps : List Ty) (fs : List (ByteArray × Int × Ty)) (vs : List (ByteArray × List Ty)) (hp : ∀ p ∈ ps, InfP p) (hf : ∀ f ∈ fs, InfP f.2.2) : InfP (.mk k t n ps fs vs) := by
  intro K w b o h
  obtain ⟨A, c, A2, c2, A3, c3, ⟨x0, x1, x2, x3, x4, x5⟩, -, hP, hF, -⟩ := h.six
  rw [infT_mk]
  have hlp := hP.short
  have hlf := hF.shortF
  have PT := Lib.hid (pattern_any x0)
  have HP := Lib.hid fun i hi => inf_p hP hp (i := i) hi
  have HF := Lib.hid fun i hi => inf_f hF hf (i := i) hi
  clear h hP hF hp hf x1 x2 x5
  by_cases hk : k = 22
  · have te : (k == 22) = true := by simpa using hk
    clear hk hlp hlf
    go_enter Tryz.func31, Tryz.ntmps31
    go_wp2_with fail
    go_ret
    exact ⟨by rw [te]; rfl, rfl⟩
  have te : (k == 22) = false := by simpa using hk
  have hte := Lib.hid te
  clear hk
  go_enter Tryz.func31, Tryz.ntmps31
  go_wp2_with fail
  go_loopw [15] (fun v wr => ∃ (i : Nat), i ≤ ps.length ∧ v = .int .i64 i ∧ infPs k 0 ps = infPs k i (ps.drop i) ∧ wr = w) (fun v _ => ps.length - (intOf v).toNat)
  case atStart => exact ⟨0, by omega, rfl, by rw [List.drop_zero], rfl⟩
  case round =>
    obtain ⟨i, hi, rfl, he, rfl⟩ := hrel
    have HE := Lib.hid he
    clear he
    by_cases hin : i < ps.length
    · have t1 : decide ((i : Int) < (ps.length : Int)) = true := by simp; omega
      have wr2 : wrap64 ((i : Int) + 1) = ((i + 1 : Nat) : Int) := wrap_one (by omega)
      obtain ⟨pb, po, hA, hN⟩ := HP.out i hin
      have KN := Lib.hid hN
      have HS := Lib.hid (infPs_drop (k := k) hin)
      have PI := Lib.hid (PT.out i)
      have HIn := Lib.hid hin
      subst hA
      generalize hq : (k == 21 && i == 1) = q at PI HS
      generalize hr : infT ps[i] = r at KN HS
      clear hN hi hq hr
      go_wp2_with fail
      refine PI.out.mono ?_
      rintro e w2 ⟨rfl, rfl⟩
      cases q with
      | true =>
        go_wp2_with fail
        refine ⟨⟨i + 1, HIn.out, by first | rfl | rw [wr2], by rw [HE.out, HS.out]; rfl, by first | trivial | rfl⟩, ?_⟩
        first | exact measI HIn.out | exact measT HIn.out | (rw [wr2]; exact measI HIn.out)
      | false =>
        go_wp2_with fail
        refine KN.out.mono ?_
        rintro e w3 ⟨rfl, rfl⟩
        cases r with
        | true =>
          go_wp2_with fail
          go_ret
          exact ⟨by rw [HE.out, HS.out, hte.out]; rfl, rfl⟩
        | false =>
          go_wp2_with fail
          refine ⟨⟨i + 1, HIn.out, by first | rfl | rw [wr2], by rw [HE.out, HS.out]; rfl, by first | trivial | rfl⟩, ?_⟩
          first | exact measI HIn.out | exact measT HIn.out | (rw [wr2]; exact measI HIn.out)
    · have t1 : decide ((i : Int) < (ps.length : Int)) = false := by simp; omega
      have HE1 : Hid (infPs k 0 ps = false) := Lib.hid (by rw [HE.out, List.drop_eq_nil_of_le (by omega)]; rfl)
      clear hi
      go_wp2_with fail
      go_loopw [37] (fun v wx => ∃ (i : Nat), i ≤ fs.length ∧ v = .int .i64 i ∧ infFs fs = infFs (fs.drop i) ∧ wx = wr) (fun v _ => fs.length - (intOf v).toNat)
      case atStart => exact ⟨0, by omega, rfl, by rw [List.drop_zero], rfl⟩
      case round =>
        obtain ⟨i, hi, rfl, he, rfl⟩ := hrel
        have HE := Lib.hid he
        clear he
        by_cases hin : i < fs.length
        · have t1 : decide ((i : Int) < (fs.length : Int)) = true := by simp; omega
          have wr2 : wrap64 ((i : Int) + 1) = ((i + 1 : Nat) : Int) := wrap_one (by omega)
          obtain ⟨pb, po, hA, hN⟩ := HF.out i hin
          have KN := Lib.hid hN
          have HS := Lib.hid (infFs_drop hin)
          have HIn := Lib.hid hin
          subst hA
          generalize hr : infT fs[i].2.2 = r at KN HS
          clear hN hi hr
          go_wp2_with fail
          refine KN.out.mono ?_
          rintro e w3 ⟨rfl, rfl⟩
          cases r with
          | true =>
            go_wp2_with fail
            go_ret
            exact ⟨by rw [HE.out, HS.out, hte.out, HE1.out]; rfl, rfl⟩
          | false =>
            go_wp2_with fail
            refine ⟨⟨i + 1, HIn.out, by first | rfl | rw [wr2], by rw [HE.out, HS.out]; rfl, by first | trivial | rfl⟩, ?_⟩
            first | exact measI HIn.out | exact measT HIn.out | (rw [wr2]; exact measI HIn.out)
        · have t1 : decide ((i : Int) < (fs.length : Int)) = false := by simp; omega
          have HE2 : Hid (infFs fs = false) := Lib.hid (by rw [HE.out, List.drop_eq_nil_of_le (by omega)]; rfl)
          clear hi
          go_wp2_with fail
          go_ret
          exact ⟨by rw [hte.out, HE1.out, HE2.out]; rfl, rfl⟩
theorem inf_any (t : Ty) : InfP t := Ty.ind (C := InfP) (fun k t n ps fs vs hp hf _ => inf_step k t n ps fs vs hp hf) t
end Go.Proofs.YtnnjbgjhhbmfgaaGreatDoor
