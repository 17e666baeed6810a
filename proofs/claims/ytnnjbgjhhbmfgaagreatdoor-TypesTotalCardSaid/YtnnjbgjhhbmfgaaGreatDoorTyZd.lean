import Derived.Test.YtnnjbgjhhbmfgaaGreatDoorTyZb
import Derived.Test.YtnnjbgjhhbmfgaaGreatDoorTyZc
namespace Go.Proofs.YtnnjbgjhhbmfgaaGreatDoor
open Go.RowKit
theorem shape_kinds (k : Int) (hk : (shapeK k).known = true) : ∃ lo hi, shapeK k = ⟨false, false, false, false, lo, hi, true⟩ ∨ shapeK k = ⟨false, true, false, false, lo, hi, true⟩ ∨ shapeK k = ⟨true, false, false, false, lo, hi, true⟩ ∨ shapeK k = ⟨false, false, false, true, lo, hi, true⟩ ∨ shapeK k = ⟨false, false, true, false, lo, hi, true⟩ ∨ shapeK k = ⟨true, true, false, false, lo, hi, true⟩ := by
  unfold shapeK at hk ⊢
  by_cases h : 1 ≤ k ∧ k ≤ 8
  · simp only [if_pos h]
    exact ⟨0, 0, (.inl rfl)⟩
  simp only [if_neg h] at hk ⊢
  clear h
  by_cases h : k = 9
  · simp only [if_pos h]
    exact ⟨0, 0, (.inr (.inl rfl))⟩
  simp only [if_neg h] at hk ⊢
  clear h
  by_cases h : k = 10 ∨ k = 16 ∨ k = 22
  · simp only [if_pos h]
    exact ⟨0, 0, (.inr (.inr (.inl rfl)))⟩
  simp only [if_neg h] at hk ⊢
  clear h
  by_cases h : k = 11 ∨ k = 18
  · simp only [if_pos h]
    exact ⟨1, 1, (.inl rfl)⟩
  simp only [if_neg h] at hk ⊢
  clear h
  by_cases h : k = 12
  · simp only [if_pos h]
    exact ⟨0, (-1), (.inl rfl)⟩
  simp only [if_neg h] at hk ⊢
  clear h
  by_cases h : k = 13
  · simp only [if_pos h]
    exact ⟨1, (-1), (.inr (.inr (.inr (.inl rfl))))⟩
  simp only [if_neg h] at hk ⊢
  clear h
  by_cases h : k = 14
  · simp only [if_pos h]
    exact ⟨0, 0, (.inr (.inr (.inr (.inr (.inl rfl)))))⟩
  simp only [if_neg h] at hk ⊢
  clear h
  by_cases h : k = 15 ∨ k = 23
  · simp only [if_pos h]
    exact ⟨2, (-1), (.inl rfl)⟩
  simp only [if_neg h] at hk ⊢
  clear h
  by_cases h : k = 17
  · simp only [if_pos h]
    exact ⟨0, (-1), (.inr (.inr (.inl rfl)))⟩
  simp only [if_neg h] at hk ⊢
  clear h
  by_cases h : k = 19
  · simp only [if_pos h]
    exact ⟨2, 2, (.inl rfl)⟩
  simp only [if_neg h] at hk ⊢
  clear h
  by_cases h : k = 20
  · simp only [if_pos h]
    exact ⟨2, 2, (.inr (.inr (.inr (.inr (.inr rfl)))))⟩
  simp only [if_neg h] at hk ⊢
  clear h
  by_cases h : k = 21
  · simp only [if_pos h]
    exact ⟨4, 4, (.inr (.inr (.inr (.inr (.inr rfl)))))⟩
  simp only [if_neg h] at hk ⊢
  clear h
  cases hk
theorem fits_any {k : Int} (hk : (shapeK k).known = true) {w : World} {b o np nf nv c1 c2 c3 : Nat} {t : ByteArray} {n : Int} {A1 A2 A3 : Option Addr} (x1 : w.cell? ⟨b, o + 1, none⟩ = some (.string t)) (x2 : w.cell? ⟨b, o + 2, none⟩ = some (.int .i64 n)) (x3 : w.cell? ⟨b, o + 3, none⟩ = some (.slice A1 np c1)) (x4 : w.cell? ⟨b, o + 4, none⟩ = some (.slice A2 nf c2)) (x5 : w.cell? ⟨b, o + 5, none⟩ = some (.slice A3 nv c3)) :
    Calls Tryz.prog 62 #[shpV (shapeK k), .pointer (some ⟨b, o, none⟩)] w fun e w' => e = .returned (.bool (fitsB (shapeK k) t n np nf nv)) ∧ Below w.heap.size w w' := by
  obtain ⟨lo, hi, h⟩ := shape_kinds k hk
  rcases h with h | h | h | h | h | h
  · rw [h]; exact fits_ffff x1 x2 x3 x4 x5
  · rw [h]; exact fits_ftff x1 x2 x3 x4 x5
  · rw [h]; exact fits_tfff x1 x2 x3 x4 x5
  · rw [h]; exact fits_ffft x1 x2 x3 x4 x5
  · rw [h]; exact fits_fftf x1 x2 x3 x4 x5
  · rw [h]; exact fits_ttff x1 x2 x3 x4 x5
/-- What formed, and formedSelf, tell of a type that lies somewhere. -/
def FormIs (t : Ty) (r : Bool) : Prop := ∀ (K : Nat → Prop) (w : World) (b o : Nat), AtT K w t b o → Calls Tryz.prog 35 #[.pointer (some ⟨b, o, none⟩)] w fun e w' => e = .returned (.bool r) ∧ Below w.heap.size w w'
def SelfIs (t : Ty) (r : Bool) : Prop := ∀ (K : Nat → Prop) (w : World) (b o : Nat), AtT K w t b o → Calls Tryz.prog 63 #[.pointer (some ⟨b, o, none⟩)] w fun e w' => e = .returned (.bool r) ∧ Below w.heap.size w w'
theorem all_drop {α : Type} {l : List α} {p : α → Bool} {i : Nat} (h : i < l.length) : (l.drop i).all p = (p l[i] && (l.drop (i + 1)).all p) := by rw [List.drop_eq_getElem_cons h, List.all_cons]
set_option maxRecDepth 100000 in
set_option maxHeartbeats 16000000 in
theorem form_step (k : Int) (t : ByteArray) (n : Int) (ps : List Ty) (fs : List (ByteArray × Int × Ty)) (vs : List (ByteArray × List Ty)) (sv : Bool) (fv : Ty → Bool) (hs : SelfIs (.mk k t n ps fs vs) sv) (hp : ∀ p ∈ ps, FormIs p (fv p)) :
    FormIs (.mk k t n ps fs vs) ((shapeK k).known && fitsB (shapeK k) t n ps.length fs.length vs.length && sv && ps.all fv) := by
  intro K w b o h
  obtain ⟨A, c, A2, c2, A3, c3, ⟨x0, x1, x2, x3, x4, x5⟩, -, hP, -⟩ := h.six
  have KS := Lib.hid (shape_any k w)
  have KF : Hid ((shapeK k).known = true → ∀ wx, Below w.heap.size w wx → Calls Tryz.prog 62 #[shpV (shapeK k), .pointer (some ⟨b, o, none⟩)] wx fun e w' => e = .returned (.bool (fitsB (shapeK k) t n ps.length fs.length vs.length)) ∧ Below wx.heap.size wx w') := Lib.hid fun hk wx hx => fits_any hk (cell_stays hx x1) (cell_stays hx x2) (cell_stays hx x3) (cell_stays hx x4) (cell_stays hx x5)
  have KX : Hid (∀ wx, Below w.heap.size w wx → Calls Tryz.prog 63 #[.pointer (some ⟨b, o, none⟩)] wx fun e w' => e = .returned (.bool sv) ∧ Below wx.heap.size wx w') := Lib.hid fun wx hx => hs K wx b o (h.later hx)
  have HX : Hid (∀ wx, Below w.heap.size w wx → wx.cell? ⟨b, o + 3, none⟩ = some (.slice A ps.length c)) := Lib.hid fun wx hx => cell_stays hx x3
  have HN : Hid (∀ wx i (hi : i < ps.length), Below w.heap.size w wx → ∃ pb po, A = some ⟨pb, po, none⟩ ∧ Calls Tryz.prog 35 #[.pointer (some ⟨pb, po + i * 6, none⟩)] wx fun e w' => e = .returned (.bool (fv ps[i])) ∧ Below wx.heap.size wx w') := Lib.hid fun wx i hi hx => by
    obtain ⟨pb, po, hA, _, hr⟩ := hP.at (by omega)
    exact ⟨pb, po, hA, hp _ (List.getElem_mem hi) K wx pb _ ((hr i hi).later hx)⟩
  have hlp := hP.short
  clear h hs hp hP x1 x2 x3 x4 x5
  generalize fitsB (shapeK k) t n ps.length fs.length vs.length = fb at KF ⊢
  generalize shapeK k = s at KS KF ⊢
  obtain ⟨st, sn, sf, s4, lo, hi, kn⟩ := s
  simp only [shpV] at KS KF ⊢
  cases kn with
  | false =>
    clear KF KX HX HN
    go_enter Tryz.func35, Tryz.ntmps35
    go_wp2_with fail
    refine KS.out.mono ?_
    rintro e w1 ⟨rfl, hb1⟩
    have HB1 := Lib.hid hb1
    clear hb1
    go_wp2_with fail
    go_ret
    exact ⟨rfl, HB1.out.alloc HB1.out.size _⟩
  | true =>
    have KF2 : Hid (∀ wx, Below w.heap.size w wx → Calls Tryz.prog 62 #[.agg #[.bool st, .bool sn, .bool sf, .bool s4, .int .i64 lo, .int .i64 hi], .pointer (some ⟨b, o, none⟩)] wx fun e w' => e = .returned (.bool fb) ∧ Below wx.heap.size wx w') := Lib.hid (KF.out rfl)
    clear KF
    go_enter Tryz.func35, Tryz.ntmps35
    go_wp2_with fail
    refine KS.out.mono ?_
    rintro e w1 ⟨rfl, hb1⟩
    have HB1 : Hid (Below w.heap.size w (w1.alloc (.cells #[.bool st, .bool sn, .bool sf, .bool s4, .int .i64 lo, .int .i64 hi] 102))) := Lib.hid (hb1.alloc hb1.size _)
    clear hb1 KS
    go_wp2_with fail
    refine (KF2.out _ HB1.out).mono ?_
    rintro e w2 ⟨rfl, hb2⟩
    have HB2 := Lib.hid (below_then HB1.out hb2)
    clear hb2 KF2
    cases fb with
    | false =>
      go_wp2_with fail
      go_ret
      exact ⟨rfl, HB2.out⟩
    | true =>
      go_wp2_with fail
      refine (KX.out _ HB2.out).mono ?_
      rintro e w3 ⟨rfl, hb3⟩
      have HB3 := Lib.hid (below_then HB2.out hb3)
      clear hb3 KX
      cases sv with
      | false =>
        go_wp2_with fail
        go_ret
        exact ⟨rfl, HB3.out⟩
      | true =>
        have y3 := HX.out _ HB3.out
        go_wp2_with fail
        clear y3
        go_loopw [32] (fun v wr => ∃ (i : Nat), i ≤ ps.length ∧ v = .int .i64 i ∧ ps.all fv = (ps.drop i).all fv ∧ Below w.heap.size w wr) (fun v _ => ps.length - (intOf v).toNat)
        case atStart => exact ⟨0, by omega, rfl, by rw [List.drop_zero], HB3.out⟩
        case round =>
          obtain ⟨i, hi, rfl, he, hbr⟩ := hrel
          have HE := Lib.hid he
          have HBr := Lib.hid hbr
          have y3 := HX.out _ hbr
          clear he hbr
          by_cases hin : i < ps.length
          · have t1 : decide ((i : Int) < (ps.length : Int)) = true := by simp; omega
            have wr2 : wrap64 ((i : Int) + 1) = ((i + 1 : Nat) : Int) := wrap_one (by omega)
            obtain ⟨pb, po, hA, hN⟩ := HN.out _ i hin HBr.out
            have KN := Lib.hid hN
            have HS := Lib.hid (all_drop (p := fv) hin)
            have HM := Lib.hid (measI hin)
            have HIn := Lib.hid hin
            subst hA
            generalize hr : fv ps[i] = r at KN HS
            clear hN hi hr
            go_wp2_with fail
            refine KN.out.mono ?_
            rintro e w4 ⟨rfl, hb4⟩
            have HB4 := Lib.hid (below_then HBr.out hb4)
            clear hb4 y3
            cases r with
            | false =>
              go_wp2_with fail
              go_ret
              exact ⟨by rw [HE.out, HS.out]; rfl, HB4.out⟩
            | true =>
              go_wp2_with fail
              refine ⟨⟨i + 1, HIn.out, by first | rfl | rw [wr2], by rw [HE.out, HS.out]; rfl, HB4.out⟩, ?_⟩
              first | exact HM.out | (rw [wr2]; exact HM.out)
          · have t1 : decide ((i : Int) < (ps.length : Int)) = false := by simp; omega
            have HE1 : Hid (ps.all fv = true) := Lib.hid (by rw [HE.out, List.drop_eq_nil_of_le (by omega)]; rfl)
            clear hi y3
            go_wp2_with fail
            go_ret
            exact ⟨by rw [HE1.out]; rfl, HBr.out⟩
end Go.Proofs.YtnnjbgjhhbmfgaaGreatDoor
