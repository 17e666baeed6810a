import Derived.Test.YtogoolpgajopcaaTrNc
namespace Go.Proofs.Ytogoolpgajopcaa
open Go.RowKit Go.Maps Go.WideMaps
/-- All blocks that hold no strings are as they were. -/
def KeepO (w w' : World) : Prop := ∀ (b : Nat) (arr : Array Value) (T : TypeId) (f : Nat × Nat), w.heap[b]? = some (.cells arr T f) → T ≠ 9 → w'.heap[b]? = w.heap[b]?
theorem KeepO.refl (w : World) : KeepO w w := fun _ _ _ _ _ _ => rfl
theorem KeepO.trans {w w' w'' : World} (h : KeepO w w') (h' : KeepO w' w'') : KeepO w w'' := fun b arr T f e ne => (h' b arr T f ((h b arr T f e ne).trans e) ne).trans (h b arr T f e ne)
theorem KeepO.below {w w' : World} (h : Below w.heap.size w w') : KeepO w w' := fun b arr T f e _ => h.block b (by
  rcases Nat.lt_or_ge b w.heap.size with h | h
  · exact h
  · rw [Array.getElem?_eq_none h] at e; cases e)
theorem KeepO.grown {w w' : World} {base n : Nat} {v : Value} {xs : List Value} (hown : w.ownsRow base 9 1 v n xs) (hg : w.grownBy w' v.ownBlock) : KeepO w w' := fun b arr T f e ne => by
  have hlt : b < w.heap.size := by
    rcases Nat.lt_or_ge b w.heap.size with h | h
    · exact h
    · rw [Array.getElem?_eq_none h] at e; cases e
  refine hg.block b hlt (fun hb => ?_)
  rcases hown.2 with ⟨hv, _⟩ | ⟨g, cap, cur, hv, _, hgg, _⟩
  · rw [hv] at hb; cases hb
  · rw [hv] at hb
    injection hb with hb
    subst hb
    rw [e] at hgg
    injection hgg with hgg
    injection hgg with _ h2 _
    exact ne h2
def RefP (P : Fo) : Prop := ∀ (k : Int) (t : ByteArray) (n m a : Int) (A : Option Addr) (c : Nat) (w : World) (B base : Nat) (l : List ByteArray) (A' : Option Addr) (c' : Nat), Holds w B P A 0 → P.len ≤ 1000000000000000 → B ≤ base → base ≤ w.heap.size → w.ownsRow base 9 1 (.slice A' l.length c') l.length (l.map Value.string) → l.length + (1 + P.nodes) ≤ 40000 → t.size ≤ 1000000000000000 →
    Calls Try.prog 65 #[val6 k t n m a P.len A c, .slice A' l.length c'] w fun e w' => ∃ A2 c2, e = .returned (.slice A2 (P.nm (addN l k t)).length c2) ∧ w'.ownsRow base 9 1 (.slice A2 (P.nm (addN l k t)).length c2) (P.nm (addN l k t)).length ((P.nm (addN l k t)).map Value.string) ∧ KeepO w w' ∧ Below B w w'
theorem ret_slice {A : Option Addr} {x y c : Nat} (h : x = y) : Ending.returned (.slice A x c) = .returned (.slice A y c) := by rw [h]
theorem box_obj (w : World) (arr : Array Value) (T : TypeId) : (w.alloc (.cells arr T)).heap[w.heap.size]? = some (.cells arr T) := heap_alloc_new w _
set_option maxRecDepth 100000 in
set_option maxHeartbeats 4000000 in
theorem ref_no (P : Fo) (hall : AllC RefP P) (k : Int) (t : ByteArray) (n m a : Int) (A : Option Addr) (c : Nat) (w : World) (B base : Nat) (l1 : List ByteArray) (A' : Option Addr) (c' : Nat) (hH : Holds w B P A 0) (hl : P.len ≤ 1000000000000000) (hBb : B ≤ base) (hbw : base ≤ w.heap.size) (hO : w.ownsRow base 9 1 (.slice A' l1.length c') l1.length (l1.map Value.string)) (hlen1 : l1.length + P.nodes ≤ 40000) (hk : (k = 1 ∧ wordB t = true) ∨ (k ≠ 1 ∧ k ≠ 25 ∧ k ≠ 33)) :
    Calls Try.prog 65 #[val6 k t n m a P.len A c, .slice A' l1.length c'] w fun e w' => ∃ A2 c2, e = .returned (.slice A2 (P.nm l1).length c2) ∧ w'.ownsRow base 9 1 (.slice A2 (P.nm l1).length c2) (P.nm l1).length ((P.nm l1).map Value.string) ∧ KeepO w w' ∧ Below B w w' := by
  simp only [val6, cells6]
  have HA := Lib.hid hall
  have hb0 : ∀ o : Obj, Below w.heap.size w (w.alloc o) := fun o => (Below.refl _ _).alloc (Nat.le_refl _) o
  have HBl : Hid (∀ o : Obj, Below B w (w.alloc o)) := Lib.hid fun o => (hb0 o).mono (by omega)
  have HHl : Hid (∀ o : Obj, Holds (w.alloc o) B P A 0) := Lib.hid fun o => hH.below (HBl.out o)
  have HOl : Hid (∀ o : Obj, (w.alloc o).ownsRow base 9 1 (.slice A' l1.length c') l1.length (l1.map Value.string)) := Lib.hid fun o => hO.alloc o
  have HKl : Hid (∀ o : Obj, KeepO w (w.alloc o)) := Lib.hid fun o => KeepO.below (hb0 o)
  have HXl := Lib.hid (fun arr => box_obj w arr 24)
  have KW := Lib.hid (fun W => word_ref t W)
  clear hall hH hO hb0
  rcases hk with ⟨rfl, hw⟩ | ⟨k1, k2, k3⟩
  · rw [hw] at KW
    clear hw
    go_enter Try.func65, Try.ntmps65
    go_wp2_with (go_at_call 38; refine (KW.out _).mono ?_; rintro e w1 ⟨rfl, rfl⟩)
    go_loopw [1, 7] (fun v i wr => ∃ (j : Nat) (R : Fo) (lc : List ByteArray) (A1 : Option Addr) (c1 : Nat), j + R.len = P.len ∧ i = .int .i64 j ∧ v = .slice A1 lc.length c1 ∧ R.nm lc = P.nm l1 ∧ AllC RefP R ∧ Holds wr B R A j ∧ wr.ownsRow base 9 1 (.slice A1 lc.length c1) lc.length (lc.map Value.string) ∧ wr.heap[w.heap.size]? = some (.cells #[.int .i64 1, .string t, .int .i64 n, .int .i64 m, .int .i64 a, .slice A P.len c] 24) ∧ KeepO w wr ∧ Below B w wr ∧ lc.length + R.nodes ≤ 40000) (fun _ i _ => P.len - (intOf i).toNat)
    case atStart => exact ⟨0, P, l1, _, _, by omega, by go_num, rfl, rfl, HA.out, HHl.out _, HOl.out _, HXl.out _, HKl.out _, HBl.out _, hlen1⟩
    case round =>
      obtain ⟨j, R, lc, A1, c1, hj, rfl, rfl, hq, hall, hHr, hO, hX, hK, hB, hlc⟩ := hrel
      have HBw := Lib.hid hB
      have HQ := Lib.hid hq
      have HO := Lib.hid hO
      have HX := Lib.hid hX
      have HKw := Lib.hid hK
      have hsz : w.heap.size < wr.heap.size := by
        rcases Nat.lt_or_ge w.heap.size wr.heap.size with h | h
        · exact h
        · rw [Array.getElem?_eq_none h] at hX; cases hX
      have x5 : wr.cell? ⟨w.heap.size, 5, none⟩ = some (.slice A P.len c) := cell_of_row _ _ _ _ _ _ hX
      clear hB hq hO hX hK
      cases R with
      | nil =>
        have tj : decide ((j : Int) < (P.len : Int)) = false := by simp; simp [Fo.len] at hj; omega
        have tj2 : decide (j < P.len) = false := by simp; simp [Fo.len] at hj; omega
        have HE : Hid (lc = P.nm l1) := HQ
        clear hj hall hHr hlc HQ
        go_wp2_with fail
        go_ret
        exact ⟨A1, c1, ret_slice (by rw [HE.out]), by rw [← HE.out]; exact HO.out, HKw.out, HBw.out⟩
      | cons k1 t1 n1 m1 a1 P1 R1 =>
        obtain ⟨⟨ad, A2, c2, rfl, hblk, hcell, hc1, hc2, ht1, hP1⟩, hR1⟩ := hHr
        obtain ⟨hall1, hall2⟩ := hall
        have hjl : j + 1 + R1.len = P.len := by simp only [Fo.len] at hj; omega
        have hjl2 : j < P.len := by omega
        obtain ⟨f0, f1, f2, f3, f4, f5⟩ := six hcell
        have hnd : lc.length + (1 + P1.nodes) + R1.nodes ≤ 40000 := by simp only [Fo.nodes] at hlc; omega
        have K := Lib.hid (hall1 k1 t1 n1 m1 a1 A2 c2 wr B base lc A1 c1 hP1 (by omega) hBb (by omega) HO.out (by omega) ht1)
        have HQ2 : Hid (R1.nm (P1.nm (addN lc k1 t1)) = P.nm l1) := HQ
        have hl2 : (P1.nm (addN lc k1 t1)).length + R1.nodes ≤ 40000 := by
          have h1 := nm_len P1 (addN lc k1 t1)
          have h2 := addN_len lc k1 t1
          omega
        have HHR := Lib.hid hR1
        have HA2 := Lib.hid hall2
        simp only [val6, cells6] at K
        generalize P1.nm (addN lc k1 t1) = l2 at *
        clear hcell hR1 hall1 hall2 hj hP1 hlc hnd HQ
        go_wp2_with fail
        refine K.out.mono ?_
        rintro e w2 ⟨A3, c3, rfl, hO2, hK2, hb2⟩
        have HB2 := Lib.hid (HBw.out.trans hb2)
        have HH2 := Lib.hid (HHR.out.below hb2)
        have HO2 := Lib.hid hO2
        have HX2 := Lib.hid ((hK2 _ _ _ _ HX.out (by decide)).trans HX.out)
        have HK2 := Lib.hid (HKw.out.trans hK2)
        clear hb2 hO2 hK2
        go_wp2_with fail
        go_roundw
        case rel => exact ⟨j + 1, R1, l2, A3, c3, hjl, by go_num, rfl, HQ2.out, HA2.out, HH2.out, HO2.out, HX2.out, HK2.out, HB2.out, hl2⟩
        case measure => simp [intOf]; omega
  · have u1 : (k == 1) = false := beq_eq_false_iff_ne.2 k1
    have u2 : (k == 25) = false := beq_eq_false_iff_ne.2 k2
    have u3 : (k == 33) = false := beq_eq_false_iff_ne.2 k3
    clear k1 k2 k3
    go_enter Try.func65, Try.ntmps65
    go_wp2_with fail
    go_loopw [1, 7] (fun v i wr => ∃ (j : Nat) (R : Fo) (lc : List ByteArray) (A1 : Option Addr) (c1 : Nat), j + R.len = P.len ∧ i = .int .i64 j ∧ v = .slice A1 lc.length c1 ∧ R.nm lc = P.nm l1 ∧ AllC RefP R ∧ Holds wr B R A j ∧ wr.ownsRow base 9 1 (.slice A1 lc.length c1) lc.length (lc.map Value.string) ∧ wr.heap[w.heap.size]? = some (.cells #[.int .i64 k, .string t, .int .i64 n, .int .i64 m, .int .i64 a, .slice A P.len c] 24) ∧ KeepO w wr ∧ Below B w wr ∧ lc.length + R.nodes ≤ 40000) (fun _ i _ => P.len - (intOf i).toNat)
    case atStart => exact ⟨0, P, l1, _, _, by omega, by go_num, rfl, rfl, HA.out, HHl.out _, HOl.out _, HXl.out _, HKl.out _, HBl.out _, hlen1⟩
    case round =>
      obtain ⟨j, R, lc, A1, c1, hj, rfl, rfl, hq, hall, hHr, hO, hX, hK, hB, hlc⟩ := hrel
      have HBw := Lib.hid hB
      have HQ := Lib.hid hq
      have HO := Lib.hid hO
      have HX := Lib.hid hX
      have HKw := Lib.hid hK
      have hsz : w.heap.size < wr.heap.size := by
        rcases Nat.lt_or_ge w.heap.size wr.heap.size with h | h
        · exact h
        · rw [Array.getElem?_eq_none h] at hX; cases hX
      have x5 : wr.cell? ⟨w.heap.size, 5, none⟩ = some (.slice A P.len c) := cell_of_row _ _ _ _ _ _ hX
      clear hB hq hO hX hK
      cases R with
      | nil =>
        have tj : decide ((j : Int) < (P.len : Int)) = false := by simp; simp [Fo.len] at hj; omega
        have tj2 : decide (j < P.len) = false := by simp; simp [Fo.len] at hj; omega
        have HE : Hid (lc = P.nm l1) := HQ
        clear hj hall hHr hlc HQ
        go_wp2_with fail
        go_ret
        exact ⟨A1, c1, ret_slice (by rw [HE.out]), by rw [← HE.out]; exact HO.out, HKw.out, HBw.out⟩
      | cons k1 t1 n1 m1 a1 P1 R1 =>
        obtain ⟨⟨ad, A2, c2, rfl, hblk, hcell, hc1, hc2, ht1, hP1⟩, hR1⟩ := hHr
        obtain ⟨hall1, hall2⟩ := hall
        have hjl : j + 1 + R1.len = P.len := by simp only [Fo.len] at hj; omega
        have hjl2 : j < P.len := by omega
        obtain ⟨f0, f1, f2, f3, f4, f5⟩ := six hcell
        have hnd : lc.length + (1 + P1.nodes) + R1.nodes ≤ 40000 := by simp only [Fo.nodes] at hlc; omega
        have K := Lib.hid (hall1 k1 t1 n1 m1 a1 A2 c2 wr B base lc A1 c1 hP1 (by omega) hBb (by omega) HO.out (by omega) ht1)
        have HQ2 : Hid (R1.nm (P1.nm (addN lc k1 t1)) = P.nm l1) := HQ
        have hl2 : (P1.nm (addN lc k1 t1)).length + R1.nodes ≤ 40000 := by
          have h1 := nm_len P1 (addN lc k1 t1)
          have h2 := addN_len lc k1 t1
          omega
        have HHR := Lib.hid hR1
        have HA2 := Lib.hid hall2
        simp only [val6, cells6] at K
        generalize P1.nm (addN lc k1 t1) = l2 at *
        clear hcell hR1 hall1 hall2 hj hP1 hlc hnd HQ
        go_wp2_with fail
        refine K.out.mono ?_
        rintro e w2 ⟨A3, c3, rfl, hO2, hK2, hb2⟩
        have HB2 := Lib.hid (HBw.out.trans hb2)
        have HH2 := Lib.hid (HHR.out.below hb2)
        have HO2 := Lib.hid hO2
        have HX2 := Lib.hid ((hK2 _ _ _ _ HX.out (by decide)).trans HX.out)
        have HK2 := Lib.hid (HKw.out.trans hK2)
        clear hb2 hO2 hK2
        go_wp2_with fail
        go_roundw
        case rel => exact ⟨j + 1, R1, l2, A3, c3, hjl, by go_num, rfl, HQ2.out, HA2.out, HH2.out, HO2.out, HX2.out, HK2.out, HB2.out, hl2⟩
        case measure => simp [intOf]; omega
set_option maxRecDepth 100000 in
set_option maxHeartbeats 8000000 in
theorem ref_found (P : Fo) (hall : AllC RefP P) (k : Int) (t : ByteArray) (n m a : Int) (A : Option Addr) (c : Nat) (w : World) (B base : Nat) (l l1 : List ByteArray) (A' : Option Addr) (c' : Nat) (hH : Holds w B P A 0) (hl : P.len ≤ 1000000000000000) (hBb : B ≤ base) (hbw : base ≤ w.heap.size) (hO : w.ownsRow base 9 1 (.slice A' l.length c') l.length (l.map Value.string)) (hlen1 : l1.length + P.nodes ≤ 40000) (hll : l.length ≤ 40000) (hl1 : l1 = l) (hf : hasN l t = true) (hk : (k = 1 ∧ wordB t = false) ∨ k = 25 ∨ k = 33) :
    Calls Try.prog 65 #[val6 k t n m a P.len A c, .slice A' l.length c'] w fun e w' => ∃ A2 c2, e = .returned (.slice A2 (P.nm l1).length c2) ∧ w'.ownsRow base 9 1 (.slice A2 (P.nm l1).length c2) (P.nm l1).length ((P.nm l1).map Value.string) ∧ KeepO w w' ∧ Below B w w' := by
  obtain ⟨i0, hi, hz0, hz1, hz2⟩ := info_parts infoS
  simp only [val6, cells6]
  have HA := Lib.hid hall
  have HH0 := Lib.hid hH
  have HO0 := Lib.hid hO
  have HF := Lib.hid hf
  have HL1 := Lib.hid hl1
  have KW := Lib.hid (fun W => word_ref t W)
  clear hall hH hO hf hl1
  rcases hk with ⟨rfl, hw⟩ | rfl | rfl
  · try rw [hw] at KW
    try clear hw
    go_enter Try.func65, Try.ntmps65
    go_wp2_with (go_at_call 38; refine (KW.out _).mono ?_; rintro e w1 ⟨rfl, rfl⟩)
    generalize hW0 : w.alloc _ = W0
    have HB0 : Hid (Below w.heap.size w W0) := Lib.hid (by rw [← hW0]; exact (Below.refl _ _).alloc (Nat.le_refl _) _)
    have hs0 : W0.heap.size = w.heap.size + 1 := by rw [← hW0, alloc_size]
    have HXo : Hid (W0.heap[w.heap.size]? = some (.cells #[.int .i64 1, .string t, .int .i64 n, .int .i64 m, .int .i64 a, .slice A P.len c] 24)) := Lib.hid (by rw [← hW0]; exact box_obj w _ _)
    have HC1 : Hid (W0.cell? ⟨w.heap.size, 1, none⟩ = some (.string t)) := Lib.hid (cell_of_row _ _ _ _ _ _ HXo.out)
    have HO : Hid (W0.ownsRow base 9 1 (.slice A' l.length c') l.length (l.map Value.string)) := Lib.hid (own_below HO0.out HB0.out)
    clear hW0 HO0
    go_loopw [5, 6] (fun v i wr => ∃ j : Nat, j ≤ l.length ∧ i = .int .i64 j ∧ v = .bool (hasN (l.take j) t) ∧ Below W0.heap.size W0 wr) (fun _ i _ => l.length - (intOf i).toNat)
    case atStart => exact ⟨0, by omega, by go_num, rfl, Below.refl _ _⟩
    case round =>
      obtain ⟨j, hj, rfl, rfl, hB⟩ := hrel
      have HBr := Lib.hid hB
      have x1 : wr.cell? ⟨w.heap.size, 1, none⟩ = some (.string t) := (hB.cell (p := ⟨w.heap.size, 1, none⟩) (by show w.heap.size < _; omega)).trans HC1.out
      by_cases hlt : j < l.length
      · have hO := own_below HO.out hB
        obtain ⟨g, rfl⟩ : ∃ g, A' = some ⟨g, 0, none⟩ := by
          rcases hO.2 with ⟨_, h⟩ | ⟨g, cap, cur, h, _⟩
          · omega
          · exact ⟨g, by injection h⟩
        have e1 : wr.cell? ⟨g, j, none⟩ = some (.string (l[j]'hlt)) := by
          rw [hO.cellAt j (by omega), List.getElem?_map, List.getElem?_eq_getElem hlt]; rfl
        have hsn : hasN (l.take (j + 1)) t = (hasN (l.take j) t || (l[j]'hlt).toList == t.toList) := by
          unfold hasN
          rw [List.take_succ_eq_append_getElem hlt, List.any_append]; simp
        have HSN := Lib.hid hsn
        clear hsn hO hB
        generalize hasN (l.take j) t = b1 at *
        generalize (l[j]'hlt) = x at *
        cases b1 with
        | true =>
          have HE : Hid (hasN (l.take (j + 1)) t = true) := Lib.hid (by rw [HSN.out]; rfl)
          clear HSN
          go_wp2_with fail
          go_quiet (fail)
          go_wp2_with fail
          go_roundw
          case rel => exact ⟨j + 1, by omega, by go_num, by rw [HE.out], below_drewN HBr.out _⟩
          case measure => simp [intOf]; omega
        | false =>
          cases hq : (x.toList == t.toList) with
          | true =>
            have HE : Hid (hasN (l.take (j + 1)) t = true) := Lib.hid (by rw [HSN.out, hq]; rfl)
            clear HSN
            go_wp2_with fail
            go_quiet (fail)
            go_wp2_with fail
            go_roundw
            case rel => exact ⟨j + 1, by omega, by go_num, by rw [HE.out], below_drewN HBr.out _⟩
            case measure => simp [intOf]; omega
          | false =>
            have HE : Hid (hasN (l.take (j + 1)) t = false) := Lib.hid (by rw [HSN.out, hq]; rfl)
            clear HSN
            go_wp2_with fail
            go_quiet (fail)
            go_wp2_with fail
            go_roundw
            case rel => exact ⟨j + 1, by omega, by go_num, by rw [HE.out], below_drewN HBr.out _⟩
            case measure => simp [intOf]; omega
      · have hjl : j = l.length := by omega
        have tj : decide ((j : Int) < (l.length : Int)) = false := by simp; omega
        have tj2 : decide (j < l.length) = false := by simp; omega
        have hbe : hasN (l.take j) t = true := by rw [hjl, List.take_of_length_le (Nat.le_refl _)]; exact HF.out
        rw [hbe]
        clear hbe hjl hj
        have HBr2 := Lib.hid (below_step HB0.out HBr.out)
        have HBl := Lib.hid (HBr2.out.mono (show B ≤ w.heap.size by omega))
        have HHl := Lib.hid (HH0.out.below HBl.out)
        have HOl : Hid (wr.ownsRow base 9 1 (.slice A' l1.length c') l1.length (l1.map Value.string)) := Lib.hid (by rw [HL1.out]; exact own_below HO.out HBr.out)
        have HXl := Lib.hid ((HBr.out.block w.heap.size (by omega)).trans HXo.out)
        have HKl := Lib.hid (KeepO.below HBr2.out)
        have HLE : Hid (l.length = l1.length) := Lib.hid (by rw [HL1.out])
        clear hB x1 HO HXo HC1 HH0 HB0 HBr2 hlt
        go_wp2_with fail
        rw [HLE.out]
        go_loopw [1, 7] (fun v i wr => ∃ (j : Nat) (R : Fo) (lc : List ByteArray) (A1 : Option Addr) (c1 : Nat), j + R.len = P.len ∧ i = .int .i64 j ∧ v = .slice A1 lc.length c1 ∧ R.nm lc = P.nm l1 ∧ AllC RefP R ∧ Holds wr B R A j ∧ wr.ownsRow base 9 1 (.slice A1 lc.length c1) lc.length (lc.map Value.string) ∧ wr.heap[w.heap.size]? = some (.cells #[.int .i64 1, .string t, .int .i64 n, .int .i64 m, .int .i64 a, .slice A P.len c] 24) ∧ KeepO w wr ∧ Below B w wr ∧ lc.length + R.nodes ≤ 40000) (fun _ i _ => P.len - (intOf i).toNat)
        case atStart => exact ⟨0, P, l1, _, _, by omega, by go_num, rfl, rfl, HA.out, HHl.out, HOl.out, HXl.out, HKl.out, HBl.out, hlen1⟩
        case round =>
          obtain ⟨j, R, lc, A1, c1, hj, rfl, rfl, hq, hall, hHr, hO, hX, hK, hB, hlc⟩ := hrel
          have HBw := Lib.hid hB
          have HQ := Lib.hid hq
          have HO := Lib.hid hO
          have HX := Lib.hid hX
          have HKw := Lib.hid hK
          have hsz : w.heap.size < wr.heap.size := by
            rcases Nat.lt_or_ge w.heap.size wr.heap.size with h | h
            · exact h
            · rw [Array.getElem?_eq_none h] at hX; cases hX
          have x5 : wr.cell? ⟨w.heap.size, 5, none⟩ = some (.slice A P.len c) := cell_of_row _ _ _ _ _ _ hX
          clear hB hq hO hX hK
          cases R with
          | nil =>
            have tj : decide ((j : Int) < (P.len : Int)) = false := by simp; simp [Fo.len] at hj; omega
            have tj2 : decide (j < P.len) = false := by simp; simp [Fo.len] at hj; omega
            have HE : Hid (lc = P.nm l1) := HQ
            clear hj hall hHr hlc HQ
            go_wp2_with fail
            go_ret
            exact ⟨A1, c1, ret_slice (by rw [HE.out]), by rw [← HE.out]; exact HO.out, HKw.out, HBw.out⟩
          | cons k1 t1 n1 m1 a1 P1 R1 =>
            obtain ⟨⟨ad, A2, c2, rfl, hblk, hcell, hc1, hc2, ht1, hP1⟩, hR1⟩ := hHr
            obtain ⟨hall1, hall2⟩ := hall
            have hjl : j + 1 + R1.len = P.len := by simp only [Fo.len] at hj; omega
            have hjl2 : j < P.len := by omega
            obtain ⟨f0, f1, f2, f3, f4, f5⟩ := six hcell
            have hnd : lc.length + (1 + P1.nodes) + R1.nodes ≤ 40000 := by simp only [Fo.nodes] at hlc; omega
            have K := Lib.hid (hall1 k1 t1 n1 m1 a1 A2 c2 wr B base lc A1 c1 hP1 (by omega) hBb (by omega) HO.out (by omega) ht1)
            have HQ2 : Hid (R1.nm (P1.nm (addN lc k1 t1)) = P.nm l1) := HQ
            have hl2 : (P1.nm (addN lc k1 t1)).length + R1.nodes ≤ 40000 := by
              have h1 := nm_len P1 (addN lc k1 t1)
              have h2 := addN_len lc k1 t1
              omega
            have HHR := Lib.hid hR1
            have HA2 := Lib.hid hall2
            simp only [val6, cells6] at K
            generalize P1.nm (addN lc k1 t1) = l2 at *
            clear hcell hR1 hall1 hall2 hj hP1 hlc hnd HQ
            go_wp2_with fail
            refine K.out.mono ?_
            rintro e w2 ⟨A3, c3, rfl, hO2, hK2, hb2⟩
            have HB2 := Lib.hid (HBw.out.trans hb2)
            have HH2 := Lib.hid (HHR.out.below hb2)
            have HO2 := Lib.hid hO2
            have HX2 := Lib.hid ((hK2 _ _ _ _ HX.out (by decide)).trans HX.out)
            have HK2 := Lib.hid (HKw.out.trans hK2)
            clear hb2 hO2 hK2
            go_wp2_with fail
            go_roundw
            case rel => exact ⟨j + 1, R1, l2, A3, c3, hjl, by go_num, rfl, HQ2.out, HA2.out, HH2.out, HO2.out, HX2.out, HK2.out, HB2.out, hl2⟩
            case measure => simp [intOf]; omega
  · go_enter Try.func65, Try.ntmps65
    go_wp2_with fail
    generalize hW0 : w.alloc _ = W0
    have HB0 : Hid (Below w.heap.size w W0) := Lib.hid (by rw [← hW0]; exact (Below.refl _ _).alloc (Nat.le_refl _) _)
    have hs0 : W0.heap.size = w.heap.size + 1 := by rw [← hW0, alloc_size]
    have HXo : Hid (W0.heap[w.heap.size]? = some (.cells #[.int .i64 25, .string t, .int .i64 n, .int .i64 m, .int .i64 a, .slice A P.len c] 24)) := Lib.hid (by rw [← hW0]; exact box_obj w _ _)
    have HC1 : Hid (W0.cell? ⟨w.heap.size, 1, none⟩ = some (.string t)) := Lib.hid (cell_of_row _ _ _ _ _ _ HXo.out)
    have HO : Hid (W0.ownsRow base 9 1 (.slice A' l.length c') l.length (l.map Value.string)) := Lib.hid (own_below HO0.out HB0.out)
    clear hW0 HO0
    go_loopw [5, 6] (fun v i wr => ∃ j : Nat, j ≤ l.length ∧ i = .int .i64 j ∧ v = .bool (hasN (l.take j) t) ∧ Below W0.heap.size W0 wr) (fun _ i _ => l.length - (intOf i).toNat)
    case atStart => exact ⟨0, by omega, by go_num, rfl, Below.refl _ _⟩
    case round =>
      obtain ⟨j, hj, rfl, rfl, hB⟩ := hrel
      have HBr := Lib.hid hB
      have x1 : wr.cell? ⟨w.heap.size, 1, none⟩ = some (.string t) := (hB.cell (p := ⟨w.heap.size, 1, none⟩) (by show w.heap.size < _; omega)).trans HC1.out
      by_cases hlt : j < l.length
      · have hO := own_below HO.out hB
        obtain ⟨g, rfl⟩ : ∃ g, A' = some ⟨g, 0, none⟩ := by
          rcases hO.2 with ⟨_, h⟩ | ⟨g, cap, cur, h, _⟩
          · omega
          · exact ⟨g, by injection h⟩
        have e1 : wr.cell? ⟨g, j, none⟩ = some (.string (l[j]'hlt)) := by
          rw [hO.cellAt j (by omega), List.getElem?_map, List.getElem?_eq_getElem hlt]; rfl
        have hsn : hasN (l.take (j + 1)) t = (hasN (l.take j) t || (l[j]'hlt).toList == t.toList) := by
          unfold hasN
          rw [List.take_succ_eq_append_getElem hlt, List.any_append]; simp
        have HSN := Lib.hid hsn
        clear hsn hO hB
        generalize hasN (l.take j) t = b1 at *
        generalize (l[j]'hlt) = x at *
        cases b1 with
        | true =>
          have HE : Hid (hasN (l.take (j + 1)) t = true) := Lib.hid (by rw [HSN.out]; rfl)
          clear HSN
          go_wp2_with fail
          go_quiet (fail)
          go_wp2_with fail
          go_roundw
          case rel => exact ⟨j + 1, by omega, by go_num, by rw [HE.out], below_drewN HBr.out _⟩
          case measure => simp [intOf]; omega
        | false =>
          cases hq : (x.toList == t.toList) with
          | true =>
            have HE : Hid (hasN (l.take (j + 1)) t = true) := Lib.hid (by rw [HSN.out, hq]; rfl)
            clear HSN
            go_wp2_with fail
            go_quiet (fail)
            go_wp2_with fail
            go_roundw
            case rel => exact ⟨j + 1, by omega, by go_num, by rw [HE.out], below_drewN HBr.out _⟩
            case measure => simp [intOf]; omega
          | false =>
            have HE : Hid (hasN (l.take (j + 1)) t = false) := Lib.hid (by rw [HSN.out, hq]; rfl)
            clear HSN
            go_wp2_with fail
            go_quiet (fail)
            go_wp2_with fail
            go_roundw
            case rel => exact ⟨j + 1, by omega, by go_num, by rw [HE.out], below_drewN HBr.out _⟩
            case measure => simp [intOf]; omega
      · have hjl : j = l.length := by omega
        have tj : decide ((j : Int) < (l.length : Int)) = false := by simp; omega
        have tj2 : decide (j < l.length) = false := by simp; omega
        have hbe : hasN (l.take j) t = true := by rw [hjl, List.take_of_length_le (Nat.le_refl _)]; exact HF.out
        rw [hbe]
        clear hbe hjl hj
        have HBr2 := Lib.hid (below_step HB0.out HBr.out)
        have HBl := Lib.hid (HBr2.out.mono (show B ≤ w.heap.size by omega))
        have HHl := Lib.hid (HH0.out.below HBl.out)
        have HOl : Hid (wr.ownsRow base 9 1 (.slice A' l1.length c') l1.length (l1.map Value.string)) := Lib.hid (by rw [HL1.out]; exact own_below HO.out HBr.out)
        have HXl := Lib.hid ((HBr.out.block w.heap.size (by omega)).trans HXo.out)
        have HKl := Lib.hid (KeepO.below HBr2.out)
        have HLE : Hid (l.length = l1.length) := Lib.hid (by rw [HL1.out])
        clear hB x1 HO HXo HC1 HH0 HB0 HBr2 hlt
        go_wp2_with fail
        rw [HLE.out]
        go_loopw [1, 7] (fun v i wr => ∃ (j : Nat) (R : Fo) (lc : List ByteArray) (A1 : Option Addr) (c1 : Nat), j + R.len = P.len ∧ i = .int .i64 j ∧ v = .slice A1 lc.length c1 ∧ R.nm lc = P.nm l1 ∧ AllC RefP R ∧ Holds wr B R A j ∧ wr.ownsRow base 9 1 (.slice A1 lc.length c1) lc.length (lc.map Value.string) ∧ wr.heap[w.heap.size]? = some (.cells #[.int .i64 25, .string t, .int .i64 n, .int .i64 m, .int .i64 a, .slice A P.len c] 24) ∧ KeepO w wr ∧ Below B w wr ∧ lc.length + R.nodes ≤ 40000) (fun _ i _ => P.len - (intOf i).toNat)
        case atStart => exact ⟨0, P, l1, _, _, by omega, by go_num, rfl, rfl, HA.out, HHl.out, HOl.out, HXl.out, HKl.out, HBl.out, hlen1⟩
        case round =>
          obtain ⟨j, R, lc, A1, c1, hj, rfl, rfl, hq, hall, hHr, hO, hX, hK, hB, hlc⟩ := hrel
          have HBw := Lib.hid hB
          have HQ := Lib.hid hq
          have HO := Lib.hid hO
          have HX := Lib.hid hX
          have HKw := Lib.hid hK
          have hsz : w.heap.size < wr.heap.size := by
            rcases Nat.lt_or_ge w.heap.size wr.heap.size with h | h
            · exact h
            · rw [Array.getElem?_eq_none h] at hX; cases hX
          have x5 : wr.cell? ⟨w.heap.size, 5, none⟩ = some (.slice A P.len c) := cell_of_row _ _ _ _ _ _ hX
          clear hB hq hO hX hK
          cases R with
          | nil =>
            have tj : decide ((j : Int) < (P.len : Int)) = false := by simp; simp [Fo.len] at hj; omega
            have tj2 : decide (j < P.len) = false := by simp; simp [Fo.len] at hj; omega
            have HE : Hid (lc = P.nm l1) := HQ
            clear hj hall hHr hlc HQ
            go_wp2_with fail
            go_ret
            exact ⟨A1, c1, ret_slice (by rw [HE.out]), by rw [← HE.out]; exact HO.out, HKw.out, HBw.out⟩
          | cons k1 t1 n1 m1 a1 P1 R1 =>
            obtain ⟨⟨ad, A2, c2, rfl, hblk, hcell, hc1, hc2, ht1, hP1⟩, hR1⟩ := hHr
            obtain ⟨hall1, hall2⟩ := hall
            have hjl : j + 1 + R1.len = P.len := by simp only [Fo.len] at hj; omega
            have hjl2 : j < P.len := by omega
            obtain ⟨f0, f1, f2, f3, f4, f5⟩ := six hcell
            have hnd : lc.length + (1 + P1.nodes) + R1.nodes ≤ 40000 := by simp only [Fo.nodes] at hlc; omega
            have K := Lib.hid (hall1 k1 t1 n1 m1 a1 A2 c2 wr B base lc A1 c1 hP1 (by omega) hBb (by omega) HO.out (by omega) ht1)
            have HQ2 : Hid (R1.nm (P1.nm (addN lc k1 t1)) = P.nm l1) := HQ
            have hl2 : (P1.nm (addN lc k1 t1)).length + R1.nodes ≤ 40000 := by
              have h1 := nm_len P1 (addN lc k1 t1)
              have h2 := addN_len lc k1 t1
              omega
            have HHR := Lib.hid hR1
            have HA2 := Lib.hid hall2
            simp only [val6, cells6] at K
            generalize P1.nm (addN lc k1 t1) = l2 at *
            clear hcell hR1 hall1 hall2 hj hP1 hlc hnd HQ
            go_wp2_with fail
            refine K.out.mono ?_
            rintro e w2 ⟨A3, c3, rfl, hO2, hK2, hb2⟩
            have HB2 := Lib.hid (HBw.out.trans hb2)
            have HH2 := Lib.hid (HHR.out.below hb2)
            have HO2 := Lib.hid hO2
            have HX2 := Lib.hid ((hK2 _ _ _ _ HX.out (by decide)).trans HX.out)
            have HK2 := Lib.hid (HKw.out.trans hK2)
            clear hb2 hO2 hK2
            go_wp2_with fail
            go_roundw
            case rel => exact ⟨j + 1, R1, l2, A3, c3, hjl, by go_num, rfl, HQ2.out, HA2.out, HH2.out, HO2.out, HX2.out, HK2.out, HB2.out, hl2⟩
            case measure => simp [intOf]; omega
  · go_enter Try.func65, Try.ntmps65
    go_wp2_with fail
    generalize hW0 : w.alloc _ = W0
    have HB0 : Hid (Below w.heap.size w W0) := Lib.hid (by rw [← hW0]; exact (Below.refl _ _).alloc (Nat.le_refl _) _)
    have hs0 : W0.heap.size = w.heap.size + 1 := by rw [← hW0, alloc_size]
    have HXo : Hid (W0.heap[w.heap.size]? = some (.cells #[.int .i64 33, .string t, .int .i64 n, .int .i64 m, .int .i64 a, .slice A P.len c] 24)) := Lib.hid (by rw [← hW0]; exact box_obj w _ _)
    have HC1 : Hid (W0.cell? ⟨w.heap.size, 1, none⟩ = some (.string t)) := Lib.hid (cell_of_row _ _ _ _ _ _ HXo.out)
    have HO : Hid (W0.ownsRow base 9 1 (.slice A' l.length c') l.length (l.map Value.string)) := Lib.hid (own_below HO0.out HB0.out)
    clear hW0 HO0
    go_loopw [5, 6] (fun v i wr => ∃ j : Nat, j ≤ l.length ∧ i = .int .i64 j ∧ v = .bool (hasN (l.take j) t) ∧ Below W0.heap.size W0 wr) (fun _ i _ => l.length - (intOf i).toNat)
    case atStart => exact ⟨0, by omega, by go_num, rfl, Below.refl _ _⟩
    case round =>
      obtain ⟨j, hj, rfl, rfl, hB⟩ := hrel
      have HBr := Lib.hid hB
      have x1 : wr.cell? ⟨w.heap.size, 1, none⟩ = some (.string t) := (hB.cell (p := ⟨w.heap.size, 1, none⟩) (by show w.heap.size < _; omega)).trans HC1.out
      by_cases hlt : j < l.length
      · have hO := own_below HO.out hB
        obtain ⟨g, rfl⟩ : ∃ g, A' = some ⟨g, 0, none⟩ := by
          rcases hO.2 with ⟨_, h⟩ | ⟨g, cap, cur, h, _⟩
          · omega
          · exact ⟨g, by injection h⟩
        have e1 : wr.cell? ⟨g, j, none⟩ = some (.string (l[j]'hlt)) := by
          rw [hO.cellAt j (by omega), List.getElem?_map, List.getElem?_eq_getElem hlt]; rfl
        have hsn : hasN (l.take (j + 1)) t = (hasN (l.take j) t || (l[j]'hlt).toList == t.toList) := by
          unfold hasN
          rw [List.take_succ_eq_append_getElem hlt, List.any_append]; simp
        have HSN := Lib.hid hsn
        clear hsn hO hB
        generalize hasN (l.take j) t = b1 at *
        generalize (l[j]'hlt) = x at *
        cases b1 with
        | true =>
          have HE : Hid (hasN (l.take (j + 1)) t = true) := Lib.hid (by rw [HSN.out]; rfl)
          clear HSN
          go_wp2_with fail
          go_quiet (fail)
          go_wp2_with fail
          go_roundw
          case rel => exact ⟨j + 1, by omega, by go_num, by rw [HE.out], below_drewN HBr.out _⟩
          case measure => simp [intOf]; omega
        | false =>
          cases hq : (x.toList == t.toList) with
          | true =>
            have HE : Hid (hasN (l.take (j + 1)) t = true) := Lib.hid (by rw [HSN.out, hq]; rfl)
            clear HSN
            go_wp2_with fail
            go_quiet (fail)
            go_wp2_with fail
            go_roundw
            case rel => exact ⟨j + 1, by omega, by go_num, by rw [HE.out], below_drewN HBr.out _⟩
            case measure => simp [intOf]; omega
          | false =>
            have HE : Hid (hasN (l.take (j + 1)) t = false) := Lib.hid (by rw [HSN.out, hq]; rfl)
            clear HSN
            go_wp2_with fail
            go_quiet (fail)
            go_wp2_with fail
            go_roundw
            case rel => exact ⟨j + 1, by omega, by go_num, by rw [HE.out], below_drewN HBr.out _⟩
            case measure => simp [intOf]; omega
      · have hjl : j = l.length := by omega
        have tj : decide ((j : Int) < (l.length : Int)) = false := by simp; omega
        have tj2 : decide (j < l.length) = false := by simp; omega
        have hbe : hasN (l.take j) t = true := by rw [hjl, List.take_of_length_le (Nat.le_refl _)]; exact HF.out
        rw [hbe]
        clear hbe hjl hj
        have HBr2 := Lib.hid (below_step HB0.out HBr.out)
        have HBl := Lib.hid (HBr2.out.mono (show B ≤ w.heap.size by omega))
        have HHl := Lib.hid (HH0.out.below HBl.out)
        have HOl : Hid (wr.ownsRow base 9 1 (.slice A' l1.length c') l1.length (l1.map Value.string)) := Lib.hid (by rw [HL1.out]; exact own_below HO.out HBr.out)
        have HXl := Lib.hid ((HBr.out.block w.heap.size (by omega)).trans HXo.out)
        have HKl := Lib.hid (KeepO.below HBr2.out)
        have HLE : Hid (l.length = l1.length) := Lib.hid (by rw [HL1.out])
        clear hB x1 HO HXo HC1 HH0 HB0 HBr2 hlt
        go_wp2_with fail
        rw [HLE.out]
        go_loopw [1, 7] (fun v i wr => ∃ (j : Nat) (R : Fo) (lc : List ByteArray) (A1 : Option Addr) (c1 : Nat), j + R.len = P.len ∧ i = .int .i64 j ∧ v = .slice A1 lc.length c1 ∧ R.nm lc = P.nm l1 ∧ AllC RefP R ∧ Holds wr B R A j ∧ wr.ownsRow base 9 1 (.slice A1 lc.length c1) lc.length (lc.map Value.string) ∧ wr.heap[w.heap.size]? = some (.cells #[.int .i64 33, .string t, .int .i64 n, .int .i64 m, .int .i64 a, .slice A P.len c] 24) ∧ KeepO w wr ∧ Below B w wr ∧ lc.length + R.nodes ≤ 40000) (fun _ i _ => P.len - (intOf i).toNat)
        case atStart => exact ⟨0, P, l1, _, _, by omega, by go_num, rfl, rfl, HA.out, HHl.out, HOl.out, HXl.out, HKl.out, HBl.out, hlen1⟩
        case round =>
          obtain ⟨j, R, lc, A1, c1, hj, rfl, rfl, hq, hall, hHr, hO, hX, hK, hB, hlc⟩ := hrel
          have HBw := Lib.hid hB
          have HQ := Lib.hid hq
          have HO := Lib.hid hO
          have HX := Lib.hid hX
          have HKw := Lib.hid hK
          have hsz : w.heap.size < wr.heap.size := by
            rcases Nat.lt_or_ge w.heap.size wr.heap.size with h | h
            · exact h
            · rw [Array.getElem?_eq_none h] at hX; cases hX
          have x5 : wr.cell? ⟨w.heap.size, 5, none⟩ = some (.slice A P.len c) := cell_of_row _ _ _ _ _ _ hX
          clear hB hq hO hX hK
          cases R with
          | nil =>
            have tj : decide ((j : Int) < (P.len : Int)) = false := by simp; simp [Fo.len] at hj; omega
            have tj2 : decide (j < P.len) = false := by simp; simp [Fo.len] at hj; omega
            have HE : Hid (lc = P.nm l1) := HQ
            clear hj hall hHr hlc HQ
            go_wp2_with fail
            go_ret
            exact ⟨A1, c1, ret_slice (by rw [HE.out]), by rw [← HE.out]; exact HO.out, HKw.out, HBw.out⟩
          | cons k1 t1 n1 m1 a1 P1 R1 =>
            obtain ⟨⟨ad, A2, c2, rfl, hblk, hcell, hc1, hc2, ht1, hP1⟩, hR1⟩ := hHr
            obtain ⟨hall1, hall2⟩ := hall
            have hjl : j + 1 + R1.len = P.len := by simp only [Fo.len] at hj; omega
            have hjl2 : j < P.len := by omega
            obtain ⟨f0, f1, f2, f3, f4, f5⟩ := six hcell
            have hnd : lc.length + (1 + P1.nodes) + R1.nodes ≤ 40000 := by simp only [Fo.nodes] at hlc; omega
            have K := Lib.hid (hall1 k1 t1 n1 m1 a1 A2 c2 wr B base lc A1 c1 hP1 (by omega) hBb (by omega) HO.out (by omega) ht1)
            have HQ2 : Hid (R1.nm (P1.nm (addN lc k1 t1)) = P.nm l1) := HQ
            have hl2 : (P1.nm (addN lc k1 t1)).length + R1.nodes ≤ 40000 := by
              have h1 := nm_len P1 (addN lc k1 t1)
              have h2 := addN_len lc k1 t1
              omega
            have HHR := Lib.hid hR1
            have HA2 := Lib.hid hall2
            simp only [val6, cells6] at K
            generalize P1.nm (addN lc k1 t1) = l2 at *
            clear hcell hR1 hall1 hall2 hj hP1 hlc hnd HQ
            go_wp2_with fail
            refine K.out.mono ?_
            rintro e w2 ⟨A3, c3, rfl, hO2, hK2, hb2⟩
            have HB2 := Lib.hid (HBw.out.trans hb2)
            have HH2 := Lib.hid (HHR.out.below hb2)
            have HO2 := Lib.hid hO2
            have HX2 := Lib.hid ((hK2 _ _ _ _ HX.out (by decide)).trans HX.out)
            have HK2 := Lib.hid (HKw.out.trans hK2)
            clear hb2 hO2 hK2
            go_wp2_with fail
            go_roundw
            case rel => exact ⟨j + 1, R1, l2, A3, c3, hjl, by go_num, rfl, HQ2.out, HA2.out, HH2.out, HO2.out, HX2.out, HK2.out, HB2.out, hl2⟩
            case measure => simp [intOf]; omega
set_option maxRecDepth 100000 in
set_option maxHeartbeats 8000000 in
theorem ref_new (P : Fo) (hall : AllC RefP P) (k : Int) (t : ByteArray) (n m a : Int) (A : Option Addr) (c : Nat) (w : World) (B base : Nat) (l l1 : List ByteArray) (A' : Option Addr) (c' : Nat) (hH : Holds w B P A 0) (hl : P.len ≤ 1000000000000000) (hBb : B ≤ base) (hbw : base ≤ w.heap.size) (hO : w.ownsRow base 9 1 (.slice A' l.length c') l.length (l.map Value.string)) (hlen1 : l1.length + P.nodes ≤ 40000) (hll : l.length ≤ 40000) (hl1 : l1 = l ++ [t]) (hf : hasN l t = false) (hk : (k = 1 ∧ wordB t = false) ∨ k = 25 ∨ k = 33) :
    Calls Try.prog 65 #[val6 k t n m a P.len A c, .slice A' l.length c'] w fun e w' => ∃ A2 c2, e = .returned (.slice A2 (P.nm l1).length c2) ∧ w'.ownsRow base 9 1 (.slice A2 (P.nm l1).length c2) (P.nm l1).length ((P.nm l1).map Value.string) ∧ KeepO w w' ∧ Below B w w' := by
  obtain ⟨i0, hi, hz0, hz1, hz2⟩ := info_parts infoS
  simp only [val6, cells6]
  have HA := Lib.hid hall
  have HH0 := Lib.hid hH
  have HO0 := Lib.hid hO
  have HF := Lib.hid hf
  have HL1 := Lib.hid hl1
  have KW := Lib.hid (fun W => word_ref t W)
  clear hall hH hO hf hl1
  rcases hk with ⟨rfl, hw⟩ | rfl | rfl
  · try rw [hw] at KW
    try clear hw
    go_enter Try.func65, Try.ntmps65
    go_wp2_with (go_at_call 38; refine (KW.out _).mono ?_; rintro e w1 ⟨rfl, rfl⟩)
    generalize hW0 : w.alloc _ = W0
    have HB0 : Hid (Below w.heap.size w W0) := Lib.hid (by rw [← hW0]; exact (Below.refl _ _).alloc (Nat.le_refl _) _)
    have hs0 : W0.heap.size = w.heap.size + 1 := by rw [← hW0, alloc_size]
    have HXo : Hid (W0.heap[w.heap.size]? = some (.cells #[.int .i64 1, .string t, .int .i64 n, .int .i64 m, .int .i64 a, .slice A P.len c] 24)) := Lib.hid (by rw [← hW0]; exact box_obj w _ _)
    have HC1 : Hid (W0.cell? ⟨w.heap.size, 1, none⟩ = some (.string t)) := Lib.hid (cell_of_row _ _ _ _ _ _ HXo.out)
    have HO : Hid (W0.ownsRow base 9 1 (.slice A' l.length c') l.length (l.map Value.string)) := Lib.hid (own_below HO0.out HB0.out)
    clear hW0 HO0
    go_loopw [5, 6] (fun v i wr => ∃ j : Nat, j ≤ l.length ∧ i = .int .i64 j ∧ v = .bool (hasN (l.take j) t) ∧ Below W0.heap.size W0 wr) (fun _ i _ => l.length - (intOf i).toNat)
    case atStart => exact ⟨0, by omega, by go_num, rfl, Below.refl _ _⟩
    case round =>
      obtain ⟨j, hj, rfl, rfl, hB⟩ := hrel
      have HBr := Lib.hid hB
      have x1 : wr.cell? ⟨w.heap.size, 1, none⟩ = some (.string t) := (hB.cell (p := ⟨w.heap.size, 1, none⟩) (by show w.heap.size < _; omega)).trans HC1.out
      by_cases hlt : j < l.length
      · have hO := own_below HO.out hB
        obtain ⟨g, rfl⟩ : ∃ g, A' = some ⟨g, 0, none⟩ := by
          rcases hO.2 with ⟨_, h⟩ | ⟨g, cap, cur, h, _⟩
          · omega
          · exact ⟨g, by injection h⟩
        have e1 : wr.cell? ⟨g, j, none⟩ = some (.string (l[j]'hlt)) := by
          rw [hO.cellAt j (by omega), List.getElem?_map, List.getElem?_eq_getElem hlt]; rfl
        have hsn : hasN (l.take (j + 1)) t = (hasN (l.take j) t || (l[j]'hlt).toList == t.toList) := by
          unfold hasN
          rw [List.take_succ_eq_append_getElem hlt, List.any_append]; simp
        have HSN := Lib.hid hsn
        clear hsn hO hB
        generalize hasN (l.take j) t = b1 at *
        generalize (l[j]'hlt) = x at *
        cases b1 with
        | true =>
          have HE : Hid (hasN (l.take (j + 1)) t = true) := Lib.hid (by rw [HSN.out]; rfl)
          clear HSN
          go_wp2_with fail
          go_quiet (fail)
          go_wp2_with fail
          go_roundw
          case rel => exact ⟨j + 1, by omega, by go_num, by rw [HE.out], below_drewN HBr.out _⟩
          case measure => simp [intOf]; omega
        | false =>
          cases hq : (x.toList == t.toList) with
          | true =>
            have HE : Hid (hasN (l.take (j + 1)) t = true) := Lib.hid (by rw [HSN.out, hq]; rfl)
            clear HSN
            go_wp2_with fail
            go_quiet (fail)
            go_wp2_with fail
            go_roundw
            case rel => exact ⟨j + 1, by omega, by go_num, by rw [HE.out], below_drewN HBr.out _⟩
            case measure => simp [intOf]; omega
          | false =>
            have HE : Hid (hasN (l.take (j + 1)) t = false) := Lib.hid (by rw [HSN.out, hq]; rfl)
            clear HSN
            go_wp2_with fail
            go_quiet (fail)
            go_wp2_with fail
            go_roundw
            case rel => exact ⟨j + 1, by omega, by go_num, by rw [HE.out], below_drewN HBr.out _⟩
            case measure => simp [intOf]; omega
      · have hjl : j = l.length := by omega
        have tj : decide ((j : Int) < (l.length : Int)) = false := by simp; omega
        have tj2 : decide (j < l.length) = false := by simp; omega
        have hbe : hasN (l.take j) t = false := by rw [hjl, List.take_of_length_le (Nat.le_refl _)]; exact HF.out
        rw [hbe]
        clear hbe hjl hj
        have HOr := Lib.hid (own_below HO.out HBr.out)
        have HBr2 := Lib.hid (below_step HB0.out HBr.out)
        have HBr3 := Lib.hid (HBr2.out.mono (show B ≤ w.heap.size by omega))
        have HXr := Lib.hid ((HBr.out.block w.heap.size (by omega)).trans HXo.out)
        have hwr : w.heap.size < wr.heap.size := by have := HBr.out.size; omega
        clear hB HO HXo HC1 HB0 hlt
        go_wp2_with (at_builtin; refine wpList_append_own _ rfl _ _ 32 rfl base 9 i0 (.string ⟨#[]⟩) 1 16 Try.underlying32 hi hz0 hz1 hz2 rfl (by decide) _ _ _ rfl (HOr.out.alloc _) ⟨wr.heap.size, 0, none⟩ 1 1 [.string t] rfl rfl (cell_one_new _ _ _) (one_str t) (by unfold maxLen; omega) (by omega) (by rw [alloc_size]; omega) ?_; intro v' w3 hown3 hgrow3 _; obtain ⟨A3, c3, hv⟩ := own_form hown3; subst hv; have HO3 := Lib.hid hown3; have HG3 := Lib.hid hgrow3; clear hown3 hgrow3)
        have k1 : KeepO wr w3 := (KeepO.below ((Below.refl wr.heap.size wr).alloc (Nat.le_refl _) (.cells #[.string t] 9))).trans (KeepO.grown (HOr.out.alloc _) HG3.out)
        have HKl := Lib.hid ((KeepO.below HBr2.out).trans k1)
        have HXl := Lib.hid ((k1 _ _ _ _ HXr.out (by decide)).trans HXr.out)
        have HBl : Hid (Below B w w3) := Lib.hid ((HBr3.out.alloc (by omega) (.cells #[.string t] 9)).grown HG3.out (by rw [alloc_size]; omega) (fun g hg => by have := (HOr.out.lt g hg).1; omega))
        have HHl := Lib.hid (HH0.out.below HBl.out)
        have HLE : Hid (l.length + 1 = l1.length) := Lib.hid (by rw [HL1.out]; simp)
        have HOl : Hid (w3.ownsRow base 9 1 (.slice A3 l1.length c3) l1.length (l1.map Value.string)) := Lib.hid (by rw [← HLE.out, HL1.out, List.map_append]; exact HO3.out)
        clear k1 x1 HH0 HBr2 HBr3 HXr HOr HO3 HG3
        rw [HLE.out]
        go_loopw [1, 7] (fun v i wr => ∃ (j : Nat) (R : Fo) (lc : List ByteArray) (A1 : Option Addr) (c1 : Nat), j + R.len = P.len ∧ i = .int .i64 j ∧ v = .slice A1 lc.length c1 ∧ R.nm lc = P.nm l1 ∧ AllC RefP R ∧ Holds wr B R A j ∧ wr.ownsRow base 9 1 (.slice A1 lc.length c1) lc.length (lc.map Value.string) ∧ wr.heap[w.heap.size]? = some (.cells #[.int .i64 1, .string t, .int .i64 n, .int .i64 m, .int .i64 a, .slice A P.len c] 24) ∧ KeepO w wr ∧ Below B w wr ∧ lc.length + R.nodes ≤ 40000) (fun _ i _ => P.len - (intOf i).toNat)
        case atStart => exact ⟨0, P, l1, _, _, by omega, by go_num, rfl, rfl, HA.out, HHl.out, HOl.out, HXl.out, HKl.out, HBl.out, hlen1⟩
        case round =>
          obtain ⟨j, R, lc, A1, c1, hj, rfl, rfl, hq, hall, hHr, hO, hX, hK, hB, hlc⟩ := hrel
          have HBw := Lib.hid hB
          have HQ := Lib.hid hq
          have HO := Lib.hid hO
          have HX := Lib.hid hX
          have HKw := Lib.hid hK
          have hsz : w.heap.size < wr.heap.size := by
            rcases Nat.lt_or_ge w.heap.size wr.heap.size with h | h
            · exact h
            · rw [Array.getElem?_eq_none h] at hX; cases hX
          have x5 : wr.cell? ⟨w.heap.size, 5, none⟩ = some (.slice A P.len c) := cell_of_row _ _ _ _ _ _ hX
          clear hB hq hO hX hK
          cases R with
          | nil =>
            have tj : decide ((j : Int) < (P.len : Int)) = false := by simp; simp [Fo.len] at hj; omega
            have tj2 : decide (j < P.len) = false := by simp; simp [Fo.len] at hj; omega
            have HE : Hid (lc = P.nm l1) := HQ
            clear hj hall hHr hlc HQ
            go_wp2_with fail
            go_ret
            exact ⟨A1, c1, ret_slice (by rw [HE.out]), by rw [← HE.out]; exact HO.out, HKw.out, HBw.out⟩
          | cons k1 t1 n1 m1 a1 P1 R1 =>
            obtain ⟨⟨ad, A2, c2, rfl, hblk, hcell, hc1, hc2, ht1, hP1⟩, hR1⟩ := hHr
            obtain ⟨hall1, hall2⟩ := hall
            have hjl : j + 1 + R1.len = P.len := by simp only [Fo.len] at hj; omega
            have hjl2 : j < P.len := by omega
            obtain ⟨f0, f1, f2, f3, f4, f5⟩ := six hcell
            have hnd : lc.length + (1 + P1.nodes) + R1.nodes ≤ 40000 := by simp only [Fo.nodes] at hlc; omega
            have K := Lib.hid (hall1 k1 t1 n1 m1 a1 A2 c2 wr B base lc A1 c1 hP1 (by omega) hBb (by omega) HO.out (by omega) ht1)
            have HQ2 : Hid (R1.nm (P1.nm (addN lc k1 t1)) = P.nm l1) := HQ
            have hl2 : (P1.nm (addN lc k1 t1)).length + R1.nodes ≤ 40000 := by
              have h1 := nm_len P1 (addN lc k1 t1)
              have h2 := addN_len lc k1 t1
              omega
            have HHR := Lib.hid hR1
            have HA2 := Lib.hid hall2
            simp only [val6, cells6] at K
            generalize P1.nm (addN lc k1 t1) = l2 at *
            clear hcell hR1 hall1 hall2 hj hP1 hlc hnd HQ
            go_wp2_with fail
            refine K.out.mono ?_
            rintro e w2 ⟨A3, c3, rfl, hO2, hK2, hb2⟩
            have HB2 := Lib.hid (HBw.out.trans hb2)
            have HH2 := Lib.hid (HHR.out.below hb2)
            have HO2 := Lib.hid hO2
            have HX2 := Lib.hid ((hK2 _ _ _ _ HX.out (by decide)).trans HX.out)
            have HK2 := Lib.hid (HKw.out.trans hK2)
            clear hb2 hO2 hK2
            go_wp2_with fail
            go_roundw
            case rel => exact ⟨j + 1, R1, l2, A3, c3, hjl, by go_num, rfl, HQ2.out, HA2.out, HH2.out, HO2.out, HX2.out, HK2.out, HB2.out, hl2⟩
            case measure => simp [intOf]; omega
  · go_enter Try.func65, Try.ntmps65
    go_wp2_with fail
    generalize hW0 : w.alloc _ = W0
    have HB0 : Hid (Below w.heap.size w W0) := Lib.hid (by rw [← hW0]; exact (Below.refl _ _).alloc (Nat.le_refl _) _)
    have hs0 : W0.heap.size = w.heap.size + 1 := by rw [← hW0, alloc_size]
    have HXo : Hid (W0.heap[w.heap.size]? = some (.cells #[.int .i64 25, .string t, .int .i64 n, .int .i64 m, .int .i64 a, .slice A P.len c] 24)) := Lib.hid (by rw [← hW0]; exact box_obj w _ _)
    have HC1 : Hid (W0.cell? ⟨w.heap.size, 1, none⟩ = some (.string t)) := Lib.hid (cell_of_row _ _ _ _ _ _ HXo.out)
    have HO : Hid (W0.ownsRow base 9 1 (.slice A' l.length c') l.length (l.map Value.string)) := Lib.hid (own_below HO0.out HB0.out)
    clear hW0 HO0
    go_loopw [5, 6] (fun v i wr => ∃ j : Nat, j ≤ l.length ∧ i = .int .i64 j ∧ v = .bool (hasN (l.take j) t) ∧ Below W0.heap.size W0 wr) (fun _ i _ => l.length - (intOf i).toNat)
    case atStart => exact ⟨0, by omega, by go_num, rfl, Below.refl _ _⟩
    case round =>
      obtain ⟨j, hj, rfl, rfl, hB⟩ := hrel
      have HBr := Lib.hid hB
      have x1 : wr.cell? ⟨w.heap.size, 1, none⟩ = some (.string t) := (hB.cell (p := ⟨w.heap.size, 1, none⟩) (by show w.heap.size < _; omega)).trans HC1.out
      by_cases hlt : j < l.length
      · have hO := own_below HO.out hB
        obtain ⟨g, rfl⟩ : ∃ g, A' = some ⟨g, 0, none⟩ := by
          rcases hO.2 with ⟨_, h⟩ | ⟨g, cap, cur, h, _⟩
          · omega
          · exact ⟨g, by injection h⟩
        have e1 : wr.cell? ⟨g, j, none⟩ = some (.string (l[j]'hlt)) := by
          rw [hO.cellAt j (by omega), List.getElem?_map, List.getElem?_eq_getElem hlt]; rfl
        have hsn : hasN (l.take (j + 1)) t = (hasN (l.take j) t || (l[j]'hlt).toList == t.toList) := by
          unfold hasN
          rw [List.take_succ_eq_append_getElem hlt, List.any_append]; simp
        have HSN := Lib.hid hsn
        clear hsn hO hB
        generalize hasN (l.take j) t = b1 at *
        generalize (l[j]'hlt) = x at *
        cases b1 with
        | true =>
          have HE : Hid (hasN (l.take (j + 1)) t = true) := Lib.hid (by rw [HSN.out]; rfl)
          clear HSN
          go_wp2_with fail
          go_quiet (fail)
          go_wp2_with fail
          go_roundw
          case rel => exact ⟨j + 1, by omega, by go_num, by rw [HE.out], below_drewN HBr.out _⟩
          case measure => simp [intOf]; omega
        | false =>
          cases hq : (x.toList == t.toList) with
          | true =>
            have HE : Hid (hasN (l.take (j + 1)) t = true) := Lib.hid (by rw [HSN.out, hq]; rfl)
            clear HSN
            go_wp2_with fail
            go_quiet (fail)
            go_wp2_with fail
            go_roundw
            case rel => exact ⟨j + 1, by omega, by go_num, by rw [HE.out], below_drewN HBr.out _⟩
            case measure => simp [intOf]; omega
          | false =>
            have HE : Hid (hasN (l.take (j + 1)) t = false) := Lib.hid (by rw [HSN.out, hq]; rfl)
            clear HSN
            go_wp2_with fail
            go_quiet (fail)
            go_wp2_with fail
            go_roundw
            case rel => exact ⟨j + 1, by omega, by go_num, by rw [HE.out], below_drewN HBr.out _⟩
            case measure => simp [intOf]; omega
      · have hjl : j = l.length := by omega
        have tj : decide ((j : Int) < (l.length : Int)) = false := by simp; omega
        have tj2 : decide (j < l.length) = false := by simp; omega
        have hbe : hasN (l.take j) t = false := by rw [hjl, List.take_of_length_le (Nat.le_refl _)]; exact HF.out
        rw [hbe]
        clear hbe hjl hj
        have HOr := Lib.hid (own_below HO.out HBr.out)
        have HBr2 := Lib.hid (below_step HB0.out HBr.out)
        have HBr3 := Lib.hid (HBr2.out.mono (show B ≤ w.heap.size by omega))
        have HXr := Lib.hid ((HBr.out.block w.heap.size (by omega)).trans HXo.out)
        have hwr : w.heap.size < wr.heap.size := by have := HBr.out.size; omega
        clear hB HO HXo HC1 HB0 hlt
        go_wp2_with (at_builtin; refine wpList_append_own _ rfl _ _ 32 rfl base 9 i0 (.string ⟨#[]⟩) 1 16 Try.underlying32 hi hz0 hz1 hz2 rfl (by decide) _ _ _ rfl (HOr.out.alloc _) ⟨wr.heap.size, 0, none⟩ 1 1 [.string t] rfl rfl (cell_one_new _ _ _) (one_str t) (by unfold maxLen; omega) (by omega) (by rw [alloc_size]; omega) ?_; intro v' w3 hown3 hgrow3 _; obtain ⟨A3, c3, hv⟩ := own_form hown3; subst hv; have HO3 := Lib.hid hown3; have HG3 := Lib.hid hgrow3; clear hown3 hgrow3)
        have k1 : KeepO wr w3 := (KeepO.below ((Below.refl wr.heap.size wr).alloc (Nat.le_refl _) (.cells #[.string t] 9))).trans (KeepO.grown (HOr.out.alloc _) HG3.out)
        have HKl := Lib.hid ((KeepO.below HBr2.out).trans k1)
        have HXl := Lib.hid ((k1 _ _ _ _ HXr.out (by decide)).trans HXr.out)
        have HBl : Hid (Below B w w3) := Lib.hid ((HBr3.out.alloc (by omega) (.cells #[.string t] 9)).grown HG3.out (by rw [alloc_size]; omega) (fun g hg => by have := (HOr.out.lt g hg).1; omega))
        have HHl := Lib.hid (HH0.out.below HBl.out)
        have HLE : Hid (l.length + 1 = l1.length) := Lib.hid (by rw [HL1.out]; simp)
        have HOl : Hid (w3.ownsRow base 9 1 (.slice A3 l1.length c3) l1.length (l1.map Value.string)) := Lib.hid (by rw [← HLE.out, HL1.out, List.map_append]; exact HO3.out)
        clear k1 x1 HH0 HBr2 HBr3 HXr HOr HO3 HG3
        rw [HLE.out]
        go_loopw [1, 7] (fun v i wr => ∃ (j : Nat) (R : Fo) (lc : List ByteArray) (A1 : Option Addr) (c1 : Nat), j + R.len = P.len ∧ i = .int .i64 j ∧ v = .slice A1 lc.length c1 ∧ R.nm lc = P.nm l1 ∧ AllC RefP R ∧ Holds wr B R A j ∧ wr.ownsRow base 9 1 (.slice A1 lc.length c1) lc.length (lc.map Value.string) ∧ wr.heap[w.heap.size]? = some (.cells #[.int .i64 25, .string t, .int .i64 n, .int .i64 m, .int .i64 a, .slice A P.len c] 24) ∧ KeepO w wr ∧ Below B w wr ∧ lc.length + R.nodes ≤ 40000) (fun _ i _ => P.len - (intOf i).toNat)
        case atStart => exact ⟨0, P, l1, _, _, by omega, by go_num, rfl, rfl, HA.out, HHl.out, HOl.out, HXl.out, HKl.out, HBl.out, hlen1⟩
        case round =>
          obtain ⟨j, R, lc, A1, c1, hj, rfl, rfl, hq, hall, hHr, hO, hX, hK, hB, hlc⟩ := hrel
          have HBw := Lib.hid hB
          have HQ := Lib.hid hq
          have HO := Lib.hid hO
          have HX := Lib.hid hX
          have HKw := Lib.hid hK
          have hsz : w.heap.size < wr.heap.size := by
            rcases Nat.lt_or_ge w.heap.size wr.heap.size with h | h
            · exact h
            · rw [Array.getElem?_eq_none h] at hX; cases hX
          have x5 : wr.cell? ⟨w.heap.size, 5, none⟩ = some (.slice A P.len c) := cell_of_row _ _ _ _ _ _ hX
          clear hB hq hO hX hK
          cases R with
          | nil =>
            have tj : decide ((j : Int) < (P.len : Int)) = false := by simp; simp [Fo.len] at hj; omega
            have tj2 : decide (j < P.len) = false := by simp; simp [Fo.len] at hj; omega
            have HE : Hid (lc = P.nm l1) := HQ
            clear hj hall hHr hlc HQ
            go_wp2_with fail
            go_ret
            exact ⟨A1, c1, ret_slice (by rw [HE.out]), by rw [← HE.out]; exact HO.out, HKw.out, HBw.out⟩
          | cons k1 t1 n1 m1 a1 P1 R1 =>
            obtain ⟨⟨ad, A2, c2, rfl, hblk, hcell, hc1, hc2, ht1, hP1⟩, hR1⟩ := hHr
            obtain ⟨hall1, hall2⟩ := hall
            have hjl : j + 1 + R1.len = P.len := by simp only [Fo.len] at hj; omega
            have hjl2 : j < P.len := by omega
            obtain ⟨f0, f1, f2, f3, f4, f5⟩ := six hcell
            have hnd : lc.length + (1 + P1.nodes) + R1.nodes ≤ 40000 := by simp only [Fo.nodes] at hlc; omega
            have K := Lib.hid (hall1 k1 t1 n1 m1 a1 A2 c2 wr B base lc A1 c1 hP1 (by omega) hBb (by omega) HO.out (by omega) ht1)
            have HQ2 : Hid (R1.nm (P1.nm (addN lc k1 t1)) = P.nm l1) := HQ
            have hl2 : (P1.nm (addN lc k1 t1)).length + R1.nodes ≤ 40000 := by
              have h1 := nm_len P1 (addN lc k1 t1)
              have h2 := addN_len lc k1 t1
              omega
            have HHR := Lib.hid hR1
            have HA2 := Lib.hid hall2
            simp only [val6, cells6] at K
            generalize P1.nm (addN lc k1 t1) = l2 at *
            clear hcell hR1 hall1 hall2 hj hP1 hlc hnd HQ
            go_wp2_with fail
            refine K.out.mono ?_
            rintro e w2 ⟨A3, c3, rfl, hO2, hK2, hb2⟩
            have HB2 := Lib.hid (HBw.out.trans hb2)
            have HH2 := Lib.hid (HHR.out.below hb2)
            have HO2 := Lib.hid hO2
            have HX2 := Lib.hid ((hK2 _ _ _ _ HX.out (by decide)).trans HX.out)
            have HK2 := Lib.hid (HKw.out.trans hK2)
            clear hb2 hO2 hK2
            go_wp2_with fail
            go_roundw
            case rel => exact ⟨j + 1, R1, l2, A3, c3, hjl, by go_num, rfl, HQ2.out, HA2.out, HH2.out, HO2.out, HX2.out, HK2.out, HB2.out, hl2⟩
            case measure => simp [intOf]; omega
  · go_enter Try.func65, Try.ntmps65
    go_wp2_with fail
    generalize hW0 : w.alloc _ = W0
    have HB0 : Hid (Below w.heap.size w W0) := Lib.hid (by rw [← hW0]; exact (Below.refl _ _).alloc (Nat.le_refl _) _)
    have hs0 : W0.heap.size = w.heap.size + 1 := by rw [← hW0, alloc_size]
    have HXo : Hid (W0.heap[w.heap.size]? = some (.cells #[.int .i64 33, .string t, .int .i64 n, .int .i64 m, .int .i64 a, .slice A P.len c] 24)) := Lib.hid (by rw [← hW0]; exact box_obj w _ _)
    have HC1 : Hid (W0.cell? ⟨w.heap.size, 1, none⟩ = some (.string t)) := Lib.hid (cell_of_row _ _ _ _ _ _ HXo.out)
    have HO : Hid (W0.ownsRow base 9 1 (.slice A' l.length c') l.length (l.map Value.string)) := Lib.hid (own_below HO0.out HB0.out)
    clear hW0 HO0
    go_loopw [5, 6] (fun v i wr => ∃ j : Nat, j ≤ l.length ∧ i = .int .i64 j ∧ v = .bool (hasN (l.take j) t) ∧ Below W0.heap.size W0 wr) (fun _ i _ => l.length - (intOf i).toNat)
    case atStart => exact ⟨0, by omega, by go_num, rfl, Below.refl _ _⟩
    case round =>
      obtain ⟨j, hj, rfl, rfl, hB⟩ := hrel
      have HBr := Lib.hid hB
      have x1 : wr.cell? ⟨w.heap.size, 1, none⟩ = some (.string t) := (hB.cell (p := ⟨w.heap.size, 1, none⟩) (by show w.heap.size < _; omega)).trans HC1.out
      by_cases hlt : j < l.length
      · have hO := own_below HO.out hB
        obtain ⟨g, rfl⟩ : ∃ g, A' = some ⟨g, 0, none⟩ := by
          rcases hO.2 with ⟨_, h⟩ | ⟨g, cap, cur, h, _⟩
          · omega
          · exact ⟨g, by injection h⟩
        have e1 : wr.cell? ⟨g, j, none⟩ = some (.string (l[j]'hlt)) := by
          rw [hO.cellAt j (by omega), List.getElem?_map, List.getElem?_eq_getElem hlt]; rfl
        have hsn : hasN (l.take (j + 1)) t = (hasN (l.take j) t || (l[j]'hlt).toList == t.toList) := by
          unfold hasN
          rw [List.take_succ_eq_append_getElem hlt, List.any_append]; simp
        have HSN := Lib.hid hsn
        clear hsn hO hB
        generalize hasN (l.take j) t = b1 at *
        generalize (l[j]'hlt) = x at *
        cases b1 with
        | true =>
          have HE : Hid (hasN (l.take (j + 1)) t = true) := Lib.hid (by rw [HSN.out]; rfl)
          clear HSN
          go_wp2_with fail
          go_quiet (fail)
          go_wp2_with fail
          go_roundw
          case rel => exact ⟨j + 1, by omega, by go_num, by rw [HE.out], below_drewN HBr.out _⟩
          case measure => simp [intOf]; omega
        | false =>
          cases hq : (x.toList == t.toList) with
          | true =>
            have HE : Hid (hasN (l.take (j + 1)) t = true) := Lib.hid (by rw [HSN.out, hq]; rfl)
            clear HSN
            go_wp2_with fail
            go_quiet (fail)
            go_wp2_with fail
            go_roundw
            case rel => exact ⟨j + 1, by omega, by go_num, by rw [HE.out], below_drewN HBr.out _⟩
            case measure => simp [intOf]; omega
          | false =>
            have HE : Hid (hasN (l.take (j + 1)) t = false) := Lib.hid (by rw [HSN.out, hq]; rfl)
            clear HSN
            go_wp2_with fail
            go_quiet (fail)
            go_wp2_with fail
            go_roundw
            case rel => exact ⟨j + 1, by omega, by go_num, by rw [HE.out], below_drewN HBr.out _⟩
            case measure => simp [intOf]; omega
      · have hjl : j = l.length := by omega
        have tj : decide ((j : Int) < (l.length : Int)) = false := by simp; omega
        have tj2 : decide (j < l.length) = false := by simp; omega
        have hbe : hasN (l.take j) t = false := by rw [hjl, List.take_of_length_le (Nat.le_refl _)]; exact HF.out
        rw [hbe]
        clear hbe hjl hj
        have HOr := Lib.hid (own_below HO.out HBr.out)
        have HBr2 := Lib.hid (below_step HB0.out HBr.out)
        have HBr3 := Lib.hid (HBr2.out.mono (show B ≤ w.heap.size by omega))
        have HXr := Lib.hid ((HBr.out.block w.heap.size (by omega)).trans HXo.out)
        have hwr : w.heap.size < wr.heap.size := by have := HBr.out.size; omega
        clear hB HO HXo HC1 HB0 hlt
        go_wp2_with (at_builtin; refine wpList_append_own _ rfl _ _ 32 rfl base 9 i0 (.string ⟨#[]⟩) 1 16 Try.underlying32 hi hz0 hz1 hz2 rfl (by decide) _ _ _ rfl (HOr.out.alloc _) ⟨wr.heap.size, 0, none⟩ 1 1 [.string t] rfl rfl (cell_one_new _ _ _) (one_str t) (by unfold maxLen; omega) (by omega) (by rw [alloc_size]; omega) ?_; intro v' w3 hown3 hgrow3 _; obtain ⟨A3, c3, hv⟩ := own_form hown3; subst hv; have HO3 := Lib.hid hown3; have HG3 := Lib.hid hgrow3; clear hown3 hgrow3)
        have k1 : KeepO wr w3 := (KeepO.below ((Below.refl wr.heap.size wr).alloc (Nat.le_refl _) (.cells #[.string t] 9))).trans (KeepO.grown (HOr.out.alloc _) HG3.out)
        have HKl := Lib.hid ((KeepO.below HBr2.out).trans k1)
        have HXl := Lib.hid ((k1 _ _ _ _ HXr.out (by decide)).trans HXr.out)
        have HBl : Hid (Below B w w3) := Lib.hid ((HBr3.out.alloc (by omega) (.cells #[.string t] 9)).grown HG3.out (by rw [alloc_size]; omega) (fun g hg => by have := (HOr.out.lt g hg).1; omega))
        have HHl := Lib.hid (HH0.out.below HBl.out)
        have HLE : Hid (l.length + 1 = l1.length) := Lib.hid (by rw [HL1.out]; simp)
        have HOl : Hid (w3.ownsRow base 9 1 (.slice A3 l1.length c3) l1.length (l1.map Value.string)) := Lib.hid (by rw [← HLE.out, HL1.out, List.map_append]; exact HO3.out)
        clear k1 x1 HH0 HBr2 HBr3 HXr HOr HO3 HG3
        rw [HLE.out]
        go_loopw [1, 7] (fun v i wr => ∃ (j : Nat) (R : Fo) (lc : List ByteArray) (A1 : Option Addr) (c1 : Nat), j + R.len = P.len ∧ i = .int .i64 j ∧ v = .slice A1 lc.length c1 ∧ R.nm lc = P.nm l1 ∧ AllC RefP R ∧ Holds wr B R A j ∧ wr.ownsRow base 9 1 (.slice A1 lc.length c1) lc.length (lc.map Value.string) ∧ wr.heap[w.heap.size]? = some (.cells #[.int .i64 33, .string t, .int .i64 n, .int .i64 m, .int .i64 a, .slice A P.len c] 24) ∧ KeepO w wr ∧ Below B w wr ∧ lc.length + R.nodes ≤ 40000) (fun _ i _ => P.len - (intOf i).toNat)
        case atStart => exact ⟨0, P, l1, _, _, by omega, by go_num, rfl, rfl, HA.out, HHl.out, HOl.out, HXl.out, HKl.out, HBl.out, hlen1⟩
        case round =>
          obtain ⟨j, R, lc, A1, c1, hj, rfl, rfl, hq, hall, hHr, hO, hX, hK, hB, hlc⟩ := hrel
          have HBw := Lib.hid hB
          have HQ := Lib.hid hq
          have HO := Lib.hid hO
          have HX := Lib.hid hX
          have HKw := Lib.hid hK
          have hsz : w.heap.size < wr.heap.size := by
            rcases Nat.lt_or_ge w.heap.size wr.heap.size with h | h
            · exact h
            · rw [Array.getElem?_eq_none h] at hX; cases hX
          have x5 : wr.cell? ⟨w.heap.size, 5, none⟩ = some (.slice A P.len c) := cell_of_row _ _ _ _ _ _ hX
          clear hB hq hO hX hK
          cases R with
          | nil =>
            have tj : decide ((j : Int) < (P.len : Int)) = false := by simp; simp [Fo.len] at hj; omega
            have tj2 : decide (j < P.len) = false := by simp; simp [Fo.len] at hj; omega
            have HE : Hid (lc = P.nm l1) := HQ
            clear hj hall hHr hlc HQ
            go_wp2_with fail
            go_ret
            exact ⟨A1, c1, ret_slice (by rw [HE.out]), by rw [← HE.out]; exact HO.out, HKw.out, HBw.out⟩
          | cons k1 t1 n1 m1 a1 P1 R1 =>
            obtain ⟨⟨ad, A2, c2, rfl, hblk, hcell, hc1, hc2, ht1, hP1⟩, hR1⟩ := hHr
            obtain ⟨hall1, hall2⟩ := hall
            have hjl : j + 1 + R1.len = P.len := by simp only [Fo.len] at hj; omega
            have hjl2 : j < P.len := by omega
            obtain ⟨f0, f1, f2, f3, f4, f5⟩ := six hcell
            have hnd : lc.length + (1 + P1.nodes) + R1.nodes ≤ 40000 := by simp only [Fo.nodes] at hlc; omega
            have K := Lib.hid (hall1 k1 t1 n1 m1 a1 A2 c2 wr B base lc A1 c1 hP1 (by omega) hBb (by omega) HO.out (by omega) ht1)
            have HQ2 : Hid (R1.nm (P1.nm (addN lc k1 t1)) = P.nm l1) := HQ
            have hl2 : (P1.nm (addN lc k1 t1)).length + R1.nodes ≤ 40000 := by
              have h1 := nm_len P1 (addN lc k1 t1)
              have h2 := addN_len lc k1 t1
              omega
            have HHR := Lib.hid hR1
            have HA2 := Lib.hid hall2
            simp only [val6, cells6] at K
            generalize P1.nm (addN lc k1 t1) = l2 at *
            clear hcell hR1 hall1 hall2 hj hP1 hlc hnd HQ
            go_wp2_with fail
            refine K.out.mono ?_
            rintro e w2 ⟨A3, c3, rfl, hO2, hK2, hb2⟩
            have HB2 := Lib.hid (HBw.out.trans hb2)
            have HH2 := Lib.hid (HHR.out.below hb2)
            have HO2 := Lib.hid hO2
            have HX2 := Lib.hid ((hK2 _ _ _ _ HX.out (by decide)).trans HX.out)
            have HK2 := Lib.hid (HKw.out.trans hK2)
            clear hb2 hO2 hK2
            go_wp2_with fail
            go_roundw
            case rel => exact ⟨j + 1, R1, l2, A3, c3, hjl, by go_num, rfl, HQ2.out, HA2.out, HH2.out, HO2.out, HX2.out, HK2.out, HB2.out, hl2⟩
            case measure => simp [intOf]; omega
theorem ref_step (P : Fo) (hall : AllC RefP P) : RefP P := by
  intro k t n m a A c w B base l A' c' hH hl hBb hbw hO hlen ht
  have hlen1 : (addN l k t).length + P.nodes ≤ 40000 := by have := addN_len l k t; omega
  cases hb : nameB k t with
  | false =>
    have h1 : addN l k t = l := by unfold addN; rw [hb]; rfl
    rw [h1] at hlen1 ⊢
    refine ref_no P hall k t n m a A c w B base l A' c' hH hl hBb hbw hO hlen1 ?_
    by_cases h : k = 1
    · subst h
      refine .inl ⟨rfl, ?_⟩
      cases hw : wordB t with
      | true => rfl
      | false => rw [nameB, hw] at hb; simp at hb
    · refine .inr ⟨h, ?_, ?_⟩ <;> (rintro rfl; simp [nameB] at hb)
  | true =>
    have hk : (k = 1 ∧ wordB t = false) ∨ k = 25 ∨ k = 33 := by
      simp only [nameB, Bool.or_eq_true, Bool.and_eq_true, beq_iff_eq, Bool.not_eq_true'] at hb
      exact hb
    cases hf : hasN l t with
    | true =>
      have h1 : addN l k t = l := by unfold addN; rw [hb, hf]; rfl
      rw [h1] at hlen1 ⊢
      exact ref_found P hall k t n m a A c w B base l l A' c' hH hl hBb hbw hO hlen1 (by omega) rfl hf hk
    | false =>
      have h1 : addN l k t = l ++ [t] := by unfold addN; rw [hb, hf]; rfl
      rw [h1] at hlen1 ⊢
      exact ref_new P hall k t n m a A c w B base l (l ++ [t]) A' c' hH hl hBb hbw hO hlen1 (by omega) rfl hf hk
theorem ref_prog (P : Fo) : RefP P := fo_ind ref_step P
end Go.Proofs.Ytogoolpgajopcaa
