import Derived.Test.YtlgklkokadbpeaaDoorScK
namespace Go.Proofs.YtlgklkokadbpeaaDoor
open Go.RowKit
/-- What a row of tokens gives a walk, in each later world. -/
theorem row_facts {w : World} {base g n c : Nat} {l : List Tok} (ho : w.ownsRow base 63 5 (.slice (some ⟨g, 0, none⟩) n c) l.length (tokCells l)) :
    ∀ (W : World), Below w.heap.size w W → ∀ k t, l[k]? = some t → W.cell? ⟨g, k * 5, none⟩ = some (.int .i64 t.kind) ∧ W.cell? ⟨g, k * 5 + 1, none⟩ = some (.string t.text) ∧ W.cell? ⟨g, k * 5 + 2, none⟩ = some (.int .i64 t.n) ∧ W.cell? ⟨g, k * 5 + 3, none⟩ = some (.int .i64 t.at_) ∧ W.cell? ⟨g, k * 5 + 4, none⟩ = some (.int .i64 t.end_) :=
  fun _ hW _ _ h => tok_cell (own_below ho hW) h
theorem row_some {w : World} {base : Nat} {v : Value} {l : List Tok} (ho : w.ownsRow base 63 5 v l.length (tokCells l)) (hl : 0 < l.length) : ∃ g c, v = .slice (some ⟨g, 0, none⟩) l.length c := by
  rcases ho.2 with ⟨_, h⟩ | ⟨g, c, _, h, _⟩
  · omega
  · exact ⟨g, c, h⟩
theorem cutE_few (z : ByteArray) (h : z.size < 20000) : cutE z = 0 := by
  have I := cut_inv z (z.size - 0) 0 [] (Nat.zero_le _) (Inv.nil z)
  rw [show cutF z (z.size - 0) 0 [] = cut z 0 [] from rfl] at I
  cases hc : cut z 0 [] with
  | none => have := I.2 hc; omega
  | some m => exact cutE_some hc
/-- How the first text's tokens end. -/
theorem last_cases {a : ByteArray} (la : List Tok) (ok : ∀ (k : Nat) (t : Tok), la[k]? = some t → TokOk a t) :
    (∃ t, 0 < la.length ∧ la[la.length - 1]? = some t ∧ t.kind = 7 ∧ occ t.text 0 [47, 42] = true ∧ t.text.size ≤ a.size) ∨
    (¬ badLast la ∧ (la.length = 0 ∨ (∃ t, 0 < la.length ∧ la[la.length - 1]? = some t ∧ t.kind ≠ 7) ∨ (∃ t, 0 < la.length ∧ la[la.length - 1]? = some t ∧ t.kind = 7 ∧ occ t.text 0 [47, 42] = false ∧ t.text.size ≤ a.size))) := by
  have hl : la.getLast? = la[la.length - 1]? := List.getLast?_eq_getElem?
  rcases Nat.eq_zero_or_pos la.length with h0 | h0
  · refine .inr ⟨?_, .inl h0⟩
    rintro ⟨t, ht, _⟩
    rw [List.length_eq_zero_iff.1 h0] at ht; cases ht
  obtain ⟨t, ht⟩ : ∃ t, la[la.length - 1]? = some t := ⟨_, List.getElem?_eq_getElem (by omega)⟩
  have hsz : t.kind = 7 → t.text.size ≤ a.size := fun h7 => by
    have h := ok _ _ ht
    rw [h.text (by omega), ByteArray.size_extract]
    have := h.le
    omega
  have hu : ∀ u, la.getLast? = some u → u = t := fun u hu => by rw [hl, ht] at hu; exact (Option.some.inj hu).symm
  by_cases h7 : t.kind = 7
  · cases ho : occ t.text 0 [47, 42] with
    | true => exact .inl ⟨t, h0, ht, h7, ho, hsz h7⟩
    | false =>
      refine .inr ⟨?_, .inr (.inr ⟨t, h0, ht, h7, ho, hsz h7⟩)⟩
      rintro ⟨u, h1, _, h2⟩
      rw [hu u h1, ho] at h2; cases h2
  · refine .inr ⟨?_, .inr (.inl ⟨t, h0, ht, h7⟩)⟩
    rintro ⟨u, h1, h2, _⟩
    rw [hu u h1] at h2; exact h7 h2
theorem shift_at {l : List Tok} {d j : Nat} {y : Tok} (la : List Tok) (h : l[j]? = some y) : (la ++ l.map (shiftT d))[la.length + j]? = some (shiftT d y) := by
  rw [List.getElem?_append_right (by omega), Nat.add_sub_cancel_left, List.getElem?_map, h]; rfl
set_option maxRecDepth 100000 in
set_option maxHeartbeats 8000000 in
theorem joins_walk (a b : ByteArray) (w : World) (ha : a.size ≤ 1000000000000000) (hb : b.size ≤ 1000000000000000) (hM : HasMax w) (hE : HasErrs w) :
    Calls Tryd.prog 13 #[.string a, .string b] w (LawPost w) := by
  have KA := Lib.hid (awake_true w hM hE)
  by_cases hbig : 10000 < a.size + b.size
  · go_enter Tryd.func13, Tryd.ntmps13
    go_wp2_with fail
    refine KA.out.mono ?_
    rintro e w1 ⟨rfl, hb1⟩
    have KA2 := Lib.hid (awake_true w1 (max_below hM hb1) (errs_below hE hb1))
    have HB := Lib.hid hb1
    clear hb1
    go_wp2_with fail
    refine KA2.out.mono ?_
    rintro e w2 ⟨rfl, hb2⟩
    have HB2 := Lib.hid hb2
    clear hb2
    go_wp2_with fail
    go_ret
    exact ⟨rfl, below_step HB.out HB2.out⟩
  have hzz : (a ++ ⟨#[10]⟩ ++ b).data.toList = a.data.toList ++ (10 :: b.data.toList) := by simp
  obtain ⟨wa, wb, hz⟩ := wins hzz
  obtain ⟨la, lb, hca, hcb, hlb0, hla, hlb, hoka, hokb, hj⟩ := joined wa wb hz (by omega)
  have hEz := cutE_few (a ++ ⟨#[10]⟩ ++ b) (by omega)
  have hcase := last_cases la hoka
  clear wa wb hoka hzz
  have HLa := Lib.hid (cutL_some hca)
  have HEa := Lib.hid (cutE_some hca)
  have HLb := Lib.hid (cutL_some hcb)
  have HEb := Lib.hid (cutE_some hcb)
  have HEz := Lib.hid hEz
  have HOb := Lib.hid hokb
  have HJ := Lib.hid hj
  have hzs : (a ++ ⟨#[10]⟩ ++ b).size ≤ 20000 := by omega
  have tl : (((lb.length : Nat) : Int) == 0) = false := beq_eq_false_iff_ne.2 (by omega)
  clear hca hcb hEz hokb hj hz
  go_enter Tryd.func13, Tryd.ntmps13
  go_wp2_with fail
  refine KA.out.mono ?_
  rintro e w1 ⟨rfl, hb1⟩
  have hM1 := Lib.hid (max_below hM hb1)
  have hE1 := Lib.hid (errs_below hE hb1)
  have KP1 := Lib.hid (cut_prog a w1 (by omega) hM1.out hE1.out)
  have HB1 := Lib.hid hb1
  clear hb1 hM hE
  go_wp2_with fail
  refine KP1.out.mono ?_
  rintro e w2 ⟨v1, rfl, ho1, hb2⟩
  rw [HEa.out]
  rw [HLa.out] at ho1
  obtain ⟨g1, c1, rfl⟩ := row_some ho1 (by simp)
  have F1 := Lib.hid (row_facts ho1)
  have G1 := Lib.hid (ho1.lt g1 rfl).2
  have hM2 := Lib.hid (max_below hM1.out hb2)
  have hE2 := Lib.hid (errs_below hE1.out hb2)
  have KP2 := Lib.hid (cut_prog b w2 (by omega) hM2.out hE2.out)
  have HB2 := Lib.hid (below_step HB1.out hb2)
  rw [List.length_append, List.length_singleton]
  clear hb2 ho1
  go_wp2_with fail
  refine KP2.out.mono ?_
  rintro e w3 ⟨v2, rfl, ho2, hb3⟩
  rw [HEb.out]
  rw [HLb.out] at ho2
  obtain ⟨g2, c2, rfl⟩ := row_some ho2 hlb0
  have F2 := Lib.hid (row_facts ho2)
  have G2 := Lib.hid (ho2.lt g2 rfl).2
  have hM3 := Lib.hid (max_below hM2.out hb3)
  have hE3 := Lib.hid (errs_below hE2.out hb3)
  have KP3 := Lib.hid (cut_prog (a ++ ⟨#[10]⟩ ++ b) w3 (by omega) hM3.out hE3.out)
  have HB3 := Lib.hid (below_step HB2.out hb3)
  have HB23 := Lib.hid hb3
  clear hb3 ho2
  go_wp2_with fail
  generalize (a ++ ⟨#[10]⟩ ++ b : ByteArray) = z at *
  refine KP3.out.mono ?_
  rintro e w4 ⟨v3, rfl, ho3, hb4⟩
  rw [HEz.out]
  have HB4 := Lib.hid (below_step HB3.out hb4)
  have HB24 := Lib.hid (below_step HB23.out hb4)
  have HB34 := Lib.hid hb4
  have HO3 := Lib.hid ho3
  rcases hcase with ⟨t, hn, ht, h7, ho, hts⟩ | ⟨hnb, hcase⟩
  · obtain ⟨A3, c3, rfl⟩ := own_form ho3
    have ht2 : (la ++ [endT a])[la.length - 1]? = some t := by
      rw [List.getElem?_append_left (by omega), ← ht]
    obtain ⟨f0, f1, f2, f3, f4⟩ := F1.out w4 HB24.out _ t ht2
    have KB := Lib.hid (begins_ref t.text ⟨#[47, 42]⟩ 0 w4 (by omega) (Nat.zero_le _) (by decide) (by decide))
    rw [show (⟨#[47, 42]⟩ : ByteArray).data.toList = [47, 42] from rfl, ho] at KB
    have t7 : (((t.kind : Nat) : Int) == 7) = true := by simp; omega
    clear ho3 hb4 ht ht2 ho h7
    generalize la.length = n at *
    go_wp2_with fail
    refine KB.out.mono ?_
    rintro e wb ⟨rfl, rfl⟩
    go_wp2_with fail
    go_ret
    exact ⟨rfl, HB4.out⟩
  · have hLz := cutL_some (HJ.out.resolve_left hnb)
    rw [hLz] at ho3
    obtain ⟨g3, c3, rfl⟩ := row_some ho3 (by rw [List.length_append, List.length_map]; omega)
    have F3 := Lib.hid (row_facts ho3)
    have G3 := Lib.hid (ho3.lt g3 rfl).2
    rw [List.length_append, List.length_map]
    have hlast : (la.length = 0) ∨ (∃ t, 0 < la.length ∧ (la ++ [endT a])[la.length - 1]? = some t ∧ ((((t.kind : Nat) : Int) == 7) = false)) ∨ (∃ t, 0 < la.length ∧ (la ++ [endT a])[la.length - 1]? = some t ∧ ((((t.kind : Nat) : Int) == 7) = true) ∧ occ t.text 0 [47, 42] = false ∧ t.text.size ≤ a.size) := by
      rcases hcase with h | ⟨t, h0, ht, h7⟩ | ⟨t, h0, ht, h7, ho, hs⟩
      · exact .inl h
      · exact .inr (.inl ⟨t, h0, by rw [List.getElem?_append_left (by omega), ht], by simp; omega⟩)
      · exact .inr (.inr ⟨t, h0, by rw [List.getElem?_append_left (by omega), ht], by simp; omega, ho, hs⟩)
    clear ho3 hb4 hcase hLz hnb
    have FX := Lib.hid (fun (W : World) (hW : Below w4.heap.size w4 W) (k : Nat) (t : Tok) (h : la[k]? = some t) =>
      And.intro (F1.out W (below_step HB24.out hW) k t (by rw [List.getElem?_append_left (by have := (List.getElem?_eq_some_iff.1 h).1; omega)]; exact h))
        (F3.out W hW k t (by rw [List.getElem?_append_left (by have := (List.getElem?_eq_some_iff.1 h).1; omega)]; exact h)))
    have FY := Lib.hid (fun (W : World) (hW : Below w4.heap.size w4 W) (j : Nat) (y : Tok) (h : lb[j]? = some y) =>
      And.intro (F2.out W (below_step HB34.out hW) j y h) (F3.out W hW (la.length + j) _ (shift_at la h)))
    have hla2 : ∀ k, k < la.length → ∃ t, la[k]? = some t := fun k h => ⟨_, List.getElem?_eq_getElem h⟩
    have hlb2 : ∀ k, k < lb.length → ∃ t, lb[k]? = some t := fun k h => ⟨_, List.getElem?_eq_getElem h⟩
    have HA2 := Lib.hid hla2
    have HB2' := Lib.hid hlb2
    clear hla2 hlb2
    generalize la.length = n at *
    generalize lb.length = q at *
    have tn : decide ((n : Int) + (q : Int) ≤ 40000) = true := by simp; omega
    rcases hlast with h0 | ⟨t, h0, ht, h7⟩ | ⟨t, h0, ht, h7, ho, hs⟩
    · have h00 : decide ((0 : Int) < (n : Int)) = false := by simp; omega
      have h01 : decide (0 < n) = false := by simp; omega
      clear h0
      go_wp2_with fail
      go_loopw [12, 13, 14] (fun i _ _ wr => ∃ k : Nat, k ≤ n + q ∧ i = .int .i64 k ∧ Below w4.heap.size w4 wr) (fun i _ _ _ => n + q - (intOf i).toNat)
      case atStart => exact ⟨0, by omega, by go_num, Below.refl _ _⟩
      case round =>
        obtain ⟨k, hk, rfl, hB⟩ := hrel
        have HBw := Lib.hid hB
        have hg1 : g1 < wr.heap.size := by have := (below_step HB24.out hB).size; have := G1.out; omega
        have hg2 : g2 < wr.heap.size := by have := (below_step HB34.out hB).size; have := G2.out; omega
        have hg3 : g3 < wr.heap.size := by have := hB.size; have := G3.out; omega
        by_cases hkn : k < n
        · obtain ⟨t, ht⟩ := HA2.out k hkn
          obtain ⟨⟨d0, d1, d2, d3, d4⟩, e0, e1, e2, e3, e4⟩ := FX.out wr hB k t ht
          have u2 : decide (k < n) = true := by simp; omega
          have u3 : decide (n ≤ k) = false := by simp; omega
          have u4 : (k : Int) < (n : Int) + 1 := by omega
          have u5 : k < n + 1 := by omega
          have u6 : (0 : Int) ≤ (k : Int) := by omega
          clear ht hB
          go_wp2_with fail
          go_quiet (fail)
          go_wp2_with fail
          go_roundw
          case rel => exact ⟨k + 1, by omega, by go_num, below_drewN (HBw.out.alloc HBw.out.size _) _⟩
          case measure => simp [intOf]; omega
        · by_cases hk2 : k < n + q
          · obtain ⟨y, hy⟩ := HB2'.out (k - n) (by omega)
            obtain ⟨⟨d0, d1, d2, d3, d4⟩, e0, e1, e2, e3, e4⟩ := FY.out wr hB (k - n) y hy
            rw [show n + (k - n) = k by omega] at e0 e1 e2 e3 e4
            have hyb := HOb.out (k - n) y hy
            simp only [shiftT] at e0 e1 e2 e3 e4
            rw [show ((a.size + 1 + y.at_ : Nat) : Int) = (y.at_ : Int) + ((a.size : Int) + 1) by omega] at e3
            rw [show ((a.size + 1 + y.end_ : Nat) : Int) = (y.end_ : Int) + ((a.size : Int) + 1) by omega] at e4
            have u2 : decide (k < n) = false := by simp; omega
            have u3 : decide (n ≤ k) = true := by simp; omega
            have u4 : n ≤ k := by omega
            have u5 : (k : Int) - (n : Int) < (q : Int) := by omega
            have u6 : (0 : Int) ≤ (k : Int) - (n : Int) := by omega
            clear hy hB
            go_wp2_with fail
            go_quiet (fail)
            go_wp2_with fail
            go_roundw
            case rel => exact ⟨k + 1, by omega, by go_num, below_drewN ((HBw.out.alloc HBw.out.size _).alloc (by have := HBw.out.size; simp; omega) _) _⟩
            case measure => simp [intOf]; omega
          · obtain rfl : k = n + q := by omega
            go_wp2_with fail
            go_ret
            exact ⟨rfl, below_step HB4.out HBw.out⟩
    · obtain ⟨f0, f1, f2, f3, f4⟩ := F1.out w4 HB24.out _ t ht
      clear ht
      go_wp2_with fail
      go_loopw [12, 13, 14] (fun i _ _ wr => ∃ k : Nat, k ≤ n + q ∧ i = .int .i64 k ∧ Below w4.heap.size w4 wr) (fun i _ _ _ => n + q - (intOf i).toNat)
      case atStart => exact ⟨0, by omega, by go_num, Below.refl _ _⟩
      case round =>
        obtain ⟨k, hk, rfl, hB⟩ := hrel
        have HBw := Lib.hid hB
        have hg1 : g1 < wr.heap.size := by have := (below_step HB24.out hB).size; have := G1.out; omega
        have hg2 : g2 < wr.heap.size := by have := (below_step HB34.out hB).size; have := G2.out; omega
        have hg3 : g3 < wr.heap.size := by have := hB.size; have := G3.out; omega
        by_cases hkn : k < n
        · obtain ⟨t, ht⟩ := HA2.out k hkn
          obtain ⟨⟨d0, d1, d2, d3, d4⟩, e0, e1, e2, e3, e4⟩ := FX.out wr hB k t ht
          have u2 : decide (k < n) = true := by simp; omega
          have u3 : decide (n ≤ k) = false := by simp; omega
          have u4 : (k : Int) < (n : Int) + 1 := by omega
          have u5 : k < n + 1 := by omega
          have u6 : (0 : Int) ≤ (k : Int) := by omega
          clear ht hB
          go_wp2_with fail
          go_quiet (fail)
          go_wp2_with fail
          go_roundw
          case rel => exact ⟨k + 1, by omega, by go_num, below_drewN (HBw.out.alloc HBw.out.size _) _⟩
          case measure => simp [intOf]; omega
        · by_cases hk2 : k < n + q
          · obtain ⟨y, hy⟩ := HB2'.out (k - n) (by omega)
            obtain ⟨⟨d0, d1, d2, d3, d4⟩, e0, e1, e2, e3, e4⟩ := FY.out wr hB (k - n) y hy
            rw [show n + (k - n) = k by omega] at e0 e1 e2 e3 e4
            have hyb := HOb.out (k - n) y hy
            simp only [shiftT] at e0 e1 e2 e3 e4
            rw [show ((a.size + 1 + y.at_ : Nat) : Int) = (y.at_ : Int) + ((a.size : Int) + 1) by omega] at e3
            rw [show ((a.size + 1 + y.end_ : Nat) : Int) = (y.end_ : Int) + ((a.size : Int) + 1) by omega] at e4
            have u2 : decide (k < n) = false := by simp; omega
            have u3 : decide (n ≤ k) = true := by simp; omega
            have u4 : n ≤ k := by omega
            have u5 : (k : Int) - (n : Int) < (q : Int) := by omega
            have u6 : (0 : Int) ≤ (k : Int) - (n : Int) := by omega
            clear hy hB
            go_wp2_with fail
            go_quiet (fail)
            go_wp2_with fail
            go_roundw
            case rel => exact ⟨k + 1, by omega, by go_num, below_drewN ((HBw.out.alloc HBw.out.size _).alloc (by have := HBw.out.size; simp; omega) _) _⟩
            case measure => simp [intOf]; omega
          · obtain rfl : k = n + q := by omega
            go_wp2_with fail
            go_ret
            exact ⟨rfl, below_step HB4.out HBw.out⟩
    · obtain ⟨f0, f1, f2, f3, f4⟩ := F1.out w4 HB24.out _ t ht
      have KB := Lib.hid (begins_ref t.text ⟨#[47, 42]⟩ 0 w4 (by omega) (Nat.zero_le _) (by decide) (by decide))
      rw [show (⟨#[47, 42]⟩ : ByteArray).data.toList = [47, 42] from rfl, ho] at KB
      clear ht ho
      go_wp2_with fail
      refine KB.out.mono ?_
      rintro e wb ⟨rfl, rfl⟩
      go_wp2_with fail
      go_loopw [12, 13, 14] (fun i _ _ wr => ∃ k : Nat, k ≤ n + q ∧ i = .int .i64 k ∧ Below w4.heap.size w4 wr) (fun i _ _ _ => n + q - (intOf i).toNat)
      case atStart => exact ⟨0, by omega, by go_num, Below.refl _ _⟩
      case round =>
        obtain ⟨k, hk, rfl, hB⟩ := hrel
        have HBw := Lib.hid hB
        have hg1 : g1 < wr.heap.size := by have := (below_step HB24.out hB).size; have := G1.out; omega
        have hg2 : g2 < wr.heap.size := by have := (below_step HB34.out hB).size; have := G2.out; omega
        have hg3 : g3 < wr.heap.size := by have := hB.size; have := G3.out; omega
        by_cases hkn : k < n
        · obtain ⟨t, ht⟩ := HA2.out k hkn
          obtain ⟨⟨d0, d1, d2, d3, d4⟩, e0, e1, e2, e3, e4⟩ := FX.out wr hB k t ht
          have u2 : decide (k < n) = true := by simp; omega
          have u3 : decide (n ≤ k) = false := by simp; omega
          have u4 : (k : Int) < (n : Int) + 1 := by omega
          have u5 : k < n + 1 := by omega
          have u6 : (0 : Int) ≤ (k : Int) := by omega
          clear ht hB
          go_wp2_with fail
          go_quiet (fail)
          go_wp2_with fail
          go_roundw
          case rel => exact ⟨k + 1, by omega, by go_num, below_drewN (HBw.out.alloc HBw.out.size _) _⟩
          case measure => simp [intOf]; omega
        · by_cases hk2 : k < n + q
          · obtain ⟨y, hy⟩ := HB2'.out (k - n) (by omega)
            obtain ⟨⟨d0, d1, d2, d3, d4⟩, e0, e1, e2, e3, e4⟩ := FY.out wr hB (k - n) y hy
            rw [show n + (k - n) = k by omega] at e0 e1 e2 e3 e4
            have hyb := HOb.out (k - n) y hy
            simp only [shiftT] at e0 e1 e2 e3 e4
            rw [show ((a.size + 1 + y.at_ : Nat) : Int) = (y.at_ : Int) + ((a.size : Int) + 1) by omega] at e3
            rw [show ((a.size + 1 + y.end_ : Nat) : Int) = (y.end_ : Int) + ((a.size : Int) + 1) by omega] at e4
            have u2 : decide (k < n) = false := by simp; omega
            have u3 : decide (n ≤ k) = true := by simp; omega
            have u4 : n ≤ k := by omega
            have u5 : (k : Int) - (n : Int) < (q : Int) := by omega
            have u6 : (0 : Int) ≤ (k : Int) - (n : Int) := by omega
            clear hy hB
            go_wp2_with fail
            go_quiet (fail)
            go_wp2_with fail
            go_roundw
            case rel => exact ⟨k + 1, by omega, by go_num, below_drewN ((HBw.out.alloc HBw.out.size _).alloc (by have := HBw.out.size; simp; omega) _) _⟩
            case measure => simp [intOf]; omega
          · obtain rfl : k = n + q := by omega
            go_wp2_with fail
            go_ret
            exact ⟨rfl, below_step HB4.out HBw.out⟩
end Go.Proofs.YtlgklkokadbpeaaDoor
