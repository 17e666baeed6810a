import Derived.Test.YtlgklkokadbpeaaDoorScL
namespace Go.Proofs.YtlgklkokadbpeaaDoor
open Go.RowKit
/-- A token that is not the end. -/
structure TokOk (s : ByteArray) (t : Tok) : Prop where
  kind : t.kind ≠ 6
  lt : t.at_ < t.end_
  le : t.end_ ≤ s.size
  text : t.kind ≠ 3 → t.text = s.extract t.at_ t.end_
theorem one_ok (s : ByteArray) (i : Nat) (hi : i < s.size) : TokOk s (oneT s i) := by
  have hb := one_bd s i hi
  have ha := one_at s i
  have hp : ∀ k j, k ≠ 6 → (pieceT s k i j).kind ≠ 6 ∧ ((pieceT s k i j).kind ≠ 3 → (pieceT s k i j).text = s.extract i (pieceT s k i j).end_) := fun k j hk => ⟨hk, fun _ => rfl⟩
  have hq : ∀ f k ok said, (quoF s i f k ok said).kind ≠ 6 ∧ ((quoF s i f k ok said).kind ≠ 3 → (quoF s i f k ok said).text = s.extract i (quoF s i f k ok said).end_) := by
    intro f
    induction f with
    | zero => intro k ok said; exact hp 7 _ (by decide)
    | succ f ih =>
      intro k ok said
      unfold quoF
      split
      · split
        · split
          · exact ⟨by show (3 : Nat) ≠ 6; decide, fun h => absurd rfl h⟩
          · exact hp 7 _ (by decide)
        · split <;> exact ih _ _ _
      · exact hp 7 _ (by decide)
  have key : (oneT s i).kind ≠ 6 ∧ ((oneT s i).kind ≠ 3 → (oneT s i).text = s.extract i (oneT s i).end_) := by
    unfold oneT
    split
    · unfold wordT; exact hp _ _ (by split <;> decide)
    · split
      · unfold numT
        split
        · exact hp 7 _ (by decide)
        · split
          · exact ⟨by show (2 : Nat) ≠ 6; decide, fun _ => rfl⟩
          · exact hp 7 _ (by decide)
      · split
        · exact hq _ _ _ _
        · split
          · exact hp 7 _ (by decide)
          · split
            · exact hp 4 _ (by decide)
            · exact hp 7 _ (by decide)
  exact ⟨key.1, by omega, hb.2, fun h => by rw [ha]; exact key.2 h⟩
def prevEnd (l : List Tok) : Nat → Nat
  | 0 => 0
  | k + 1 => ((l[k]?).map Tok.end_).getD 0
theorem prev_app (l : List Tok) (t : Tok) (k : Nat) (h : k ≤ l.length) : prevEnd (l ++ [t]) k = prevEnd l k := by
  cases k with
  | zero => rfl
  | succ k =>
    show (((l ++ [t])[k]?).map Tok.end_).getD 0 = ((l[k]?).map Tok.end_).getD 0
    rw [List.getElem?_append_left (by omega)]
theorem prev_of {l : List Tok} {k : Nat} {t : Tok} (h : l[k]? = some t) : prevEnd l (k + 1) = t.end_ := by
  show ((l[k]?).map Tok.end_).getD 0 = t.end_
  rw [h]; rfl
theorem prev_last (l : List Tok) (t : Tok) : prevEnd (l ++ [t]) (l.length + 1) = t.end_ := by simp [prevEnd]
structure Inv (s : ByteArray) (i : Nat) (l : List Tok) : Prop where
  ok : ∀ k t, l[k]? = some t → TokOk s t ∧ prevEnd l k ≤ t.at_
  up : prevEnd l l.length ≤ i
  few : l.length ≤ i
theorem Inv.nil (s : ByteArray) : Inv s 0 [] := ⟨fun k t h => by simp at h, Nat.le_refl _, Nat.le_refl _⟩
theorem Inv.skip {s : ByteArray} {i j : Nat} {l : List Tok} (h : Inv s i l) (hij : i ≤ j) : Inv s j l := ⟨h.ok, Nat.le_trans h.up hij, Nat.le_trans h.few hij⟩
theorem Inv.more {s : ByteArray} {i : Nat} {l : List Tok} (h : Inv s i l) (hi : i < s.size) : Inv s (oneT s i).end_ (l ++ [oneT s i]) := by
  have hb := one_bd s i hi
  refine ⟨fun k t hk => ?_, ?_, ?_⟩
  · rcases Nat.lt_or_ge k l.length with hlt | hge
    · rw [List.getElem?_append_left hlt] at hk
      rw [prev_app _ _ _ (by omega)]
      exact h.ok k t hk
    · have hk2 : k = l.length := by
        rcases Nat.lt_or_ge k (l.length + 1) with h1 | h1
        · omega
        · rw [List.getElem?_eq_none (by simp; omega)] at hk; cases hk
      subst hk2
      rw [List.getElem?_append_right (Nat.le_refl _), Nat.sub_self] at hk
      simp only [List.getElem?_cons_zero, Option.some.injEq] at hk
      subst hk
      rw [prev_app _ _ _ (Nat.le_refl _), one_at]
      exact ⟨one_ok s i hi, h.up⟩
  · rw [List.length_append, List.length_singleton, prev_last]; exact Nat.le_refl _
  · have := h.few; simp; omega
theorem cut_inv (s : ByteArray) : ∀ f i l, i ≤ s.size → Inv s i l → (∀ m, cutF s f i l = some m → ∃ l', m = l' ++ [endT s] ∧ Inv s s.size l') ∧ (cutF s f i l = none → 20000 ≤ s.size) := by
  intro f
  induction f with
  | zero =>
    intro i l hi hI
    refine ⟨fun m h => ⟨l, ?_, hI.skip hi⟩, fun h => by simp [cutF] at h⟩
    simp only [cutF, Option.some.injEq] at h
    exact h.symm
  | succ f ih =>
    intro i l hi hI
    unfold cutF
    split
    · rename_i hlt
      cases hs : skipStep s i with
      | some j => have := skip_bd hlt hs; exact ih j l this.2 (hI.skip (by omega))
      | none =>
        dsimp only
        split
        · rename_i h20; exact ⟨(fun m h => by cases h), (fun _ => by have := hI.few; omega)⟩
        · exact ih _ _ (one_bd s i hlt).2 (hI.more hlt)
    · refine ⟨fun m h => ⟨l, ?_, hI.skip hi⟩, (fun h => by cases h)⟩
      simp only [Option.some.injEq] at h
      exact h.symm
set_option maxRecDepth 100000 in
set_option maxHeartbeats 4000000 in
theorem covers_walk (s : ByteArray) (w : World) (hM : HasMax w) (hE : HasErrs w) :
    Calls Tryd.prog 11 #[.string s] w (LawPost w) := by
  have KA := Lib.hid (awake_true w hM hE)
  by_cases hbig : 400000 < s.size
  · go_enter Tryd.func11, Tryd.ntmps11
    go_wp2_with fail
    refine KA.out.mono ?_
    rintro e w1 ⟨rfl, hb⟩
    have KA2 := Lib.hid (awake_true w1 (max_below hM hb) (errs_below hE hb))
    have HB := Lib.hid hb
    clear hb
    go_wp2_with fail
    refine KA2.out.mono ?_
    rintro e w2 ⟨rfl, hb2⟩
    have HB2 := Lib.hid hb2
    clear hb2
    go_wp2_with fail
    go_ret
    exact ⟨rfl, below_step HB.out HB2.out⟩
  have HI := cut_inv s (s.size - 0) 0 [] (Nat.zero_le _) (Inv.nil s)
  rw [show cutF s (s.size - 0) 0 [] = cut s 0 [] from rfl] at HI
  cases hc : cut s 0 [] with
  | none =>
    have h20 := HI.2 hc
    have HL := Lib.hid (cutL_none hc)
    have HE := Lib.hid (cutE_none hc)
    clear HI hc
    go_enter Tryd.func11, Tryd.ntmps11
    go_wp2_with fail
    refine KA.out.mono ?_
    rintro e w1 ⟨rfl, hb⟩
    have KP := Lib.hid (cut_prog s w1 (by omega) (max_below hM hb) (errs_below hE hb))
    have HB := Lib.hid hb
    clear hb
    go_wp2_with fail
    refine KP.out.mono ?_
    rintro e w2 ⟨v, rfl, ho, hb⟩
    rw [HE.out]
    rw [HL.out] at ho
    obtain ⟨A, c, rfl⟩ := own_form ho
    have HB2 := Lib.hid (below_step HB.out hb)
    clear hb ho hM hE
    go_wp2_with fail
    go_ret
    exact ⟨ret_bool (by simp; omega), HB2.out⟩
  | some m =>
    obtain ⟨l, hm, hInv⟩ := HI.1 m hc
    have HL := Lib.hid ((cutL_some hc).trans hm)
    have HE := Lib.hid (cutE_some hc)
    have hlen : l.length ≤ 20000 := by
      have := cut_len s _ _ _ m hc (by simp)
      rw [hm] at this
      simp at this
      exact this
    have HV := Lib.hid hInv
    clear HI hc hm hInv
    go_enter Tryd.func11, Tryd.ntmps11
    go_wp2_with fail
    refine KA.out.mono ?_
    rintro e w1 ⟨rfl, hb⟩
    have KP := Lib.hid (cut_prog s w1 (by omega) (max_below hM hb) (errs_below hE hb))
    have HB := Lib.hid hb
    clear hb
    go_wp2_with fail
    refine KP.out.mono ?_
    rintro e w2 ⟨v, rfl, ho, hb⟩
    rw [HE.out]
    rw [HL.out] at ho
    obtain ⟨g, c, rfl⟩ : ∃ g c, v = .slice (some ⟨g, 0, none⟩) (l ++ [endT s]).length c := by
      rcases ho.2 with ⟨_, h⟩ | ⟨g, c, _, h, _⟩
      · exact absurd h (by simp)
      · exact ⟨g, c, h⟩
    have HB2 := Lib.hid (below_step HB.out hb)
    have HO := Lib.hid ho
    have hN : (l ++ [endT s]).length = l.length + 1 := by simp
    have FC := Lib.hid (fun (W : World) (hW : Below w2.heap.size w2 W) k t h => @tok_cell W _ g (l ++ [endT s]).length c (l ++ [endT s]) (own_below ho hW) k t h)
    clear hb ho hM hE
    rw [hN]
    clear hN
    go_wp2_with fail
    go_loopw [5, 6, 7, 8] (fun a i _ _ wr => ∃ k : Nat, k ≤ l.length + 1 ∧ a = .int .i64 (prevEnd (l ++ [endT s]) k) ∧ i = .int .i64 k ∧ Below w2.heap.size w2 wr) (fun _ i _ _ _ => l.length + 1 - (intOf i).toNat)
    case atStart => exact ⟨0, by omega, rfl, by go_num, Below.refl _ _⟩
    case round =>
      obtain ⟨k, hk, rfl, rfl, hB⟩ := hrel
      have HB3 := Lib.hid hB
      by_cases hlt : k < l.length
      · obtain ⟨t, ht⟩ : ∃ t, l[k]? = some t := ⟨_, List.getElem?_eq_getElem hlt⟩
        obtain ⟨hok, hat⟩ := HV.out.ok k t ht
        have ht2 : (l ++ [endT s])[k]? = some t := by rw [List.getElem?_append_left hlt]; exact ht
        obtain ⟨f0, f1, f2, f3, f4⟩ := FC.out wr hB k t ht2
        have HP := Lib.hid (show prevEnd (l ++ [endT s]) (k + 1) = t.end_ from prev_of ht2)
        rw [prev_app _ _ _ (by omega)]
        generalize prevEnd l k = p at *
        have htext := hok.text
        have hk6 := hok.kind
        have hlt' := hok.lt
        have hle' := hok.le
        clear ht ht2 hB hok
        have t1 : decide (((t.at_ : Nat) : Int) < (p : Int)) = false := by simp; omega
        have t2 : decide (((s.size : Nat) : Int) < (t.end_ : Int)) = false := by simp; omega
        have t3 : (((t.kind : Nat) : Int) == 6) = false := by simp; omega
        have t4 : decide (((t.end_ : Nat) : Int) ≤ (t.at_ : Int)) = false := by simp; omega
        have t5 : (((k : Nat) : Int) == (l.length : Int)) = false := by simp; omega
        obtain ⟨kd, tx, tn, ta, te⟩ := t
        simp only at f0 f1 f2 f3 f4 htext hk6 hlt' hle' t1 t2 t3 t4 HP hat
        by_cases hk3 : kd = 3
        · have t6 : (((kd : Nat) : Int) != 3) = false := by simp; omega
          clear htext hk3 hk6
          go_wp2_with fail
          go_quiet (fail)
          go_wp2_with fail
          go_roundw
          case rel => exact ⟨k + 1, by omega, by rw [HP.out], by go_num, below_drewN (HB3.out.alloc HB3.out.size _) _⟩
          case measure => simp [intOf]; omega
        · have t6 : (((kd : Nat) : Int) != 3) = true := by simp; omega
          obtain rfl := htext hk3
          clear htext hk3 hk6
          go_wp2_with fail
          go_quiet (fail)
          go_wp2_with fail
          go_roundw
          case rel => exact ⟨k + 1, by omega, by rw [HP.out], by go_num, below_drewN (HB3.out.alloc HB3.out.size _) _⟩
          case measure => simp [intOf]; omega
      · by_cases hk1 : k = l.length
        · subst hk1
          have ht2 : (l ++ [endT s])[l.length]? = some (endT s) := by simp
          obtain ⟨f0, f1, f2, f3, f4⟩ := FC.out wr hB l.length _ ht2
          have HP := Lib.hid (show prevEnd (l ++ [endT s]) (l.length + 1) = s.size from prev_of ht2)
          rw [prev_app _ _ _ (Nat.le_refl _)]
          have hup := HV.out.up
          generalize prevEnd l l.length = p at *
          simp only [endT] at f0 f1 f2 f3 f4
          clear ht2 hB
          have t1 : decide (((s.size : Nat) : Int) < (p : Int)) = false := by simp; omega
          have hnil : s.extract s.size s.size = ⟨#[]⟩ := list_ext (by rw [ext_mid]; simp)
          generalize l.length = n at *
          go_wp2_with fail
          go_quiet (fail)
          go_wp2_with fail
          go_roundw
          case rel => exact ⟨n + 1, by omega, by rw [HP.out], by go_num, below_drewN (HB3.out.alloc HB3.out.size _) _⟩
          case measure => simp [intOf]
        · obtain rfl : k = l.length + 1 := by omega
          have HP : prevEnd (l ++ [endT s]) (l.length + 1) = s.size := prev_of (show (l ++ [endT s])[l.length]? = some (endT s) by simp)
          rw [HP]
          clear HP hB
          go_wp2_with fail
          go_ret
          exact ⟨rfl, below_step HB2.out HB3.out⟩
end Go.Proofs.YtlgklkokadbpeaaDoor
