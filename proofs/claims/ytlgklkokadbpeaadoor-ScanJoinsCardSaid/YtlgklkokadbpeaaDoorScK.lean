import Derived.Test.YtlgklkokadbpeaaDoorScJ
import Derived.Test.YtlgklkokadbpeaaDoorScQ
namespace Go.Proofs.YtlgklkokadbpeaaDoor
open Go.RowKit
theorem shift_zero (t : Tok) : shiftT 0 t = t := by
  obtain ⟨a, b, c, e, f⟩ := t
  simp [shiftT]
/-- Is the last one a long remark that isn't ended? -/
def badLast (l : List Tok) : Prop := ∃ t, l.getLast? = some t ∧ t.kind = 7 ∧ occ t.text 0 [47, 42] = true
theorem cut_first {a z : ByteArray} (h : Win a z 0) (hz : a.size < z.size) : ∀ f i l l', a.size - i = f → i ≤ a.size → cut a i l = some (l' ++ [endT a]) → badLast l' ∨ cut z i l = cut z (a.size + 1) l' := by
  intro f
  induction f using Nat.strongRecOn with
  | _ f ih =>
    intro i l l' hf hi hc
    by_cases hlt : i < a.size
    · have hB := h.at_ i hlt
      rw [Nat.zero_add] at hB
      have hzi : i < z.size := by omega
      by_cases ho : openAt a i
      · left
        obtain ⟨h1, h2, h3⟩ := ho
        have hoc : occ a i [47, 42] = true := (occ_two a i 47 42).2 ⟨h1, h2⟩
        have hsk : skipStep a i = none := by
          unfold skipStep
          rw [h1, if_neg (by decide), if_neg (by omega), if_neg (fun hh => h3 hh.2.2)]
        have hone : oneT a i = pieceT a 7 i a.size := by
          unfold oneT
          rw [h1, if_neg (by decide), if_neg (by decide), if_neg (by decide), if_pos hoc]
        rw [cut_open hlt, hsk] at hc
        dsimp only at hc
        split at hc
        · cases hc
        · rw [hone] at hc
          rw [show (pieceT a 7 i a.size).end_ = a.size from rfl, cut_stop (Nat.le_refl _)] at hc
          have e : l' = l ++ [pieceT a 7 i a.size] := (List.append_inj_left' (Option.some.inj hc) rfl).symm
          refine ⟨pieceT a 7 i a.size, by rw [e]; simp, rfl, ?_⟩
          show occ (a.extract i a.size) 0 [47, 42] = true
          rw [occ_ext a i hi]
          exact hoc
      · have hs := h.skip hlt (.inl ho)
        rw [Nat.zero_add] at hs
        cases hsk : skipStep a i with
        | some j =>
          rw [hsk] at hs
          have hb := skip_bd hlt hsk
          rw [cut_skip hlt hsk] at hc
          have hs' : skipStep z i = some j := by rw [hs]; simp
          rw [cut_skip hzi hs']
          exact ih (a.size - j) (by omega) j l l' rfl hb.2 hc
        | none =>
          rw [hsk] at hs
          have hoc : occ a i [47, 42] = false := by
            cases ho2 : occ a i [47, 42] with
            | false => rfl
            | true =>
              have h2 := (occ_two a i 47 42).1 ho2
              have h47 : B a i = 47 := h2.1
              have h42 : B a (i + 1) = 42 := h2.2
              unfold skipStep at hsk
              rw [h47, if_neg (by decide), if_neg (by omega)] at hsk
              by_cases hcl : closeE a (i + 2) < a.size
              · rw [if_pos ⟨rfl, h42, hcl⟩] at hsk; cases hsk
              · exact absurd ⟨h47, h42, hcl⟩ ho
          have hone := h.one hlt (.inl hoc)
          rw [Nat.zero_add, shift_zero] at hone
          have hb := one_bd a i hlt
          rw [cut_open hlt, hsk] at hc
          dsimp only at hc
          split at hc
          · cases hc
          · rename_i hl
            rw [cut_tok hzi (by rw [hs]; rfl) hl, hone]
            exact ih (a.size - (oneT a i).end_) (by omega) _ _ l' rfl hb.2 hc
    · obtain rfl : i = a.size := by omega
      right
      rw [cut_stop (Nat.le_refl _)] at hc
      have e : l' = l := (List.append_inj_left' (Option.some.inj hc) rfl).symm
      have h10 := h.stop (by omega)
      rw [Nat.zero_add] at h10
      rw [e, cut_skip hz (show skipStep z a.size = some (a.size + 1) by unfold skipStep; rw [h10]; rfl)]
theorem endT_shift {b z : ByteArray} {d : Nat} (hz : d + b.size = z.size) : endT z = shiftT d (endT b) := by
  unfold endT shiftT; rw [← hz]
theorem cut_second {b z : ByteArray} {d : Nat} (h : Win b z d) (hz : d + b.size = z.size) (l : List Tok) : ∀ f i m, b.size - i = f → i ≤ b.size → l.length + m.length + f < 20000 →
    cut z (d + i) (l ++ m.map (shiftT d)) = (cut b i m).map fun r => l ++ r.map (shiftT d) := by
  intro f
  induction f using Nat.strongRecOn with
  | _ f ih =>
    intro i m hf hi hlen
    by_cases hlt : i < b.size
    · have hzi := h.lt hlt
      have hs := h.skip hlt (.inr hz)
      cases hsk : skipStep b i with
      | some j =>
        rw [hsk] at hs
        have hb := skip_bd hlt hsk
        rw [cut_skip hlt hsk, cut_skip hzi (by rw [hs]; rfl)]
        exact ih (b.size - j) (by omega) j m rfl hb.2 (by omega)
      | none =>
        rw [hsk] at hs
        have hone := h.one hlt (.inr hz)
        have hb := one_bd b i hlt
        rw [cut_tok hlt hsk (by omega), cut_tok hzi (by rw [hs]; rfl) (by simp; omega), hone]
        have e : l ++ m.map (shiftT d) ++ [shiftT d (oneT b i)] = l ++ (m ++ [oneT b i]).map (shiftT d) := by simp
        rw [e]
        exact ih (b.size - (oneT b i).end_) (by omega) _ _ rfl hb.2 (by simp; omega)
    · obtain rfl : i = b.size := by omega
      rw [cut_stop (Nat.le_refl _), cut_stop (by omega), endT_shift hz]
      simp
/-- The tokens of two texts with a new line between them. -/
theorem joined {a b z : ByteArray} (wa : Win a z 0) (wb : Win b z (a.size + 1)) (hz : a.size + 1 + b.size = z.size) (hs : a.size + b.size ≤ 10000) :
    ∃ (la lb : List Tok), cut a 0 [] = some (la ++ [endT a]) ∧ cut b 0 [] = some lb ∧ 0 < lb.length ∧ la.length ≤ 10000 ∧ lb.length ≤ 20000 ∧ (∀ (k : Nat) (t : Tok), la[k]? = some t → TokOk a t) ∧ (∀ (k : Nat) (y : Tok), lb[k]? = some y → y.at_ ≤ b.size ∧ y.end_ ≤ b.size) ∧ (badLast la ∨ cut z 0 [] = some (la ++ lb.map (shiftT (a.size + 1)))) := by
  have IA := cut_inv a (a.size - 0) 0 [] (Nat.zero_le _) (Inv.nil a)
  have IB := cut_inv b (b.size - 0) 0 [] (Nat.zero_le _) (Inv.nil b)
  rw [show cutF a (a.size - 0) 0 [] = cut a 0 [] from rfl] at IA
  rw [show cutF b (b.size - 0) 0 [] = cut b 0 [] from rfl] at IB
  cases ha : cut a 0 [] with
  | none => have := IA.2 ha; omega
  | some ma =>
    obtain ⟨la, rfl, hIa⟩ := IA.1 ma ha
    cases hb : cut b 0 [] with
    | none => have := IB.2 hb; omega
    | some mb =>
      obtain ⟨lb, rfl, hIb⟩ := IB.1 mb hb
      have fa := hIa.few
      have fb := hIb.few
      refine ⟨la, lb ++ [endT b], rfl, rfl, by simp, by omega, by simp; omega, fun k t hk => (hIa.ok k t hk).1, fun k y hk => ?_, ?_⟩
      · rcases Nat.lt_or_ge k lb.length with hlt | hge
        · rw [List.getElem?_append_left hlt] at hk
          have := (hIb.ok k y hk).1
          have h1 := this.lt
          have h2 := this.le
          omega
        · rw [List.getElem?_append_right hge] at hk
          have : y = endT b := by
            cases hj : k - lb.length with
            | zero => rw [hj] at hk; exact (Option.some.inj hk).symm
            | succ j => rw [hj] at hk; simp at hk
          rw [this]; exact ⟨Nat.le_refl _, Nat.le_refl _⟩
      rcases cut_first wa (by omega) _ 0 [] la rfl (Nat.zero_le _) ha with h | h
      · exact .inl h
      · right
        have h2 := cut_second wb hz la _ 0 [] rfl (Nat.zero_le _) (by simp; omega)
        rw [hb] at h2
        rw [h]
        simpa using h2
theorem B_toList (s : ByteArray) (k : Nat) : B s k = ((s.data.toList[k]?).getD 0).toNat := by
  have := B_list s.data.toList k
  simpa using this
theorem size_toList (s : ByteArray) : s.data.toList.length = s.size := by rw [Array.length_toList]; rfl
/-- The bytes of two texts with a new line between them. -/
theorem wins {a b z : ByteArray} (hz : z.data.toList = a.data.toList ++ (10 :: b.data.toList)) : Win a z 0 ∧ Win b z (a.size + 1) ∧ a.size + 1 + b.size = z.size := by
  have la := size_toList a
  have lb := size_toList b
  have lz := size_toList z
  have hsz : a.size + 1 + b.size = z.size := by rw [← lz, hz, List.length_append, List.length_cons, la, lb]; omega
  refine ⟨⟨fun k hk => ?_, by omega, fun _ => ?_, fun i j hij hj => ?_⟩, ⟨fun k hk => ?_, by omega, fun h => by omega, fun i j hij hj => ?_⟩, hsz⟩
  · rw [B_toList, B_toList, hz, Nat.zero_add, List.getElem?_append_left (by omega)]
  · rw [B_toList, hz, Nat.zero_add, List.getElem?_append_right (by omega), la, Nat.sub_self]; rfl
  · refine list_ext ?_
    rw [ext_mid, ext_mid, hz, Nat.zero_add, Nat.zero_add, List.drop_append_of_le_length (by omega), List.take_append_of_le_length (by rw [List.length_drop]; omega)]
  · rw [B_toList, B_toList, hz, List.getElem?_append_right (by omega), la, show a.size + 1 + k - a.size = k + 1 by omega, List.getElem?_cons_succ]
  · refine list_ext ?_
    rw [ext_mid, ext_mid, hz, show a.size + 1 + j - (a.size + 1 + i) = j - i by omega, show a.size + 1 + i = a.data.toList.length + (i + 1) by omega, List.drop_append, List.drop_eq_nil_of_le (by omega), List.nil_append]
    congr 1
    rw [show a.data.toList.length + (i + 1) - a.data.toList.length = i + 1 by omega, List.drop_succ_cons]
end Go.Proofs.YtlgklkokadbpeaaDoor
