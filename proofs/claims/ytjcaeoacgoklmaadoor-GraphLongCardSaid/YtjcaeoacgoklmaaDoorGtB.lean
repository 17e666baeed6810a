import Derived.Test.YtjcaeoacgoklmaaDoorGtA
namespace Go.Proofs.YtjcaeoacgoklmaaDoor
open Go.RowKit
def chE (n : Nat) (t : ByteArray) : Env := setE (newE (rulesL n)) ⟨#[120]⟩ t
theorem findR_setE (E : Env) (n t s : ByteArray) : findR (setE E n t) s = findR E s := rfl
theorem find_x {n : Nat} : findR (newE (rulesL n)) ⟨#[120]⟩ = none := find_none.2 fun r hr h => by
  obtain ⟨i, _, rfl⟩ := rulesL_mem hr
  exact absurd (congrArg ByteArray.size h) (by simp [ruleL, nmB, ByteArray.size])
theorem ruleN_ch {n k : Nat} {t : ByteArray} (h : k < n) : ruleN (chE n t) k = ruleL k := by
  show (rulesL n).getD k _ = _
  rw [List.getD_eq_getElem?_getD, rulesL_at h]
  rfl
theorem find_nm {n k : Nat} {t : ByteArray} (hn : n ≤ 24) (h : k < n) : findR (chE n t) (nmB k) = some k := by
  have h1 := names_dist (names_rules hn) k (by show k < (rulesL n).length; rw [rulesL_len]; exact h)
  have h2 : nameN (newE (rulesL n)) k = nmB k := by
    show (ruleN (chE n t) k).name = _
    rw [ruleN_ch h]
    rfl
  rw [h2] at h1
  exact h1
theorem Vw_chain {n : Nat} {t : ByteArray} (hn : n ≤ 24) : ∀ k, k ≤ n → Vw itoaG (chE n t) (lastN k) = valN t k
  | 0, _ => by
    have h : findR (chE n t) (lastN 0) = none := find_x
    rw [Vw_inp h]
    unfold inOut chE setE lastN
    simp [valN]
  | k + 1, h => by
    have ih := Vw_chain (t := t) hn k (by omega)
    have hf := find_nm (t := t) hn (show k < n by omega)
    show Vw itoaG (chE n t) (nmB k) = _
    rw [← Vw_fix hf, ruleN_ch (show k < n by omega)]
    have hd0 : (ruleL k).refs.getD 0 noneB = lastN k := rfl
    have hd1 : (ruleL k).refs.getD 1 noneB = lastN k := rfl
    have p1 : Path itoaG (Vw itoaG (chE n t)) (ruleL k) [valN t k] := by
      have := Path.snoc (Path.nil (itoaB := itoaG) (V := Vw itoaG (chE n t)) (r := ruleL k)) (j := 0) (join_ask rfl (fun o ho => by cases ho) (by show 0 < 2; decide))
      rw [hd0, ih] at this
      exact this
    by_cases he : (valN t k).e = 0
    · have p2 : Path itoaG (Vw itoaG (chE n t)) (ruleL k) [valN t k, valN t k] := by
        have := Path.snoc p1 (j := 1) (join_ask rfl (fun o ho => by simp at ho; rw [ho]; exact he) (by show 1 < 2; decide))
        rw [hd1, ih] at this
        exact this
      rw [comeV_eq p2 (join_done rfl (fun o ho => by simp at ho; rw [ho]; exact he) (by show ¬ 2 < 2; decide))]
      have e1 : (ruleL k).text.size + sumL [valN t k, valN t k] = 2 * (valN t k).t.size + 1 := by
        show (1 : Nat) + ((valN t k).t.size + ((valN t k).t.size + 0)) = _
        omega
      have e2 : catL [valN t k, valN t k] ++ (ruleL k).text.data.toList = (valN t k).t.data.toList ++ (valN t k).t.data.toList ++ plusB.data.toList := by
        simp [catL, ruleL]
      rw [e1, e2, valN]
      by_cases hb : 2 * (valN t k).t.size + 1 > 262144
      · rw [if_pos hb, if_pos (.inr hb)]
      · rw [if_neg hb, if_neg (by simp only [not_or]; exact ⟨fun h => h he, hb⟩)]
    · have hd : nxt itoaG (ruleL k) [valN t k] = .done (valN t k) := by
        have := nxt_snoc (itoaB := itoaG) (ruleL k) [] (valN t k)
        rw [if_pos he] at this
        exact this
      rw [comeV_eq p1 hd]
      rcases valN_e t k with h1 | h1
      · exact absurd h1 he
      · rw [valN, if_pos (.inl he)]
        exact h1
end Go.Proofs.YtjcaeoacgoklmaaDoor
