import Derived.Test.YteghbblbkljdhaaDoorSoP
namespace Go.Proofs.YteghbblbkljdhaaDoor
variable {α : Type}
theorem rot_same_m {f : Nat → α} {lo m hi : Nat} (h : lo = m ∨ hi = m) (hlm : lo ≤ m) (hmh : m ≤ hi) : rot f lo m hi = f := by
  funext k
  unfold rot
  split
  · rfl
  · split
    · exact congrArg f (by omega)
    · exact congrArg f (by omega)
theorem merge_ok {lt : α → α → Prop} (ho : Ord lt) {f : Nat → α} {a m b mid start en : Nat} (hs : a ≤ start) (hsm : start ≤ m) (hme : m ≤ en) (heb : en ≤ b) (hen : en = mid + m - start) (hmd : start ≤ mid)
    (hX : Srt lt f a m) (hY : Srt lt f m b) (hA : a < start → en < b → ¬ lt (f en) (f (start - 1))) (hB : start < m → m < en → lt (f (en - 1)) (f start)) :
    Srt lt (rot f start m en) a start ∧ Srt lt (rot f start m en) start mid ∧ Srt lt (rot f start m en) mid en ∧ Srt lt (rot f start m en) en b ∧
    (∀ i j, a ≤ i → i < mid → mid ≤ j → j < b → ¬ lt (rot f start m en j) (rot f start m en i)) := by
  have r1 : ∀ k, k < start → rot f start m en k = f k := fun k hk => by unfold rot; rw [if_pos (Or.inl hk)]
  have r2 : ∀ k, start ≤ k → k < mid → rot f start m en k = f (k + (m - start)) := fun k h1 h2 => by
    unfold rot; rw [if_neg (by omega), if_pos (by omega)]
  have r3 : ∀ k, mid ≤ k → k < en → rot f start m en k = f (k - (mid - start)) := fun k h1 h2 => by
    unfold rot; rw [if_neg (by omega), if_neg (by omega)]
    exact congrArg f (by omega)
  have r4 : ∀ k, en ≤ k → rot f start m en k = f k := fun k hk => by unfold rot; rw [if_pos (Or.inr hk)]
  refine ⟨?_, ?_, ?_, ?_, ?_⟩
  · intro i j h1 h2 h3
    rw [r1 j h3, r1 i (by omega)]
    exact hX i j h1 h2 (by omega)
  · intro i j h1 h2 h3
    rw [r2 j (by omega) h3, r2 i h1 (by omega)]
    exact hY _ _ (by omega) (by omega) (by omega)
  · intro i j h1 h2 h3
    rw [r3 j (by omega) h3, r3 i h1 (by omega)]
    exact hX _ _ (by omega) (by omega) (by omega)
  · intro i j h1 h2 h3
    rw [r4 j (by omega), r4 i h1]
    exact hY i j (by omega) h2 h3
  · intro i j hi him hj hjb
    -- no greater, or the same
    have le : ∀ x y, x ≤ y → (a ≤ x ∧ y < m ∨ m ≤ x ∧ y < b) → ¬ lt (f y) (f x) := by
      intro x y hxy hc
      by_cases he : x = y
      · subst he; exact ho.irr _
      · rcases hc with hc | hc
        · exact hX x y hc.1 (by omega) hc.2
        · exact hY x y hc.1 (by omega) hc.2
    by_cases h1 : i < start
    · rw [r1 i h1]
      by_cases h2 : j < en
      · rw [r3 j hj h2]
        exact le _ _ (by omega) (Or.inl ⟨hi, by omega⟩)
      · rw [r4 j (by omega)]
        have k1 := le i (start - 1) (by omega) (Or.inl ⟨hi, by omega⟩)
        have k2 := hA (by omega) (by omega)
        have k3 := le en j (by omega) (Or.inr ⟨by omega, hjb⟩)
        exact ho.le_trans k1 (ho.le_trans k2 k3)
    · rw [r2 i (by omega) him]
      by_cases h2 : j < en
      · rw [r3 j hj h2]
        have k1 := le (i + (m - start)) (en - 1) (by omega) (Or.inr ⟨by omega, by omega⟩)
        have k2 := ho.asymm (hB (by omega) (by omega))
        have k3 := le start (j - (mid - start)) (by omega) (Or.inl ⟨by omega, by omega⟩)
        exact ho.le_trans k1 (ho.le_trans k2 k3)
      · rw [r4 j (by omega)]
        exact le _ _ (by omega) (Or.inr ⟨by omega, hjb⟩)
/-- Both halves sorted behind that. -/
theorem halves_ok {lt : α → α → Prop} {n a mid b : Nat} {f g h : Nat → α} (hamid : a ≤ mid) (hmb : mid ≤ b) (hc : ∀ i j, a ≤ i → i < mid → mid ≤ j → j < b → ¬ lt (f j) (f i))
    (s1 : Seg n a mid f g) (s2 : Seg n mid b g h) (h1 : Srt lt g a mid) (h2 : Srt lt h mid b) : Srt lt h a b ∧ Seg n a b f h := by
  refine ⟨Srt.join (m := mid) (h1.ext fun k hk hk' => s2.out k (by omega)) h2 fun i j hi hi' hj hj' => ?_, (s1.widen (Nat.le_refl _) hmb).trans (s2.widen hamid (Nat.le_refl _))⟩
  rw [s2.out i (Or.inl hi')]
  have k1 : ∀ y, mid ≤ y → y < b → ¬ lt (g y) (g i) := by
    intro y hy hy'
    rw [s1.out y (Or.inr hy)]
    exact s1.inn (fun x => ¬ lt (f y) x) (fun k hk hk' => hc k y hk hk' hy hy') i hi hi'
  exact s2.inn (fun x => ¬ lt x (g i)) k1 j hj hj'
end Go.Proofs.YteghbblbkljdhaaDoor
