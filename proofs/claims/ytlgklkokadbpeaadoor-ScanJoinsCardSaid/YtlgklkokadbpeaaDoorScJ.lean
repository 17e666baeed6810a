import Derived.Test.YtlgklkokadbpeaaDoorScC
namespace Go.Proofs.YtlgklkokadbpeaaDoor
open Go.RowKit
/-- The bytes of s lie in z from d on; behind them z ends, or a new line stands there. -/
structure Win (s z : ByteArray) (d : Nat) : Prop where
  at_ : ∀ k, k < s.size → B z (d + k) = B s k
  fits : d + s.size ≤ z.size
  stop : d + s.size < z.size → B z (d + s.size) = 10
  cut : ∀ i j, i ≤ j → j ≤ s.size → z.extract (d + i) (d + j) = s.extract i j
section
variable {s z : ByteArray} {d : Nat}
theorem Win.end_ (h : Win s z d) : B z (d + s.size) = 0 ∨ B z (d + s.size) = 10 := by
  rcases Nat.lt_or_ge (d + s.size) z.size with h1 | h1
  · exact .inr (h.stop h1)
  · exact .inl (B_end z _ h1)
theorem Win.lt (h : Win s z d) {k : Nat} (hk : k < s.size) : d + k < z.size := by have := h.fits; omega
theorem Win.word (h : Win s z d) : ∀ f k, s.size - k = f → k ≤ s.size → wordN z (d + k) = d + wordN s k := by
  intro f
  induction f with
  | zero =>
    intro k hf hk
    obtain rfl : k = s.size := by omega
    rw [word_stop (s := s) (i := s.size) (by omega), word_stop (s := z)]
    rintro ⟨h1, h2⟩
    rw [h.stop h1] at h2
    revert h2; decide
  | succ f ih =>
    intro k hf hk
    have hlt : k < s.size := by omega
    by_cases ha : alnumB (B s k) = true
    · rw [word_go hlt ha, word_go (h.lt hlt) (by rw [h.at_ k hlt]; exact ha)]
      exact ih (k + 1) (by omega) (by omega)
    · rw [word_stop (fun hh => ha hh.2), word_stop (s := z) (fun hh => ha (by rw [← h.at_ k hlt]; exact hh.2))]
theorem Win.line (h : Win s z d) : ∀ f k, s.size - k = f → k ≤ s.size → lineE z (d + k) = d + lineE s k := by
  intro f
  induction f with
  | zero =>
    intro k hf hk
    obtain rfl : k = s.size := by omega
    rw [line_stop (s := s) (i := s.size) (by omega), line_stop (s := z)]
    rintro ⟨h1, h2⟩
    exact h2 (h.stop h1)
  | succ f ih =>
    intro k hf hk
    have hlt : k < s.size := by omega
    by_cases ha : B s k = 10
    · rw [line_stop (fun hh => hh.2 ha), line_stop (s := z) (fun hh => hh.2 (by rw [h.at_ k hlt]; exact ha))]
    · rw [line_go hlt ha, line_go (h.lt hlt) (by rw [h.at_ k hlt]; exact ha)]
      exact ih (k + 1) (by omega) (by omega)
theorem Win.occ (h : Win s z d) : ∀ (l : List UInt8) (k : Nat), (∀ c ∈ l, 0 < c.toNat ∧ c.toNat ≠ 10) → k ≤ s.size → Go.Proofs.YtlgklkokadbpeaaDoor.occ z (d + k) l = Go.Proofs.YtlgklkokadbpeaaDoor.occ s k l := by
  intro l
  induction l with
  | nil => intro k _ _; rfl
  | cons c r ih =>
    intro k hc hk
    have h0 := hc c (.head _)
    rcases Nat.lt_or_ge k s.size with hlt | hge
    · show (B z (d + k) == c.toNat && Go.Proofs.YtlgklkokadbpeaaDoor.occ z (d + k + 1) r) = (B s k == c.toNat && Go.Proofs.YtlgklkokadbpeaaDoor.occ s (k + 1) r)
      rw [h.at_ k hlt, show d + k + 1 = d + (k + 1) by omega, ih (k + 1) (fun c hh => hc c (.tail _ hh)) hlt]
    · obtain rfl : k = s.size := by omega
      show (B z (d + s.size) == c.toNat && _) = (B s s.size == c.toNat && _)
      rw [B_end s _ (Nat.le_refl _)]
      have e1 : (B z (d + s.size) == c.toNat) = false := by rw [beq_eq_false_iff_ne]; rcases h.end_ with e | e <;> omega
      have e2 : ((0 : Nat) == c.toNat) = false := by rw [beq_eq_false_iff_ne]; omega
      rw [e1, e2]; rfl
theorem Win.two (h : Win s z d) {k : Nat} (hk : k < s.size) {x y : Nat} (hy : 0 < y ∧ y ≠ 10) : (B z (d + k) = x ∧ B z (d + k + 1) = y) ↔ (B s k = x ∧ B s (k + 1) = y) := by
  rw [h.at_ k hk]
  rcases Nat.lt_or_ge (k + 1) s.size with hlt | hge
  · rw [show d + k + 1 = d + (k + 1) by omega, h.at_ _ hlt]
  · have e : B s (k + 1) = 0 := B_end s _ hge
    rw [show d + k + 1 = d + s.size by omega]
    have := h.end_
    constructor
    · rintro ⟨_, h2⟩; rcases this with e1 | e1 <;> omega
    · rintro ⟨_, h2⟩; omega
theorem Win.close (h : Win s z d) : ∀ f k, s.size - k = f → k ≤ s.size → (closeE s k < s.size ∨ d + s.size = z.size) → closeE z (d + k) = d + closeE s k := by
  intro f
  induction f with
  | zero =>
    intro k hf hk hc
    obtain rfl : k = s.size := by omega
    rw [close_end (Nat.le_refl _)] at hc ⊢
    rcases hc with hc | hc
    · omega
    · rw [hc]; exact close_end (Nat.le_refl _)
  | succ f ih =>
    intro k hf hk hc
    have hlt : k < s.size := by omega
    have h2 := h.two hlt (x := 42) (y := 47) (by omega)
    by_cases ha : B s k = 42 ∧ B s (k + 1) = 47
    · rw [close_here ha, close_here (h2.2 ha)]
    · rw [close_go hlt ha] at hc ⊢
      rw [close_go (h.lt hlt) (fun hh => ha (h2.1 hh))]
      exact ih (k + 1) (by omega) (by omega) hc
/-- Does a long remark that isn't ended begin there? -/
def openAt (s : ByteArray) (i : Nat) : Prop := B s i = 47 ∧ B s (i + 1) = 42 ∧ ¬ closeE s (i + 2) < s.size
theorem Win.skip (h : Win s z d) {k : Nat} (hk : k < s.size) (ho : ¬ openAt s k ∨ d + s.size = z.size) : skipStep z (d + k) = (skipStep s k).map (d + ·) := by
  unfold skipStep
  rw [h.at_ k hk]
  by_cases h1 : blankB (B s k) = true
  · rw [if_pos h1, if_pos h1]; rfl
  rw [if_neg h1, if_neg h1]
  have t1 := h.two hk (x := 47) (y := 47) (by omega)
  have t2 := h.two hk (x := 47) (y := 42) (by omega)
  rw [h.at_ k hk] at t1 t2
  by_cases h2 : B s k = 47 ∧ B s (k + 1) = 47
  · rw [if_pos (t1.2 h2), if_pos h2, h.line _ k rfl (by omega)]; rfl
  rw [if_neg (fun hh => h2 (t1.1 hh)), if_neg h2]
  by_cases h3 : B s k = 47 ∧ B s (k + 1) = 42
  · have h3' := t2.2 h3
    have hk2 : k + 2 ≤ s.size := by
      rcases Nat.lt_or_ge (k + 1) s.size with hl | hl
      · omega
      · have := B_end s (k + 1) hl; omega
    by_cases hc : closeE s (k + 2) < s.size
    · have e := h.close _ (k + 2) rfl hk2 (.inl hc)
      rw [← Nat.add_assoc] at e
      rw [if_pos ⟨h3'.1, h3'.2, by rw [e]; have := h.fits; omega⟩, if_pos ⟨h3.1, h3.2, hc⟩, e]
      rfl
    · rcases ho with ho | ho
      · exact absurd ⟨h3.1, h3.2, hc⟩ ho
      · have e := h.close _ (k + 2) rfl hk2 (.inr ho)
        rw [← Nat.add_assoc] at e
        rw [if_neg (fun hh => hc (by have := hh.2.2; omega)), if_neg (fun hh => hc hh.2.2)]
        rfl
  · rw [if_neg (fun hh => h3 (t2.1 ⟨hh.1, hh.2.1⟩)), if_neg (fun hh => h3 ⟨hh.1, hh.2.1⟩)]; rfl
def shiftT (d : Nat) (t : Tok) : Tok := ⟨t.kind, t.text, t.n, d + t.at_, d + t.end_⟩
theorem Win.piece (h : Win s z d) (k i j : Nat) (hij : i ≤ j) (hj : j ≤ s.size) : pieceT z k (d + i) (d + j) = shiftT d (pieceT s k i j) := by
  unfold pieceT shiftT
  rw [h.cut i j hij hj]
theorem Win.sign (h : Win s z d) {k : Nat} (hk : k < s.size) : signN z (d + k) = signN s k := by
  unfold signN
  have e : ∀ l ∈ longsL, Go.Proofs.YtlgklkokadbpeaaDoor.occ z (d + k) l = Go.Proofs.YtlgklkokadbpeaaDoor.occ s k l := fun l hl => h.occ l k (by revert l; decide) (by omega)
  have e2 : longsL.find? (Go.Proofs.YtlgklkokadbpeaaDoor.occ z (d + k)) = longsL.find? (Go.Proofs.YtlgklkokadbpeaaDoor.occ s k) := by
    have : ∀ L : List (List UInt8), (∀ l ∈ L, Go.Proofs.YtlgklkokadbpeaaDoor.occ z (d + k) l = Go.Proofs.YtlgklkokadbpeaaDoor.occ s k l) → L.find? (Go.Proofs.YtlgklkokadbpeaaDoor.occ z (d + k)) = L.find? (Go.Proofs.YtlgklkokadbpeaaDoor.occ s k) := by
      intro L
      induction L with
      | nil => intro _; rfl
      | cons a L ih =>
        intro hL
        rw [List.find?_cons, List.find?_cons, hL a (.head _), ih (fun l hl => hL l (.tail _ hl))]
    exact this longsL e
  rw [e2, h.at_ k hk]
theorem Win.high (h : Win s z d) : ∀ f k g, s.size - k = f → k ≤ s.size → z.size - (d + k) = g → highF z g (d + k) = d + highF s f k := by
  intro f
  induction f with
  | zero =>
    intro k g hf hk hg
    obtain rfl : k = s.size := by omega
    cases g with
    | zero => rfl
    | succ g =>
      unfold highF
      rw [if_neg]
      rintro ⟨h1, h2⟩
      rw [h.stop h1] at h2
      omega
  | succ f ih =>
    intro k g hf hk hg
    have hlt : k < s.size := by omega
    have hz := h.lt hlt
    obtain ⟨g, rfl⟩ : ∃ g', g = g' + 1 := ⟨g - 1, by omega⟩
    unfold highF
    rw [h.at_ k hlt]
    by_cases ha : 128 ≤ B s k
    · rw [if_pos ⟨hz, ha⟩, if_pos ⟨hlt, ha⟩]
      exact ih (k + 1) g (by omega) (by omega) (by omega)
    · rw [if_neg (fun hh => ha hh.2), if_neg (fun hh => ha hh.2)]
theorem Win.highN (h : Win s z d) {k : Nat} (hk : k < s.size) : Go.Proofs.YtlgklkokadbpeaaDoor.highN z (d + k) = d + Go.Proofs.YtlgklkokadbpeaaDoor.highN s k := by
  unfold Go.Proofs.YtlgklkokadbpeaaDoor.highN
  rw [h.at_ k hk]
  split
  · exact h.high _ (k + 1) _ rfl hk rfl
  · omega
theorem Win.byte (h : Win s z d) {k : Nat} (hk : k < s.size) : z.data[d + k]! = s.data[k]! := UInt8.toNat.inj (h.at_ k hk)
theorem Win.quo (h : Win s z d) (i : Nat) : ∀ f k ok said, s.size - k = f → i ≤ k → k ≤ s.size → Go.Proofs.YtlgklkokadbpeaaDoor.quo z (d + i) (d + k) ok said = shiftT d (Go.Proofs.YtlgklkokadbpeaaDoor.quo s i k ok said) := by
  intro f
  induction f using Nat.strongRecOn with
  | _ f ih =>
    intro k ok said hf hik hk
    by_cases hlt : k < s.size
    · have hz := h.lt hlt
      rw [quo_open hlt, quo_open hz, h.at_ k hlt]
      by_cases h10 : B s k ≠ 10
      · rw [if_pos h10, if_pos h10]
        by_cases h34 : B s k = 34
        · rw [if_pos h34, if_pos h34]
          cases ok with
          | true => rw [if_pos rfl, if_pos rfl]; unfold shiftT; rfl
          | false => rw [if_neg (by decide), if_neg (by decide)]; exact h.piece 7 i (k + 1) (by omega) hlt
        · rw [if_neg h34, if_neg h34]
          by_cases he : B s k = 92 ∧ k + 1 < s.size ∧ B s (k + 1) ≠ 10
          · have hb1 := h.at_ (k + 1) he.2.1
            rw [← Nat.add_assoc] at hb1
            rw [if_pos he, if_pos ⟨he.1, by have := h.fits; omega, by rw [hb1]; exact he.2.2⟩, hb1]
            exact ih (s.size - (k + 2)) (by omega) (k + 2) _ _ rfl (by omega) (by omega)
          · rw [if_neg he, if_neg, h.byte hlt]
            · exact ih (s.size - (k + 1)) (by omega) (k + 1) _ _ rfl (by omega) (by omega)
            · rintro ⟨h1, h2, h3⟩
              rcases Nat.lt_or_ge (k + 1) s.size with hl | hl
              · have hb1 := h.at_ (k + 1) hl
                rw [← Nat.add_assoc] at hb1
                exact he ⟨h1, hl, by rw [← hb1]; exact h3⟩
              · have e : k + 1 = s.size := by omega
                rw [Nat.add_assoc, e] at h2 h3
                exact h3 (h.stop h2)
      · rw [if_neg h10, if_neg h10]
        exact h.piece 7 i k hik hk
    · obtain rfl : k = s.size := by omega
      rw [quo_stop (s := s) (k := s.size) (by omega), quo_stop (s := z)]
      · exact h.piece 7 i s.size hik (Nat.le_refl _)
      · rintro ⟨h1, h2⟩; exact h2 (h.stop h1)
theorem Win.one (h : Win s z d) {k : Nat} (hk : k < s.size) (ho : Go.Proofs.YtlgklkokadbpeaaDoor.occ s k [47, 42] = false ∨ d + s.size = z.size) : oneT z (d + k) = shiftT d (oneT s k) := by
  have hw := h.word _ k rfl (by omega)
  have hwb := word_le s k (by omega)
  have hoc := h.occ [47, 42] k (by decide) (by omega)
  have hsg := h.sign hk
  have hhi := h.highN hk
  have hhb := high_lt s k hk
  unfold oneT
  rw [h.at_ k hk, hoc, hsg, hhi]
  split
  · unfold wordT
    rw [hw, h.cut k _ hwb.1 hwb.2]
    exact h.piece _ k _ hwb.1 hwb.2
  · split
    · unfold numT
      rw [hw, h.at_ k hk, h.cut k _ hwb.1 hwb.2]
      by_cases hl : k + 1 < wordN s k ∧ B s k = 48
      · rw [if_pos ⟨by omega, hl.2⟩, if_pos hl]
        exact h.piece _ k _ hwb.1 hwb.2
      · rw [if_neg (fun hh => hl ⟨by have := hh.1; omega, hh.2⟩), if_neg hl]
        cases numV (s.extract k (wordN s k)).data.toList with
        | some v => rfl
        | none => exact h.piece _ k _ hwb.1 hwb.2
    · split
      · exact h.quo k _ (k + 1) true [] rfl (by omega) hk
      · split
        · rename_i ho2
          rcases ho with ho | ho
          · rw [ho2] at ho; cases ho
          · rw [← ho]; exact h.piece 7 k s.size (by omega) (Nat.le_refl _)
        · split
          · have := sign_fit s k hk
            rw [Nat.add_assoc]
            exact h.piece 4 k _ (by omega) this
          · exact h.piece 7 k _ (by omega) hhb.2
end
end Go.Proofs.YtlgklkokadbpeaaDoor
