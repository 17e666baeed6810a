import Derived.Test.YtogoolpgajopcaaTrG
namespace Go.Proofs.Ytogoolpgajopcaa
open Go.RowKit
/-- As Holds, all blocks from lo on. -/
def Holds2 (w : World) (lo B : Nat) : Fo → Option Addr → Nat → Prop
  | .nil, _, _ => True
  | .cons k t n m a P R, A, i => (∃ ad A' c', A = some ad ∧ lo ≤ ad.block ∧ ad.block < B ∧ (∀ j u, (cells6 k t n m a P.len A' c')[j]? = some u → w.cell? ((ad.add (i * 6)).add j) = some u) ∧ P.len ≤ c' ∧ c' ≤ 1000000000000000 ∧ t.size ≤ 1000000000000000 ∧ Holds2 w lo B P A' 0) ∧ Holds2 w lo B R A (i + 1)
theorem Holds2.holds {w : World} {lo B : Nat} : ∀ {F : Fo} {A : Option Addr} {i : Nat}, Holds2 w lo B F A i → Holds w B F A i := by
  intro F
  induction F with
  | nil => intro A i _; trivial
  | cons k t n m a P R ihP ihR =>
    intro A i h
    obtain ⟨⟨ad, A', c', h1, h2, h2', h3, h4, h5, h6, h7⟩, h8⟩ := h
    exact ⟨⟨ad, A', c', h1, h2', h3, h4, h5, h6, ihP h7⟩, ihR h8⟩
theorem Holds2.keep {w w' : World} {lo lo' B B' : Nat} (hl : lo' ≤ lo) (hB : B ≤ B') (hk : ∀ p : Addr, lo ≤ p.block → p.block < B → w'.cell? p = w.cell? p) : ∀ {F : Fo} {A : Option Addr} {i : Nat}, Holds2 w lo B F A i → Holds2 w' lo' B' F A i := by
  intro F
  induction F with
  | nil => intro A i _; trivial
  | cons k t n m a P R ihP ihR =>
    intro A i h
    obtain ⟨⟨ad, A', c', h1, h2, h2', h3, h4, h5, h6, h7⟩, h8⟩ := h
    refine ⟨⟨ad, A', c', h1, by omega, by omega, fun j u hu => (hk _ ?_ ?_).trans (h3 j u hu), h4, h5, h6, ihP h7⟩, ihR h8⟩ <;> rw [block_add, block_add] <;> assumption
/-- Without places. -/
def Fo.bare : Fo → Fo
  | .nil => .nil
  | .cons k t n m _ P R => .cons k t n m 0 P.bare R.bare
theorem bare_len : ∀ P : Fo, P.bare.len = P.len := by
  intro P
  induction P with
  | nil => rfl
  | cons k t n m a P R _ ih => simp only [Fo.bare, Fo.len, ih]
def Fo.app : Fo → Fo → Fo
  | .nil, G => G
  | .cons k t n m a P R, G => .cons k t n m a P (R.app G)
theorem app_assoc : ∀ (S T U : Fo), (S.app T).app U = S.app (T.app U) := by
  intro S
  induction S with
  | nil => intro T U; rfl
  | cons k t n m a P R _ ih => intro T U; simp only [Fo.app, ih]
theorem app_nil : ∀ S : Fo, S.app .nil = S := by
  intro S
  induction S with
  | nil => rfl
  | cons k t n m a P R _ ih => simp only [Fo.app, ih]
theorem app_len : ∀ S T : Fo, (S.app T).len = S.len + T.len := by
  intro S
  induction S with
  | nil => intro T; simp [Fo.app, Fo.len]
  | cons k t n m a P R _ ih => intro T; simp only [Fo.app, Fo.len, ih]; omega
theorem len_nodes : ∀ P : Fo, P.len ≤ P.nodes := by
  intro P
  induction P with
  | nil => exact Nat.le_refl _
  | cons k t n m a P R _ ih => simp only [Fo.len, Fo.nodes]; omega
/-- The nodes lie in block g, what they are made of behind it. -/
def Top (w : World) (g : Nat) : Fo → Nat → Prop
  | .nil, _ => True
  | .cons k t n m a P R, i => (∃ A' c', (∀ x u, (cells6 k t n m a P.len A' c')[x]? = some u → w.cell? ⟨g, i * 6 + x, none⟩ = some u) ∧ P.len ≤ c' ∧ c' ≤ 1000000000000000 ∧ t.size ≤ 1000000000000000 ∧ Holds2 w (g + 1) w.heap.size P A' 0) ∧ Top w g R (i + 1)
theorem Top.keep {w w' : World} {g : Nat} {y : Nat} (hs : w.heap.size ≤ w'.heap.size) (hk : ∀ p : Addr, g + 1 ≤ p.block → p.block < w.heap.size → w'.cell? p = w.cell? p) (hg : ∀ z, z < y → w'.cell? ⟨g, z, none⟩ = w.cell? ⟨g, z, none⟩) : ∀ {F : Fo} {i : Nat}, (i + F.len) * 6 ≤ y → Top w g F i → Top w' g F i := by
  intro F
  induction F with
  | nil => intro i _ _; trivial
  | cons k t n m a P R _ ihR =>
    intro i hy h
    obtain ⟨⟨A', c', h1, h2, h3, h4, h5⟩, h6⟩ := h
    simp only [Fo.len] at hy
    refine ⟨⟨A', c', fun x u hu => ?_, h2, h3, h4, h5.keep (Nat.le_refl _) hs hk⟩, ihR (by omega) h6⟩
    have hx : x < 6 := by
      rcases Nat.lt_or_ge x 6 with h | h
      · exact h
      · rw [List.getElem?_eq_none (by simpa [cells6] using h)] at hu; cases hu
    exact (hg _ (by omega)).trans (h1 x u hu)
theorem Top.snoc {w : World} {g : Nat} {k : Int} {t : ByteArray} {n m a : Int} {P : Fo} : ∀ {S : Fo} {i : Nat}, Top w g S i → Top w g (.cons k t n m a P .nil) (i + S.len) → Top w g (S.app (.cons k t n m a P .nil)) i := by
  intro S
  induction S with
  | nil => intro i _ h; exact h
  | cons k' t' n' m' a' P' R' _ ih =>
    intro i h1 h2
    refine ⟨h1.1, ih h1.2 ?_⟩
    simp only [Fo.len] at h2
    rw [show i + 1 + R'.len = i + (R'.len + 1) by omega]
    exact h2
theorem Top.holds2 {w : World} {g : Nat} (hg : g < w.heap.size) : ∀ {F : Fo} {i : Nat}, Top w g F i → Holds2 w g w.heap.size F (some ⟨g, 0, none⟩) i := by
  intro F
  induction F with
  | nil => intro i _; trivial
  | cons k t n m a P R _ ihR =>
    intro i h
    obtain ⟨⟨A', c', h1, h2, h3, h4, h5⟩, h6⟩ := h
    refine ⟨⟨_, A', c', rfl, Nat.le_refl _, hg, fun x u hu => ?_, h2, h3, h4, h5.keep (Nat.le_succ _) (Nat.le_refl _) (fun _ _ _ => rfl)⟩, ihR h6⟩
    rw [show (((⟨g, 0, none⟩ : Addr).add (i * 6)).add x) = ⟨g, i * 6 + x, none⟩ by
      unfold Addr.add
      by_cases hi0 : i * 6 = 0 <;> by_cases hx0 : x = 0 <;> simp [hi0, hx0]]
    exact h1 x u hu
/-- A row of nodes that is being filled. -/
structure Fill (w : World) (g q : Nat) (S : Fo) : Prop where
  lt : g < w.heap.size
  cell : ∀ y, y < q * 6 → ∃ v, w.cell? ⟨g, y, none⟩ = some v
  free : ∀ y, w.frozen? ⟨g, y, none⟩ = false
  top : Top w g S 0
theorem Fill.below {w w' : World} {g q : Nat} {S : Fo} (h : Fill w g q S) (hb : Below w.heap.size w w') : Fill w' g q S :=
  ⟨by have := h.lt; have := hb.size; omega, fun y hy => by obtain ⟨v, hv⟩ := h.cell y hy; exact ⟨v, (hb.cell (p := ⟨g, y, none⟩) h.lt).trans hv⟩, fun y => (hb.frozen (p := ⟨g, y, none⟩) h.lt).trans (h.free y),
    h.top.keep (y := S.len * 6) hb.size (fun p _ hp => hb.cell hp) (fun z _ => hb.cell (p := ⟨g, z, none⟩) h.lt) (by omega)⟩
/-- Six cells stored, one behind the other. -/
def put6 (w : World) (g y : Nat) (v0 v1 v2 v3 v4 v5 : Value) : World := (((((w.setCell ⟨g, y, none⟩ v0).setCell ⟨g, y + 1, none⟩ v1).setCell ⟨g, y + 2, none⟩ v2).setCell ⟨g, y + 3, none⟩ v3).setCell ⟨g, y + 4, none⟩ v4).setCell ⟨g, y + 5, none⟩ v5
theorem put6_other {w : World} {g y : Nat} {v0 v1 v2 v3 v4 v5 : Value} {p : Addr} (h : p.block ≠ g ∨ p.off < y) : (put6 w g y v0 v1 v2 v3 v4 v5).cell? p = w.cell? p := by
  have hne : ∀ i, (⟨g, y + i, none⟩ : Addr) ≠ p := fun i e => by
    subst e
    rcases h with h | h
    · exact h rfl
    · have h : y + i < y := h
      omega
  unfold put6
  rw [World.cell?_setCell_other _ _ _ _ (hne 5), World.cell?_setCell_other _ _ _ _ (hne 4), World.cell?_setCell_other _ _ _ _ (hne 3), World.cell?_setCell_other _ _ _ _ (hne 2), World.cell?_setCell_other _ _ _ _ (hne 1), World.cell?_setCell_other _ _ _ _ (by simpa using hne 0)]
end Go.Proofs.Ytogoolpgajopcaa
