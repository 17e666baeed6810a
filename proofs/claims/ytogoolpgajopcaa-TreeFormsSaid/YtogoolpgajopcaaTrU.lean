import Derived.Test.YtogoolpgajopcaaTrT
namespace Go.Proofs.Ytogoolpgajopcaa
open Go.RowKit
theorem beq0 (x : Nat) : (((x : Nat) : Int) == 0) = decide (x = 0) := by
  rw [Bool.eq_iff_iff]; simp
theorem AllC.imp {C D : Fo → Prop} (h : ∀ P, C P → D P) : ∀ {F : Fo}, AllC C F → AllC D F := by
  intro F
  induction F with
  | nil => intro _; trivial
  | cons k t n m a P R ihP ihR => exact fun ⟨h1, h2⟩ => ⟨h P h1, ihR h2⟩
def Fo.take : Fo → Nat → Fo
  | .nil, _ => .nil
  | .cons _ _ _ _ _ _ _, 0 => .nil
  | .cons k t n m a P R, j + 1 => .cons k t n m a P (R.take j)
def Fo.drop : Fo → Nat → Fo
  | .nil, _ => .nil
  | .cons k t n m a P R, 0 => .cons k t n m a P R
  | .cons _ _ _ _ _ _ R, j + 1 => R.drop j
theorem drop_zero (F : Fo) : F.drop 0 = F := by cases F <;> rfl
theorem take_inf : ∀ (F : Fo) (j : Nat), (F.take j).inf = F.inf.take j := by
  intro F
  induction F with
  | nil => intro j; cases j <;> rfl
  | cons k t n m a P R ihP ihR => intro j; cases j with
    | zero => rfl
    | succ j => simp [Fo.take, Fo.inf, ihR j]
theorem drop_inf : ∀ (F : Fo) (j : Nat), (F.drop j).inf = F.inf.drop j := by
  intro F
  induction F with
  | nil => intro j; cases j <;> rfl
  | cons k t n m a P R ihP ihR => intro j; cases j with
    | zero => rfl
    | succ j => simp [Fo.drop, Fo.inf, ihR j]
theorem take_len (F : Fo) (j : Nat) (h : j ≤ F.len) : (F.take j).len = j := by
  rw [← inf_len, take_inf, List.length_take, inf_len]; omega
theorem drop_len (F : Fo) (j : Nat) : (F.drop j).len = F.len - j := by
  rw [← inf_len, drop_inf, List.length_drop, inf_len]
theorem AllC.take {C : Fo → Prop} : ∀ {F : Fo} (j : Nat), AllC C F → AllC C (F.take j) := by
  intro F
  induction F with
  | nil => intro j _; cases j <;> trivial
  | cons k t n m a P R ihP ihR => intro j h; cases j with
    | zero => trivial
    | succ j => exact ⟨h.1, ihR j h.2⟩
theorem AllC.drop {C : Fo → Prop} : ∀ {F : Fo} (j : Nat), AllC C F → AllC C (F.drop j) := by
  intro F
  induction F with
  | nil => intro j _; cases j <;> trivial
  | cons k t n m a P R ihP ihR => intro j h; cases j with
    | zero => exact h
    | succ j => exact ihR j h.2
theorem Holds.take {w : World} {B : Nat} : ∀ {F : Fo} {A : Option Addr} {i : Nat} (j : Nat), Holds w B F A i → Holds w B (F.take j) A i := by
  intro F
  induction F with
  | nil => intro A i j _; cases j <;> trivial
  | cons k t n m a P R ihP ihR => intro A i j h; cases j with
    | zero => trivial
    | succ j => exact ⟨h.1, ihR j h.2⟩
theorem Holds.drop {w : World} {B : Nat} : ∀ {F : Fo} {A : Option Addr} {i : Nat} (j : Nat), Holds w B F A i → Holds w B (F.drop j) A (i + j) := by
  intro F
  induction F with
  | nil => intro A i j _; cases j <;> trivial
  | cons k t n m a P R ihP ihR => intro A i j h; cases j with
    | zero => exact h
    | succ j => rw [show i + (j + 1) = i + 1 + j by omega]; exact ihR j h.2
theorem add_add (a : Addr) (x y : Nat) : (a.add x).add y = a.add (x + y) := by
  unfold Addr.add
  by_cases hx : x = 0 <;> by_cases hy : y = 0 <;> simp [hx, hy, Nat.add_assoc] <;> omega
theorem Holds.shift {w : World} {B : Nat} {ad : Addr} {i : Nat} : ∀ {F : Fo} {r : Nat}, Holds w B F (some ad) (i + r) → Holds w B F (some (ad.add (i * 6))) r := by
  intro F
  induction F with
  | nil => intro r _; trivial
  | cons k t n m a P R ihP ihR =>
    intro r h
    obtain ⟨⟨ad', A', c', h1, h2, h3, h4, h5, h6, h7⟩, h8⟩ := h
    cases h1
    refine ⟨⟨_, A', c', rfl, by rw [block_add]; exact h2, fun j u hu => ?_, h4, h5, h6, h7⟩, ihR (by rw [← Nat.add_assoc]; exact h8)⟩
    have e := h3 j u hu
    rw [add_add] at e
    rw [add_add, add_add, show i * 6 + (r * 6 + j) = (i + r) * 6 + j by omega]
    exact e
theorem drop_cons : ∀ (F : Fo) (j : Nat), j < F.len → ∃ k t n m a P R, F.drop j = .cons k t n m a P R := by
  intro F
  induction F with
  | nil => intro j h; simp [Fo.len] at h
  | cons k t n m a P R ihP ihR => intro j h; cases j with
    | zero => exact ⟨k, t, n, m, a, P, R, rfl⟩
    | succ j => exact ihR j (by simp [Fo.len] at h; omega)
/-- The node at a number: its fields, its cells, its parts. -/
theorem Holds.node {w : World} {B : Nat} {F : Fo} {A : Option Addr} {i j : Nat} (h : Holds w B F A i) (hj : j < F.len) : ∃ k t n m a P R ad A' c', F.drop j = .cons k t n m a P R ∧ A = some ad ∧ ad.block < B ∧ (∀ x u, (cells6 k t n m a P.len A' c')[x]? = some u → w.cell? ((ad.add ((i + j) * 6)).add x) = some u) ∧ P.len ≤ c' ∧ c' ≤ 1000000000000000 ∧ t.size ≤ 1000000000000000 ∧ Holds w B P A' 0 := by
  obtain ⟨k, t, n, m, a, P, R, e⟩ := drop_cons F j hj
  have h2 := h.drop j
  rw [e] at h2
  obtain ⟨⟨ad, A', c', h1, h2, h3, h4, h5, h6, h7⟩, _⟩ := h2
  exact ⟨k, t, n, m, a, P, R, ad, A', c', e, h1, h2, h3, h4, h5, h6, h7⟩
end Go.Proofs.Ytogoolpgajopcaa
