import Derived.Test.YtogoolpgajopcaaRows
import Derived.WalkKit
import Derived.WalkLawsBesides
import Derived.WalkSpells
import Derived.WalkSmall
import Derived.LoopTactic
import Derived.OwnWalk
import Derived.Outline
import Derived.Below
import Derived.Lib.Hide
import Derived.Handy
import Derived.Deep.QuietTactic
import Derived.BigQuiet
import Derived.Deep.Draws
namespace Go.Proofs.Ytogoolpgajopcaa
open Go.RowKit
/-- A list of nodes: the first one's fields, its parts, and the nodes behind it. -/
inductive Fo where
  | nil
  | cons (k : Int) (t : ByteArray) (n m a : Int) (P R : Fo)
def Fo.len : Fo → Nat
  | .nil => 0
  | .cons _ _ _ _ _ _ R => R.len + 1
/-- The six cells of a node. -/
def cells6 (k : Int) (t : ByteArray) (n m a : Int) (l : Nat) (A : Option Addr) (c : Nat) : List Value := [.int .i64 k, .string t, .int .i64 n, .int .i64 m, .int .i64 a, .slice A l c]
def val6 (k : Int) (t : ByteArray) (n m a : Int) (l : Nat) (A : Option Addr) (c : Nat) : Value := .agg (cells6 k t n m a l A c).toArray
/-- The nodes lie from A on, the first one at number i, below block B; their texts and lists are of a size that is met. -/
def Holds (w : World) (B : Nat) : Fo → Option Addr → Nat → Prop
  | .nil, _, _ => True
  | .cons k t n m a P R, A, i => (∃ ad A' c', A = some ad ∧ ad.block < B ∧ (∀ j u, (cells6 k t n m a P.len A' c')[j]? = some u → w.cell? ((ad.add (i * 6)).add j) = some u) ∧ P.len ≤ c' ∧ c' ≤ 1000000000000000 ∧ t.size ≤ 1000000000000000 ∧ Holds w B P A' 0) ∧ Holds w B R A (i + 1)
theorem block_add (a : Addr) (n : Nat) : (a.add n).block = a.block := by unfold Addr.add; split <;> rfl
/-- The cells of a node, as a walk spells their places. -/
theorem six {w : World} {p : Addr} {k : Int} {t : ByteArray} {n m a : Int} {l : Nat} {A : Option Addr} {c : Nat} (h : ∀ j u, (cells6 k t n m a l A c)[j]? = some u → w.cell? (p.add j) = some u) :
    w.cell? p = some (.int .i64 k) ∧ w.cell? ⟨p.block, p.off + 1, none⟩ = some (.string t) ∧ w.cell? ⟨p.block, p.off + 2, none⟩ = some (.int .i64 n) ∧ w.cell? ⟨p.block, p.off + 3, none⟩ = some (.int .i64 m) ∧ w.cell? ⟨p.block, p.off + 4, none⟩ = some (.int .i64 a) ∧ w.cell? ⟨p.block, p.off + 5, none⟩ = some (.slice A l c) :=
  ⟨h 0 _ rfl, h 1 _ rfl, h 2 _ rfl, h 3 _ rfl, h 4 _ rfl, h 5 _ rfl⟩
theorem Holds.keep {w w' : World} {B : Nat} (hk : ∀ p : Addr, p.block < B → w'.cell? p = w.cell? p) : ∀ {F : Fo} {A : Option Addr} {i : Nat}, Holds w B F A i → Holds w' B F A i := by
  intro F
  induction F with
  | nil => intro A i _; trivial
  | cons k t n m a P R ihP ihR =>
    intro A i h
    obtain ⟨⟨ad, A', c', h1, h2, h3, h4, h5, h6, h7⟩, h8⟩ := h
    refine ⟨⟨ad, A', c', h1, h2, fun j u hu => (hk _ ?_).trans (h3 j u hu), h4, h5, h6, ihP h7⟩, ihR h8⟩
    rw [show ((ad.add (i * 6)).add j).block = ad.block by rw [block_add, block_add]]
    exact h2
theorem Holds.below {w w' : World} {B : Nat} {F : Fo} {A : Option Addr} {i : Nat} (h : Holds w B F A i) (hb : Below B w w') : Holds w' B F A i := h.keep fun _ hp => hb.cell hp
theorem Holds.more {w : World} {B B' : Nat} (hB : B ≤ B') : ∀ {F : Fo} {A : Option Addr} {i : Nat}, Holds w B F A i → Holds w B' F A i := by
  intro F
  induction F with
  | nil => intro A i _; trivial
  | cons k t n m a P R ihP ihR =>
    intro A i h
    obtain ⟨⟨ad, A', c', h1, h2, h3, h4, h5, h6, h7⟩, h8⟩ := h
    exact ⟨⟨ad, A', c', h1, by omega, h3, h4, h5, h6, ihP h7⟩, ihR h8⟩
/-- Does it hold of the parts of every node of a list? -/
def AllC (C : Fo → Prop) : Fo → Prop
  | .nil => True
  | .cons _ _ _ _ _ P R => C P ∧ AllC C R
theorem fo_all {C : Fo → Prop} (step : ∀ P, AllC C P → C P) : ∀ F, AllC C F := by
  intro F
  induction F with
  | nil => trivial
  | cons k t n m a P R ihP ihR => exact ⟨step P ihP, ihR⟩
theorem fo_ind {C : Fo → Prop} (step : ∀ P, AllC C P → C P) (P : Fo) : C P := step P (fo_all step P)
theorem ret_bool {a b : Bool} (h : a = b) : Ending.returned (.bool a) = .returned (.bool b) := by
  rw [h]
theorem ret_int {k : IntKind} {a b : Int} (h : a = b) : Ending.returned (.int k a) = .returned (.int k b) := by
  rw [h]
theorem below_step {w a b : World} (h : Below w.heap.size w a) (h' : Below a.heap.size a b) : Below w.heap.size w b := h.trans (h'.mono h.size)
theorem below_box {w w1 : World} {o : Obj} (hb : Below (w.alloc o).heap.size (w.alloc o) w1) : Below w.heap.size w w1 := below_step ((Below.refl _ _).alloc (Nat.le_refl _) _) hb
/-- How many nodes. -/
def Fo.nodes : Fo → Nat
  | .nil => 0
  | .cons _ _ _ _ _ P R => 1 + P.nodes + R.nodes
def cap20 (n : Nat) : Nat := if n ≤ 20000 then n else 20001
theorem cap20_lo {n : Nat} (h : n ≤ 20000) : cap20 n = n := if_pos h
theorem cap20_hi {n : Nat} (h : 20000 < n) : cap20 n = 20001 := if_neg (by omega)
theorem cap20_le (n : Nat) : cap20 n ≤ 20001 := by unfold cap20; split <;> omega
theorem cap20_in (x y z : Nat) : cap20 (x + cap20 y + z) = cap20 (x + (y + z)) := by
  by_cases h : y ≤ 20000
  · rw [cap20_lo h, Nat.add_assoc]
  · rw [cap20_hi (n := y) (by omega), cap20_hi (by omega), cap20_hi (by omega)]
/-- The box in which a node that is handed in lies keeps its cells. -/
theorem box_cells {w w1 : World} {cs : Array Value} {t : TypeId} (hb : Below (w.alloc (.cells cs t)).heap.size (w.alloc (.cells cs t)) w1) (j : Nat) : w1.cell? ⟨w.heap.size, j, none⟩ = cs[j]? := by
  rw [hb.cell (p := ⟨w.heap.size, j, none⟩) (by simp)]
  exact cell_of_row _ _ _ _ _ _ (heap_alloc_new w _)
def RefNodes (P : Fo) : Prop := ∀ (k : Int) (t : ByteArray) (n m a : Int) (A : Option Addr) (c : Nat) (w : World), Holds w w.heap.size P A 0 → P.len ≤ 1000000000000000 →
    Calls Try.prog 20 #[val6 k t n m a P.len A c] w fun e w' => e = .returned (.int .i64 (cap20 (1 + P.nodes))) ∧ Below w.heap.size w w'
set_option maxHeartbeats 1000000 in
theorem nodes_ref (P : Fo) : RefNodes P := by
  refine fo_ind ?_ P
  clear P
  intro P hall k t n m a A c w hH hl
  simp only [val6, cells6]
  have HA := Lib.hid hall
  have HH := Lib.hid (hH.below ((Below.refl _ _).alloc (Nat.le_refl _) (.cells #[.int .i64 k, .string t, .int .i64 n, .int .i64 m, .int .i64 a, .slice A P.len c] 24)))
  clear hall hH
  go_enter Try.func20, Try.ntmps20
  go_wp2_with fail
  generalize hW : w.alloc _ = W at *
  have hBx : Hid (Below w.heap.size w W) := Lib.hid (by rw [← hW]; exact (Below.refl _ _).alloc (Nat.le_refl _) _)
  have hB5 : Hid (∀ W', Below W.heap.size W W' → W'.cell? ⟨w.heap.size, 5, none⟩ = some (.slice A P.len c)) := Lib.hid (by subst hW; exact fun W' h => box_cells h 5)
  have hsz : W.heap.size = w.heap.size + 1 := by rw [← hW]; simp
  clear hW
  go_loopw [3, 4] (fun s i wr => ∃ (j x : Nat) (R : Fo), j + R.len = P.len ∧ i = .int .i64 j ∧ s = .int .i64 x ∧ x ≤ 40001 ∧ cap20 (x + R.nodes) = cap20 (1 + P.nodes) ∧ AllC RefNodes R ∧ Holds wr w.heap.size R A j ∧ Below W.heap.size W wr) (fun _ i _ => P.len - (intOf i).toNat)
  case atStart => exact ⟨0, 1, P, by omega, by go_num, by go_num, by omega, rfl, HA.out, HH.out, Below.refl _ _⟩
  case round =>
    obtain ⟨j, x, R, hj, rfl, rfl, hx, hcap, hall, hH, hB⟩ := hrel
    have c5 := hB5.out wr hB
    have HBw := Lib.hid hB
    have HC := Lib.hid hcap
    clear hcap hB
    cases R with
    | nil =>
      have hjl : j = P.len := by simpa [Fo.len] using hj
      have tj : decide ((j : Int) < (P.len : Int)) = false := by simp; omega
      have tj2 : decide (j < P.len) = false := by simp; omega
      have hm1 : Hid (x ≤ 20000 → (x : Int) = (cap20 (1 + P.nodes) : Nat)) := Lib.hid fun h => by
        rw [← HC.out]; simp only [Fo.nodes, Nat.add_zero]; rw [cap20_lo h]
      have hm2 : Hid (20000 < x → (20001 : Int) = (cap20 (1 + P.nodes) : Nat)) := Lib.hid fun h => by
        rw [← HC.out, cap20_hi (by omega)]; rfl
      clear hj hjl hH hall
      by_cases hx2 : x ≤ 20000
      · go_wp2_with fail
        go_ret
        exact ⟨ret_int (hm1.out hx2), below_step hBx.out HBw.out⟩
      · go_wp2_with fail
        all_goals
          go_ret
          exact ⟨ret_int (by have := hm2.out (by omega); omega), below_step hBx.out HBw.out⟩
    | cons k1 t1 n1 m1 a1 P1 R1 =>
      obtain ⟨⟨ad, A', c', rfl, hblk, hcell, hc1, hc2, ht1, hP1⟩, hR1⟩ := hH
      obtain ⟨hall1, hall2⟩ := hall
      have hjl : j + 1 + R1.len = P.len := by simp only [Fo.len] at hj; omega
      have hjl2 : j < P.len := by omega
      obtain ⟨f0, f1, f2, f3, f4, f5⟩ := six hcell
      have HHR := Lib.hid hR1
      have HA2 := Lib.hid hall2
      have K := Lib.hid (hall1 k1 t1 n1 m1 a1 A' c' wr (hP1.more (by have := HBw.out.size; omega)) (by omega))
      clear hcell hR1 hall1 hall2 hj hP1
      by_cases hx2 : x ≤ 20000
      · have hcl := cap20_le (1 + P1.nodes)
        have HC2 : Hid (cap20 (x + cap20 (1 + P1.nodes) + R1.nodes) = cap20 (1 + P.nodes)) := Lib.hid (by rw [cap20_in]; exact HC.out)
        simp only [val6, cells6] at K
        generalize cap20 (1 + P1.nodes) = y at *
        go_wp2_with fail
        refine K.out.mono ?_
        rintro e w1 ⟨rfl, hb1⟩
        have HB1 := Lib.hid (below_step (HBw.out) hb1)
        have HH2 := Lib.hid (HHR.out.below (hb1.mono (by have := HBw.out.size; omega)))
        clear hb1
        go_wp2_with fail
        go_roundw
        case rel => exact ⟨j + 1, x + y, R1, by omega, by go_num, by go_num, by omega, HC2.out, HA2.out, HH2.out, HB1.out⟩
        case measure => simp [intOf]; omega
      · have hm2 : Hid ((20001 : Int) = (cap20 (1 + P.nodes) : Nat)) := Lib.hid (by rw [← HC.out, cap20_hi (by omega)]; rfl)
        have hx3 : decide ((x : Int) ≤ 20000) = false := by simp; omega
        go_wp2_with fail
        all_goals
          go_ret
          exact ⟨ret_int (by have := hm2.out; omega), below_step hBx.out HBw.out⟩
end Go.Proofs.Ytogoolpgajopcaa
