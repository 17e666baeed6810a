import Derived.Test.YteghbblbkljdhaaDoorSoQ
import Derived.Sort.Walk0
import Derived.WalkKit
import Derived.WalkLawsBesides
import Derived.Below
import Derived.Lib.Hide
namespace Go.Proofs.YteghbblbkljdhaaDoor
open Go.RowKit
/-- A Diag: its file, its place, its code, its text. -/
structure DiagD where
  f : ByteArray
  a : Int
  c : Int
  t : ByteArray
def DiagD.val (d : DiagD) : Value := .agg #[.string d.f, .int .i64 d.a, .int .i64 d.c, .string d.t]
theorem list_tot {a b : List UInt8} (h1 : ¬ a < b) (h2 : ¬ b < a) : a = b := List.le_antisymm (List.not_lt.1 h2) (List.not_lt.1 h1)
theorem bytes_inj {a b : ByteArray} (h : a.data.toList = b.data.toList) : a = b := by
  cases a; cases b
  simp only [ByteArray.mk.injEq]
  exact Array.ext' h
/-- The order of Diags. -/
def ltD (x y : DiagD) : Prop := x.f.data.toList < y.f.data.toList ∨ x.f = y.f ∧ (x.a < y.a ∨ x.a = y.a ∧ (x.c < y.c ∨ x.c = y.c ∧ x.t.data.toList < y.t.data.toList))
theorem ord_ltD : Ord ltD := by
  refine ⟨fun a h => ?_, fun {a b c} h1 h2 => ?_, fun {a b} h1 h2 => ?_⟩
  · unfold ltD at h
    rcases h with h | ⟨_, h | ⟨_, h | ⟨_, h⟩⟩⟩
    · exact List.lt_irrefl _ h
    · omega
    · omega
    · exact List.lt_irrefl _ h
  · unfold ltD at *
    rcases h1 with h1 | ⟨e1, h1⟩
    · rcases h2 with h2 | ⟨e2, h2⟩
      · exact .inl (List.lt_trans h1 h2)
      · exact .inl (e2 ▸ h1)
    · rcases h2 with h2 | ⟨e2, h2⟩
      · exact .inl (e1 ▸ h2)
      · refine .inr ⟨e1.trans e2, ?_⟩
        rcases h1 with h1 | ⟨e1, h1⟩
        · rcases h2 with h2 | ⟨e2, h2⟩ <;> exact .inl (by omega)
        · rcases h2 with h2 | ⟨e2, h2⟩
          · exact .inl (by omega)
          · refine .inr ⟨e1.trans e2, ?_⟩
            rcases h1 with h1 | ⟨e1, h1⟩
            · rcases h2 with h2 | ⟨e2, h2⟩ <;> exact .inl (by omega)
            · rcases h2 with h2 | ⟨e2, h2⟩
              · exact .inl (by omega)
              · exact .inr ⟨e1.trans e2, List.lt_trans h1 h2⟩
  · unfold ltD at *
    have hf : a.f = b.f := bytes_inj (list_tot (fun h => h1 (.inl h)) (fun h => h2 (.inl h)))
    have ha : a.a = b.a := by
      rcases Int.lt_trichotomy a.a b.a with h | h | h
      · exact absurd (.inr ⟨hf, .inl h⟩) h1
      · exact h
      · exact absurd (.inr ⟨hf.symm, .inl h⟩) h2
    have hc : a.c = b.c := by
      rcases Int.lt_trichotomy a.c b.c with h | h | h
      · exact absurd (.inr ⟨hf, .inr ⟨ha, .inl h⟩⟩) h1
      · exact h
      · exact absurd (.inr ⟨hf.symm, .inr ⟨ha.symm, .inl h⟩⟩) h2
    have ht : a.t = b.t := bytes_inj (list_tot (fun h => h1 (.inr ⟨hf, .inr ⟨ha, .inr ⟨hc, h⟩⟩⟩)) (fun h => h2 (.inr ⟨hf.symm, .inr ⟨ha.symm, .inr ⟨hc.symm, h⟩⟩⟩)))
    cases a; cases b
    simp only at hf ha hc ht
    subst hf ha hc ht
    rfl
/-- What the comparison answers. -/
def cmpS (a b : ByteArray) : Int := if a.data.toList < b.data.toList then -1 else if b.data.toList < a.data.toList then 1 else 0
def cmpI (a b : Int) : Int := if a < b then -1 else if b < a then 1 else 0
def cmpD (x y : DiagD) : Int := if cmpS x.f y.f ≠ 0 then cmpS x.f y.f else if cmpI x.a y.a ≠ 0 then cmpI x.a y.a else if cmpI x.c y.c ≠ 0 then cmpI x.c y.c else cmpS x.t y.t
theorem cmpS_zero {a b : ByteArray} (h : cmpS a b = 0) : a = b := by
  unfold cmpS at h
  split at h
  · cases h
  · split at h
    · cases h
    · rename_i h1 h2; exact bytes_inj (list_tot h1 h2)
theorem cmpS_self (a : ByteArray) : cmpS a a = 0 := by
  unfold cmpS
  rw [if_neg (List.lt_irrefl _), if_neg (List.lt_irrefl _)]
theorem cmpS_neg {a b : ByteArray} : cmpS a b < 0 ↔ a.data.toList < b.data.toList := by
  unfold cmpS
  split
  · simp_all
  · split <;> simp_all
theorem cmpI_zero {a b : Int} (h : cmpI a b = 0) : a = b := by
  unfold cmpI at h
  split at h
  · cases h
  · split at h
    · cases h
    · omega
theorem cmpI_neg {a b : Int} : cmpI a b < 0 ↔ a < b := by
  unfold cmpI
  split
  · simp_all
  · split <;> simp_all
theorem cmpI_self (a : Int) : cmpI a a = 0 := by unfold cmpI; simp
theorem cmpD_neg {x y : DiagD} : cmpD x y < 0 ↔ ltD x y := by
  unfold cmpD ltD
  by_cases h1 : cmpS x.f y.f = 0
  · have e1 := cmpS_zero h1
    rw [if_neg (by simpa using h1), e1]
    have hl : ¬ y.f.data.toList < y.f.data.toList := List.lt_irrefl _
    by_cases h2 : cmpI x.a y.a = 0
    · have e2 := cmpI_zero h2
      rw [if_neg (by simpa using h2), e2]
      by_cases h3 : cmpI x.c y.c = 0
      · have e3 := cmpI_zero h3
        rw [if_neg (by simpa using h3), e3, cmpS_neg]
        simp [hl]
      · rw [if_pos h3, cmpI_neg]
        have : x.c ≠ y.c := fun e => h3 (by rw [e]; exact cmpI_self _)
        simp [hl, this]
    · rw [if_pos h2, cmpI_neg]
      have : x.a ≠ y.a := fun e => h2 (by rw [e]; exact cmpI_self _)
      simp [hl, this]
  · rw [if_pos h1, cmpS_neg]
    have : x.f ≠ y.f := fun e => h1 (by rw [e]; exact cmpS_self _)
    simp [this]
/-- A row of n Diags at block g. -/
structure Row (w : World) (g n : Nat) (f : Nat → DiagD) : Prop where
  c0 : ∀ k, k < n → w.cell? ⟨g, k * 4, none⟩ = some (.string (f k).f)
  c1 : ∀ k, k < n → w.cell? ⟨g, k * 4 + 1, none⟩ = some (.int .i64 (f k).a)
  c2 : ∀ k, k < n → w.cell? ⟨g, k * 4 + 2, none⟩ = some (.int .i64 (f k).c)
  c3 : ∀ k, k < n → w.cell? ⟨g, k * 4 + 3, none⟩ = some (.string (f k).t)
  fz : ∀ k, w.frozen? ⟨g, k, none⟩ = false
theorem cell_later2 {w w' : World} {p : Addr} {v : Value} (hb : Go.RowKit.Below w.heap.size w w') (h : w.cell? p = some v) : w'.cell? p = some v :=
  (hb.cell (World.block_lt_of_cell? _ _ h)).trans h
theorem Row.lt {w : World} {g n : Nat} {f : Nat → DiagD} (h : Row w g n f) (hn : 0 < n) : g < w.heap.size := World.block_lt_of_cell? _ _ (h.c0 0 hn)
theorem Row.later {w w' : World} {g n : Nat} {f : Nat → DiagD} (h : Row w g n f) (hg : g < w.heap.size) (hb : Go.RowKit.Below w.heap.size w w') : Row w' g n f :=
  ⟨fun k hk => cell_later2 hb (h.c0 k hk), fun k hk => cell_later2 hb (h.c1 k hk), fun k hk => cell_later2 hb (h.c2 k hk), fun k hk => cell_later2 hb (h.c3 k hk), fun k => (hb.frozen (p := ⟨g, k, none⟩) hg).trans (h.fz k)⟩
theorem Row.ext {w : World} {g n : Nat} {f f' : Nat → DiagD} (h : Row w g n f) (he : ∀ k, k < n → f' k = f k) : Row w g n f' :=
  ⟨fun k hk => by rw [he k hk]; exact h.c0 k hk, fun k hk => by rw [he k hk]; exact h.c1 k hk, fun k hk => by rw [he k hk]; exact h.c2 k hk, fun k hk => by rw [he k hk]; exact h.c3 k hk, h.fz⟩
/-- A Diag stored at place k. -/
def set4 (w : World) (g k : Nat) (d : DiagD) : World :=
  (((w.setCell ⟨g, k * 4, none⟩ (.string d.f)).setCell ⟨g, k * 4 + 1, none⟩ (.int .i64 d.a)).setCell ⟨g, k * 4 + 2, none⟩ (.int .i64 d.c)).setCell ⟨g, k * 4 + 3, none⟩ (.string d.t)
/-- Of what was there, all blocks but g hold what they held; no block has gone. -/
structure Kp (K : Nat → Prop) (w w' : World) : Prop where
  os : w'.os = w.os
  tape : w'.tape = w.tape
  output : w'.output = w.output
  size : w.heap.size ≤ w'.heap.size
  block : ∀ k, K k → k < w.heap.size → w'.heap[k]? = w.heap[k]?
theorem Kp.refl (K : Nat → Prop) (w : World) : Kp K w w := ⟨rfl, rfl, rfl, Nat.le_refl _, fun _ _ _ => rfl⟩
theorem Kp.trans {K : Nat → Prop} {a b c : World} (h : Kp K a b) (k : Kp K b c) : Kp K a c :=
  ⟨k.os.trans h.os, k.tape.trans h.tape, k.output.trans h.output, Nat.le_trans h.size k.size, fun i hi hl => (k.block i hi (Nat.lt_of_lt_of_le hl h.size)).trans (h.block i hi hl)⟩
theorem kp_of {K : Nat → Prop} {w w' : World} (h : Go.RowKit.Below w.heap.size w w') : Kp K w w' := ⟨h.os, h.tape, h.output, h.size, fun k _ hl => h.block k hl⟩
theorem Kp.setCell {K : Nat → Prop} {a w : World} (h : Kp K a w) {p : Addr} (hp : ¬ K p.block) (u : Value) : Kp K a (w.setCell p u) :=
  h.trans ⟨rfl, rfl, rfl, by simp [World.setCell], fun k hk _ => Go.RowKit.Below.heap_setCell _ _ _ _ (fun e => hp (e ▸ hk))⟩
theorem Kp.cell {K : Nat → Prop} {w w' : World} (h : Kp K w w') {p : Addr} (hp : K p.block) (hl : p.block < w.heap.size) : w'.cell? p = w.cell? p := World.cell?_of_block (w := w) (h.block p.block hp hl)
theorem Kp.frozen {K : Nat → Prop} {w w' : World} (h : Kp K w w') {p : Addr} (hp : K p.block) (hl : p.block < w.heap.size) : w'.frozen? p = w.frozen? p := World.frozen?_of_block (w := w) (h.block p.block hp hl)
theorem set4_kp {K : Nat → Prop} (w : World) {g : Nat} (hg : ¬ K g) (k : Nat) (d : DiagD) : Kp K w (set4 w g k d) :=
  ((((Kp.refl K w).setCell hg _).setCell hg _).setCell hg _).setCell hg _
theorem off_neD {g o o' : Nat} (h : o ≠ o') : (⟨g, o, none⟩ : Addr) ≠ ⟨g, o', none⟩ := fun e => h (by injection e)
theorem set_sameD {w : World} {p : Addr} {u : Value} (h : ∃ v, w.cell? p = some v) : (w.setCell p u).cell? p = some u := by
  obtain ⟨v, hv⟩ := h
  exact World.cell?_setCell_same _ _ _ hv
theorem some_setD {w : World} {p q : Addr} {u : Value} (h : ∃ v, w.cell? p = some v) : ∃ v, (w.setCell q u).cell? p = some v := by
  obtain ⟨v, hv⟩ := h
  by_cases e : p = q
  · subst e; exact ⟨u, set_sameD ⟨v, hv⟩⟩
  · exact ⟨v, (World.cell?_setCell_other _ _ _ _ (fun h => e h.symm)).trans hv⟩
/-- What is read at the four places of k, and elsewhere. -/
theorem set4_at {w : World} {g k : Nat} {d : DiagD} (h0 : ∃ v, w.cell? ⟨g, k * 4, none⟩ = some v) (h1 : ∃ v, w.cell? ⟨g, k * 4 + 1, none⟩ = some v) (h2 : ∃ v, w.cell? ⟨g, k * 4 + 2, none⟩ = some v) (h3 : ∃ v, w.cell? ⟨g, k * 4 + 3, none⟩ = some v) :
    (set4 w g k d).cell? ⟨g, k * 4, none⟩ = some (.string d.f) ∧ (set4 w g k d).cell? ⟨g, k * 4 + 1, none⟩ = some (.int .i64 d.a) ∧ (set4 w g k d).cell? ⟨g, k * 4 + 2, none⟩ = some (.int .i64 d.c) ∧ (set4 w g k d).cell? ⟨g, k * 4 + 3, none⟩ = some (.string d.t) := by
  unfold set4
  refine ⟨?_, ?_, ?_, ?_⟩
  · rw [World.cell?_setCell_other _ _ _ _ (off_neD (by omega)), World.cell?_setCell_other _ _ _ _ (off_neD (by omega)), World.cell?_setCell_other _ _ _ _ (off_neD (by omega))]
    exact set_sameD h0
  · rw [World.cell?_setCell_other _ _ _ _ (off_neD (by omega)), World.cell?_setCell_other _ _ _ _ (off_neD (by omega))]
    exact set_sameD (some_setD h1)
  · rw [World.cell?_setCell_other _ _ _ _ (off_neD (by omega))]
    exact set_sameD (some_setD (some_setD h2))
  · exact set_sameD (some_setD (some_setD (some_setD h3)))
theorem set4_off {w : World} {g k o : Nat} {d : DiagD} (h : o < k * 4 ∨ k * 4 + 3 < o) : (set4 w g k d).cell? ⟨g, o, none⟩ = w.cell? ⟨g, o, none⟩ := by
  unfold set4
  rw [World.cell?_setCell_other _ _ _ _ (off_neD (by omega)), World.cell?_setCell_other _ _ _ _ (off_neD (by omega)), World.cell?_setCell_other _ _ _ _ (off_neD (by omega)), World.cell?_setCell_other _ _ _ _ (off_neD (by omega))]
theorem Row.set {w : World} {g n : Nat} {f : Nat → DiagD} (h : Row w g n f) {k : Nat} (hk : k < n) (d : DiagD) : Row (set4 w g k d) g n (upd f k d) := by
  obtain ⟨a0, a1, a2, a3⟩ := set4_at (d := d) ⟨_, h.c0 k hk⟩ ⟨_, h.c1 k hk⟩ ⟨_, h.c2 k hk⟩ ⟨_, h.c3 k hk⟩
  refine ⟨fun j hj => ?_, fun j hj => ?_, fun j hj => ?_, fun j hj => ?_, fun j => ?_⟩
  · by_cases e : j = k
    · subst e; unfold upd; rw [if_pos rfl]; exact a0
    · unfold upd; rw [if_neg e, set4_off (by omega)]; exact h.c0 j hj
  · by_cases e : j = k
    · subst e; unfold upd; rw [if_pos rfl]; exact a1
    · unfold upd; rw [if_neg e, set4_off (by omega)]; exact h.c1 j hj
  · by_cases e : j = k
    · subst e; unfold upd; rw [if_pos rfl]; exact a2
    · unfold upd; rw [if_neg e, set4_off (by omega)]; exact h.c2 j hj
  · by_cases e : j = k
    · subst e; unfold upd; rw [if_pos rfl]; exact a3
    · unfold upd; rw [if_neg e, set4_off (by omega)]; exact h.c3 j hj
  · unfold set4
    simp only [World.frozen?_setCell]
    exact h.fz j
/-- Two places of the row changed for one another, the first one stored first. -/
theorem Row.swap {w : World} {g n : Nat} {f : Nat → DiagD} (h : Row w g n f) {i j : Nat} (hi : i < n) (hj : j < n) (hne : i ≠ j) : Row (set4 (set4 w g i (f j)) g j (f i)) g n (swp f i j) := by
  refine ((h.set hi (f j)).set hj (f i)).ext fun k _ => ?_
  unfold swp upd
  by_cases h1 : k = j
  · subst h1; rw [if_neg (fun e => hne e.symm), if_pos rfl, if_pos rfl]
  · rw [if_neg h1, if_neg h1]
end Go.Proofs.YteghbblbkljdhaaDoor
