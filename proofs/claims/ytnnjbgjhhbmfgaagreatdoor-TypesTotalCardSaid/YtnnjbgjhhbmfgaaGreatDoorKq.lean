import Derived.KernelRfl
import Derived.WalkKit
import Derived.WalkLawsBesides
import Derived.Below
import Derived.Lib.Hide
namespace Go.Proofs.YtnnjbgjhhbmfgaaGreatDoor
open Go.RowKit
theorem cell_later2 {w w' : World} {p : Addr} {v : Value} (hb : Go.RowKit.Below w.heap.size w w') (h : w.cell? p = some v) : w'.cell? p = some v :=
  (hb.cell (World.block_lt_of_cell? _ _ h)).trans h
/-- Of what was there, all blocks but g hold what they held; no block has gone. -/
structure Kp (K : Nat → Prop) (w w' : World) : Prop where
  os : w'.os = w.os
  tape : w'.tape = w.tape
  output : w'.output = w.output
  size : w.heap.size ≤ w'.heap.size
  block : ∀ k, K k → k < w.heap.size → w'.heap[k]? = w.heap[k]?
theorem Kp.refl (K : Nat → Prop) (w : World) : Kp K w w := ⟨rfl, rfl, rfl, Nat.le_refl _, fun _ _ _ => rfl⟩
theorem Kp.trans {K : Nat → Prop} {a b c : World} (h : Kp K a b) (k : Kp K b c) : Kp K a c :=
  ⟨k.os.trans h.os, k.tape.trans h.tape, k.output.trans h.output, Nat.le_trans h.size k.size, fun i hi hl => (k.block i hi (Nat.lt_of_lt_of_le hl h.size)).trans (h.block i hi hl)⟩
theorem kp_of {K : Nat → Prop} {w w' : World} (h : Go.RowKit.Below w.heap.size w w') : Kp K w w' := ⟨h.os, h.tape, h.output, h.size, fun k _ hl => h.block k hl⟩
theorem Kp.setCell {K : Nat → Prop} {a w : World} (h : Kp K a w) {p : Addr} (hp : ¬ K p.block) (u : Value) : Kp K a (w.setCell p u) :=
  h.trans ⟨rfl, rfl, rfl, by simp [World.setCell], fun k hk _ => Go.RowKit.Below.heap_setCell _ _ _ _ (fun e => hp (e ▸ hk))⟩
theorem Kp.cell {K : Nat → Prop} {w w' : World} (h : Kp K w w') {p : Addr} (hp : K p.block) (hl : p.block < w.heap.size) : w'.cell? p = w.cell? p := World.cell?_of_block (w := w) (h.block p.block hp hl)
theorem Kp.frozen {K : Nat → Prop} {w w' : World} (h : Kp K w w') {p : Addr} (hp : K p.block) (hl : p.block < w.heap.size) : w'.frozen? p = w.frozen? p := World.frozen?_of_block (w := w) (h.block p.block hp hl)
theorem off_neD {g o o' : Nat} (h : o ≠ o') : (⟨g, o, none⟩ : Addr) ≠ ⟨g, o', none⟩ := fun e => h (by injection e)
theorem set_sameD {w : World} {p : Addr} {u : Value} (h : ∃ v, w.cell? p = some v) : (w.setCell p u).cell? p = some u := by
  obtain ⟨v, hv⟩ := h
  exact World.cell?_setCell_same _ _ _ hv
theorem some_setD {w : World} {p q : Addr} {u : Value} (h : ∃ v, w.cell? p = some v) : ∃ v, (w.setCell q u).cell? p = some v := by
  obtain ⟨v, hv⟩ := h
  by_cases e : p = q
  · subst e; exact ⟨u, set_sameD ⟨v, hv⟩⟩
  · exact ⟨v, (World.cell?_setCell_other _ _ _ _ (fun h => e h.symm)).trans hv⟩
end Go.Proofs.YtnnjbgjhhbmfgaaGreatDoor
