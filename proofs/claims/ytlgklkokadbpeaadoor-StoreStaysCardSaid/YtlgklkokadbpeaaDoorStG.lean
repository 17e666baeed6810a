import Derived.Test.YtlgklkokadbpeaaDoorStF
namespace Go.Proofs.YtlgklkokadbpeaaDoor
open Go.RowKit Go.Maps Go.ChangeMaps
/-- A file put among files that rise by their names. -/
def insF (f : Fi) : List Fi → List Fi
  | [] => [f]
  | g :: r => if (lk f.n).before (lk g.n) then f :: g :: r else g :: insF f r
def putL (L : List Fi) (f : Fi) : List Fi := insF f (without L f.n)
theorem ins_dat (f : Fi) : ∀ L : List Fi, DataW.insert (lk f.n, f.dat) (L.map fun f => (lk f.n, f.dat)) = (insF f L).map fun f => (lk f.n, f.dat)
  | [] => rfl
  | g :: r => by
    rw [List.map_cons, DataW.insert, insF]
    by_cases h : (lk f.n).before (lk g.n) = true
    · rw [if_pos h, if_pos h]; rfl
    · rw [if_neg h, if_neg h, ins_dat f r]; rfl
theorem put_dat (L : List Fi) (f : Fi) : (dat L).put (lk f.n) f.dat = dat (putL L f) := by
  have h := del_dat L f.n
  unfold dat DataW.del at h
  simp only [DataW.map.injEq] at h
  unfold dat DataW.put putL
  simp only [DataW.map.injEq]
  rw [h]
  exact ins_dat f _
/-- The store with its map in block R. -/
structure Stm (W : World) (B : Nat → Prop) (b R : Nat) (L : List Fi) (n : Int) : Prop where
  c0 : W.cell? ⟨b, 0, none⟩ = some (.int .i64 n)
  c1 : W.cell? ⟨b, 1, none⟩ = some (.map (some R))
  own : W.ownsMap Tryd.prog 9 fileR R L.length (dat L)
  fz : ∀ k, W.frozen? ⟨b, k, none⟩ = false
  ge : ¬ B b
  BR : ¬ B R
  ne : R ≠ b
theorem Stm.st {W : World} {B : Nat → Prop} {b R : Nat} {L : List Fi} {n : Int} (h : Stm W B b R L n) : St W B b L n := ⟨h.c0, .inr ⟨R, h.c1, h.own, h.BR, h.ne⟩, h.fz, h.ge⟩
theorem Stm.later {W W' : World} {B : Nat → Prop} {b R : Nat} {L : List Fi} {n : Int} (h : Stm W B b R L n) (hb : Below W.heap.size W W') : Stm W' B b R L n :=
  ⟨cell_later hb h.c0, cell_later hb h.c1, own_below h.own hb, fun k => (hb.frozen (p := ⟨b, k, none⟩) (show b < W.heap.size from World.block_lt_of_cell? W ⟨b, 0, none⟩ h.c0)).trans (h.fz k), h.ge, h.BR, h.ne⟩
theorem Stm.count {W : World} {B : Nat → Prop} {b R : Nat} {L : List Fi} {n : Int} (h : Stm W B b R L n) (hn : 0 ≤ n) (hm : n ≤ 1000000000000000) :
    Calls Tryd.prog 48 #[.pointer (some ⟨b, 0, none⟩)] W fun e w' => e = .returned (.int .i64 (n + 1)) ∧ Stm w' B b R L (n + 1) ∧ Kp B W w' := by
  refine (count_any W b n h.c0 (h.fz 0) hn hm).mono ?_
  rintro e w' ⟨he, rfl⟩
  refine ⟨he, ⟨World.cell?_setCell_same _ _ _ h.c0, (World.cell?_setCell_other _ _ _ _ (by simp)).trans h.c1, h.own.setCell h.ne _, fun k => by rw [World.frozen?_setCell]; exact h.fz k, h.ge, h.BR, h.ne⟩, (Kp.refl _ _).setCell h.ge _⟩
theorem small_max : 1000 < maxLen := by decide
/-- A file is laid into the map. -/
theorem Stm.put {W : World} {B : Nat → Prop} {b R : Nat} {L : List Fi} {n : Int} (h : Stm W B b R L n) (hL : L.length ≤ 1000) (s t : ByteArray) (v : Int) (hs : s.size ≤ maxLen) :
    ∃ w', (Instr.mapUpdate 50 (.map (some R)) (.string s) (.agg #[.string s, .string t, .int .i64 v])).run Tryd.prog W = .ok () w' ∧ Stm w' B b R (putL L ⟨s, t, v⟩) n ∧ Kp B W w' := by
  obtain ⟨w', hrun, ho, hg⟩ := h.own.update (string_keyed Tryd.underlying9) Tryd.underlying50 (Nat.lt_of_le_of_lt hL small_max) (key_of s hs) (fileR_val ⟨s, t, v⟩)
  rw [put_dat L ⟨s, t, v⟩] at ho
  have hlt : b < W.heap.size := World.block_lt_of_cell? _ _ h.c0
  have e : w'.heap[b]? = W.heap[b]? := hg.block b hlt (fun e => h.ne (Option.some.inj e).symm)
  exact ⟨w', hrun, ⟨(World.cell?_of_block (a := ⟨b, 0, none⟩) e).trans h.c0, (World.cell?_of_block (a := ⟨b, 1, none⟩) e).trans h.c1, sizes_eq ho, fun k => (World.frozen?_of_block (a := ⟨b, k, none⟩) e).trans (h.fz k), h.ge, h.BR, h.ne⟩, ⟨hg.os, hg.tape, hg.output, hg.size, fun k hk hl => hg.block k hl (fun e => h.BR ((Option.some.inj e) ▸ hk))⟩⟩
end Go.Proofs.YtlgklkokadbpeaaDoor
