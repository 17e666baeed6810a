import Derived.Test.YtnnjbgjhhbmfgaaGreatDoorTyP
import Derived.ArgAppend
namespace Go.Proofs.YtnnjbgjhhbmfgaaGreatDoor
open Go.RowKit
/-- A block of one's own that begins with types, and holds room for c. -/
structure InT (K : Nat → Prop) (w0 w : World) (g c : Nat) (ts : List Ty) : Prop where
  le : ts.length ≤ c
  mx : c ≤ maxLen
  blk : ∃ cur, w.heap[g]? = some (.cells cur 26 (0, 0)) ∧ cur.size = c * 6
  reps : ∀ (i : Nat) (t : Ty), ts[i]? = some t → ∃ cs, RepT K w0 t cs ∧ ∀ (j : Nat) (u : Value), cs[j]? = some u → w.cell? ⟨g, i * 6 + j, none⟩ = some u
theorem InT.lt {K : Nat → Prop} {w0 w : World} {g c : Nat} {ts : List Ty} (h : InT K w0 w g c ts) : g < w.heap.size := by
  obtain ⟨cur, h1, _⟩ := h.blk
  exact (Array.getElem?_eq_some_iff.1 h1).1
theorem InT.there {K : Nat → Prop} {w0 w : World} {g c : Nat} {ts : List Ty} (h : InT K w0 w g c ts) {j : Nat} (hj : j < c * 6) : (w.cell? ⟨g, j, none⟩).isSome = true ∧ w.frozen? ⟨g, j, none⟩ = false := by
  obtain ⟨cur, h1, h2⟩ := h.blk
  refine ⟨?_, Lib.frozen_of_heap h1 j⟩
  rw [cell_of_row _ _ _ _ _ _ h1, Array.getElem?_eq_getElem (by omega)]
  rfl
theorem InT.keep {K : Nat → Prop} {w0 w w' : World} {g c : Nat} {ts : List Ty} (h : InT K w0 w g c ts) (hk : w'.heap[g]? = w.heap[g]?) : InT K w0 w' g c ts :=
  ⟨h.le, h.mx, by rw [hk]; exact h.blk, fun i t hi => by
    obtain ⟨cs, h1, h2⟩ := h.reps i t hi
    exact ⟨cs, h1, fun j u hj => (World.cell?_of_block (a := ⟨g, i * 6 + j, none⟩) hk).trans (h2 j u hj)⟩⟩
theorem InT.later {K : Nat → Prop} {w0 w w' : World} {g c : Nat} {ts : List Ty} (h : InT K w0 w g c ts) (hb : Below w.heap.size w w') : InT K w0 w' g c ts := h.keep (hb.block g h.lt)
theorem InT.of_out {K : Nat → Prop} {w0 w : World} {v : Value} {ts : List Ty} (h : OutT K w0 w v ts) : (v = .slice none 0 0 ∧ ts = []) ∨ ∃ g c, v = .slice (some ⟨g, 0, none⟩) ts.length c ∧ w0.heap.size ≤ g ∧ InT K w0 w g c ts := by
  obtain ⟨vs, ⟨h1, h2⟩, h3⟩ := h
  rcases h2 with ⟨hv, hn⟩ | ⟨g, cap, cur, hv, hg, hh, hc, hm, hs, ht⟩
  · exact .inl ⟨hv, List.eq_nil_of_length_eq_zero hn⟩
  · refine .inr ⟨g, cap, hv, hg, hc, hm, ⟨cur, hh, hs⟩, fun i t hi => ?_⟩
    obtain ⟨hlt, rfl⟩ := List.getElem?_eq_some_iff.1 hi
    obtain ⟨cs, h4, h5⟩ := h3 i hlt
    refine ⟨cs, h4, fun j u hj => ?_⟩
    have h6 := h5 j u hj
    rw [cell_of_row _ _ _ _ _ _ hh]
    rw [← ht, List.getElem?_take] at h6
    split at h6
    · simpa using h6
    · cases h6
theorem row_set (g : Nat) {T : TypeId} : ∀ (vs : List Value) (o : Nat) (w : World), (∃ cur n, w.heap[g]? = some (.cells cur T (0, 0)) ∧ cur.size = n) → ∀ n, (∃ cur, w.heap[g]? = some (.cells cur T (0, 0)) ∧ cur.size = n) → ∃ cur, (w.setCells g o vs).heap[g]? = some (.cells cur T (0, 0)) ∧ cur.size = n
  | [], _, _, _, _, h => h
  | v :: vs, o, w, hx, n, ⟨cur, h1, h2⟩ => by
    have h3 := Go.heap_setCell_same w g o _ _ v h1
    exact row_set g vs (o + 1) _ ⟨_, _, h3, rfl⟩ n ⟨_, h3, by rw [Array.size_setIfInBounds]; exact h2⟩
/-- A type laid behind those that are kept. -/
theorem InT.put {K : Nat → Prop} {w0 w : World} {g c : Nat} {F ts : List Ty} {t : Ty} {cs : List Value} (h : InT K w0 w g c (F ++ ts.drop F.length)) (hF : F.length < ts.length) (ht : RepT K w0 t cs) :
    InT K w0 (w.setCells g (F.length * 6) cs) g c ((F ++ [t]) ++ ts.drop (F ++ [t]).length) := by
  have h6 := ht.six
  have hle := h.le
  simp only [List.length_append, List.length_drop] at hle
  have hin : ∀ j, j < cs.length → (w.cell? ⟨g, F.length * 6 + j, none⟩).isSome = true := fun j hj => (h.there (by omega)).1
  obtain ⟨cur, hc1, hc2⟩ := h.blk
  refine ⟨by simp; omega, h.mx, row_set g cs _ w ⟨_, _, hc1, rfl⟩ _ ⟨_, hc1, hc2⟩, fun i x hi => ?_⟩
  have hout : i ≠ F.length → (F ++ ts.drop F.length)[i]? = some x → ∃ cs', RepT K w0 x cs' ∧ ∀ (j : Nat) (u : Value), cs'[j]? = some u → (w.setCells g (F.length * 6) cs).cell? ⟨g, i * 6 + j, none⟩ = some u := by
    intro hne hx
    obtain ⟨cs', h1, h2⟩ := h.reps i x hx
    refine ⟨cs', h1, fun j u hj => ?_⟩
    have hj6 := (List.getElem?_eq_some_iff.1 hj).1
    rw [h1.six] at hj6
    rw [World.cell?_setCells_out g cs _ w ⟨g, i * 6 + j, none⟩ (fun _ _ => by show i * 6 + j < _ ∨ _ ≤ i * 6 + j; omega)]
    exact h2 j u hj
  rw [List.length_append, List.length_singleton] at hi
  rcases Nat.lt_trichotomy i F.length with hlt | heq | hgt
  · refine hout (by omega) ?_
    rw [List.append_assoc, List.getElem?_append_left hlt] at hi
    rw [List.getElem?_append_left hlt]
    exact hi
  · subst heq
    rw [List.append_assoc, List.getElem?_append_right (Nat.le_refl _), Nat.sub_self] at hi
    injection hi with hi
    subst hi
    refine ⟨cs, ht, fun j u hj => ?_⟩
    have hj6 := (List.getElem?_eq_some_iff.1 hj)
    rw [World.cell?_setCells_in g cs _ w hin j hj6.1, hj6.2]
  · refine hout (by omega) ?_
    rw [List.getElem?_append_right (by simp; omega), List.getElem?_drop] at hi
    rw [List.getElem?_append_right (by omega), List.getElem?_drop]
    rw [← hi]
    congr 1
    simp
    omega
/-- Neighbours that are one are left out. -/
def dedupT : List Ty → List Ty
  | [] => []
  | a :: l => match l with
    | [] => [a]
    | b :: _ => if ordT a b = 0 then dedupT l else a :: dedupT l
/-- Types that don't fall. -/
def Wk (l : List Ty) : Prop := l.Pairwise fun a b => ordT a b ≤ 0
theorem mem_dedup (x : Ty) : ∀ l, x ∈ dedupT l ↔ x ∈ l
  | [] => Iff.rfl
  | [a] => Iff.rfl
  | a :: b :: l => by
    rw [dedupT]
    have ih := mem_dedup x (b :: l)
    split
    · rename_i h
      rw [ih, ordT_zero.1 h]
      simp
    · rw [List.mem_cons, ih]
      simp only [List.mem_cons]
theorem asc_dedup : ∀ {l}, Wk l → Asc (dedupT l)
  | [], _ => List.Pairwise.nil
  | [a], _ => by simp [dedupT, Asc]
  | a :: b :: l, h => by
    obtain ⟨h1, h2⟩ := List.pairwise_cons.1 h
    have ih := asc_dedup h2
    rw [dedupT]
    split
    · exact ih
    · rename_i h3
      have hab : ordT a b = -1 := by
        have := h1 b (List.mem_cons_self ..)
        rcases ordT_bd a b with e | e | e
        · exact e
        · exact absurd e h3
        · omega
      refine List.pairwise_cons.2 ⟨fun x hx => ?_, ih⟩
      rcases List.mem_cons.1 ((mem_dedup x (b :: l)).1 hx) with rfl | hx2
      · exact hab
      · have hbx := (List.pairwise_cons.1 h2).1 x hx2
        rcases ordT_bd b x with e | e | e
        · exact ordT_trans hab e
        · rw [← ordT_zero.1 e]; exact hab
        · omega
theorem sort_dedup {l s : List Ty} (hs : Wk s) (hm : ∀ x, x ∈ s ↔ x ∈ l) : sortT l = dedupT s := sortT_of (asc_dedup hs) fun x => (mem_dedup x s).trans (hm x)
end Go.Proofs.YtnnjbgjhhbmfgaaGreatDoor
