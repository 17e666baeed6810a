import Derived.Test.YteakkjhcdpbidaaGreatDoorMk14
import Derived.Test.YteakkjhcdpbidaaGreatDoorMk17
import Derived.Lib.SliceRun
namespace Go.Proofs.YteakkjhcdpbidaaGreatDoor
set_option maxRecDepth 100000
set_option maxHeartbeats 64000000
open Go.RowKit
def zeroT6 : Array Value := #[.int .i64 0, .string ⟨#[]⟩, .int .i64 0, .slice none 0 0, .slice none 0 0, .slice none 0 0]
theorem make_types (n : Nat) (hn : n ≤ 1099511627776) (w : World) : (Instr.makeSlice 22 (.int .i64 (n : Int)) (.int .i64 (n : Int))).run Tryz.prog w = .ok (.slice (some ⟨w.heap.size, 0, none⟩) n n) (w.alloc (.cells (madeCells zeroT6 (n * 6)) 26)) := by
 obtain ⟨i0, hi0, hz0, hz1, hz2⟩ := partsT infoTy
 have hr := run_make (P := Tryz.prog) w 22 26 i0 _ Tryz.underlying22 hi0 hz0 .i64 .i64 n n (by omega) (Int.le_refl _) (by rw [hz2]; omega) (by omega)
 simp only [Int.toNat_natCast, hz1] at hr
 exact hr
theorem some_set {w : World} {p r : Addr} {u : Value} (h : ∃ v, w.cell? p = some v) : ∃ v, (w.setCell r u).cell? p = some v := by
 obtain ⟨v, hv⟩ := h
 by_cases e : r = p
 ·subst e
  exact ⟨u, World.cell?_setCell_same _ _ _ hv⟩
 ·exact ⟨v, (World.cell?_setCell_other _ _ _ _ e).trans hv⟩
theorem set_same {w : World} {p : Addr} {u : Value} (h : ∃ v, w.cell? p = some v) : (w.setCell p u).cell? p = some u := by
 obtain ⟨v, hv⟩ := h
 exact World.cell?_setCell_same _ _ _ hv
theorem off_ne {g a b : Nat} (h : a ≠ b) : (⟨g, a, none⟩ : Addr) ≠ ⟨g, b, none⟩ := fun e => by
 injection e with _ e2 _
 exact h e2
def put6 (w : World) (g y : Nat) (v0 v1 v2 v3 v4 v5 : Value) : World := (((((w.setCell ⟨g, y, none⟩ v0).setCell ⟨g, y + 1, none⟩ v1).setCell ⟨g, y + 2, none⟩ v2).setCell ⟨g, y + 3, none⟩ v3).setCell ⟨g, y + 4, none⟩ v4).setCell ⟨g, y + 5, none⟩ v5
theorem put6_other {w : World} {g y : Nat} {v0 v1 v2 v3 v4 v5 : Value} {p : Addr} (h : p.block ≠ g ∨ p.off < y) : (put6 w g y v0 v1 v2 v3 v4 v5).cell? p = w.cell? p := by
 have hne : ∀ i, (⟨g, y + i, none⟩ : Addr) ≠ p := fun i e => by
  subst e
  rcases h with h | h
  ·exact h rfl
  ·have h : y + i < y := h
   omega
 unfold put6
 rw [World.cell?_setCell_other _ _ _ _ (hne 5), World.cell?_setCell_other _ _ _ _ (hne 4), World.cell?_setCell_other _ _ _ _ (hne 3), World.cell?_setCell_other _ _ _ _ (hne 2), World.cell?_setCell_other _ _ _ _ (hne 1), World.cell?_setCell_other _ _ _ _ (show (⟨g, y, none⟩ : Addr) ≠ p from hne 0)]
theorem put6_at {w : World} {g y : Nat} {v0 v1 v2 v3 v4 v5 : Value} (h : ∀ x, x < 6 → ∃ v, w.cell? ⟨g, y + x, none⟩ = some v) :
  ∀ x u, ([v0, v1, v2, v3, v4, v5] : List Value)[x]? = some u → (put6 w g y v0 v1 v2 v3 v4 v5).cell? ⟨g, y + x, none⟩ = some u := by
 intro x u hu
 unfold put6
 rcases x with _ | _ | _ | _ | _ | _ | x
 ·obtain rfl : v0 = u := by simpa using hu
  rw [World.cell?_setCell_other _ _ _ _ (off_ne (by omega)), World.cell?_setCell_other _ _ _ _ (off_ne (by omega)), World.cell?_setCell_other _ _ _ _ (off_ne (by omega)), World.cell?_setCell_other _ _ _ _ (off_ne (by omega)), World.cell?_setCell_other _ _ _ _ (off_ne (by omega))]
  exact set_same (h 0 (by omega))
 ·obtain rfl : v1 = u := by simpa using hu
  rw [World.cell?_setCell_other _ _ _ _ (off_ne (by omega)), World.cell?_setCell_other _ _ _ _ (off_ne (by omega)), World.cell?_setCell_other _ _ _ _ (off_ne (by omega)), World.cell?_setCell_other _ _ _ _ (off_ne (by omega))]
  exact set_same (some_set (h 1 (by omega)))
 ·obtain rfl : v2 = u := by simpa using hu
  rw [World.cell?_setCell_other _ _ _ _ (off_ne (by omega)), World.cell?_setCell_other _ _ _ _ (off_ne (by omega)), World.cell?_setCell_other _ _ _ _ (off_ne (by omega))]
  exact set_same (some_set (some_set (h 2 (by omega))))
 ·obtain rfl : v3 = u := by simpa using hu
  rw [World.cell?_setCell_other _ _ _ _ (off_ne (by omega)), World.cell?_setCell_other _ _ _ _ (off_ne (by omega))]
  exact set_same (some_set (some_set (some_set (h 3 (by omega)))))
 ·obtain rfl : v4 = u := by simpa using hu
  rw [World.cell?_setCell_other _ _ _ _ (off_ne (by omega))]
  exact set_same (some_set (some_set (some_set (some_set (h 4 (by omega))))))
 ·obtain rfl : v5 = u := by simpa using hu
  exact set_same (some_set (some_set (some_set (some_set (some_set (h 5 (by omega)))))))
 ·simp at hu
theorem put6_size (w : World) (g y : Nat) (v0 v1 v2 v3 v4 v5 : Value) : (put6 w g y v0 v1 v2 v3 v4 v5).heap.size = w.heap.size := by simp [put6]
theorem put6_below {B g y : Nat} {a w : World} (h : Below B a w) (hb : B ≤ g) (v0 v1 v2 v3 v4 v5 : Value) : Below B a (put6 w g y v0 v1 v2 v3 v4 v5) := (((((h.setCell hb v0).setCell hb v1).setCell hb v2).setCell hb v3).setCell hb v4).setCell hb v5
structure FillT (K : Nat → Prop) (w : World) (g q : Nat) (S : List Ty) : Prop where
 lt : g < w.heap.size
 cell : ∀ y, y < q * 6 → ∃ v, w.cell? ⟨g, y, none⟩ = some v
 free : ∀ y, w.frozen? ⟨g, y, none⟩ = false
 reps : ∀ i (h : i < S.length), ∃ cs, RepT (fun b => K b ∨ g < b) w S[i] cs ∧ ∀ j u, cs[j]? = some u → w.cell? ⟨g, i * 6 + j, none⟩ = some u
theorem FillT.start (K : Nat → Prop) (w : World) (n : Nat) : FillT K (w.alloc (.cells (madeCells zeroT6 (n * 6)) 26)) w.heap.size n [] := by
 refine ⟨by simp, fun y hy => ?_, fun y => by simp, fun i h => absurd h (by simp)⟩
 have hs : y < (madeCells zeroT6 (n * 6)).size := by rw [size_madeCells]; exact hy
 exact ⟨(madeCells zeroT6 (n * 6))[y], by rw [cell_of_row _ _ _ _ _ _ (heap_alloc_new w _)]; exact Array.getElem?_eq_getElem hs⟩
theorem FillT.below {K : Nat → Prop} {w w' : World} {g q : Nat} {S : List Ty} (h : FillT K w g q S) (hb : Below w.heap.size w w') : FillT K w' g q S :=
 ⟨by have := h.lt; have := hb.size; omega, fun y hy => by obtain ⟨v, hv⟩ := h.cell y hy; exact ⟨v, cell_stays hb hv⟩, fun y => (hb.frozen (p := ⟨g, y, none⟩) h.lt).trans (h.free y),
  fun i hi => by obtain ⟨cs, h1, h2⟩ := h.reps i hi; exact ⟨cs, h1.later hb, fun j u hj => cell_stays hb (h2 j u hj)⟩⟩
theorem FillT.put {K : Nat → Prop} {w : World} {g q : Nat} {S : List Ty} {t : Ty} {v0 v1 v2 v3 v4 v5 : Value} (h : FillT K w g q S) (hlo : ∀ b, K b → b < g) (hj : S.length < q) (ht : RepT (fun b => K b ∨ g < b) w t [v0, v1, v2, v3, v4, v5]) :
  FillT K (put6 w g (S.length * 6) v0 v1 v2 v3 v4 v5) g q (S ++ [t]) := by
 have hkeep : ∀ {t : Ty} {cs : List Value}, RepT (fun b => K b ∨ g < b) w t cs → RepT (fun b => K b ∨ g < b) (put6 w g (S.length * 6) v0 v1 v2 v3 v4 v5) t cs := fun {t cs} hr =>
  RepT.keep (fun _ h => h) (fun b o v hk hc => by
   rw [put6_other (.inl ?_)]
   ·exact hc
   ·show b ≠ g
    rcases hk with hk | hk
    ·have := hlo b hk; omega
    ·omega) t cs hr
 refine ⟨by rw [put6_size]; exact h.lt, fun y hy => ?_, fun y => ?_, fun i hi => ?_⟩
 ·exact some_set (some_set (some_set (some_set (some_set (some_set (h.cell y hy))))))
 ·simp only [put6, World.frozen?_setCell]
  exact h.free y
 ·rw [List.length_append, List.length_singleton] at hi
  by_cases hlt : i < S.length
  ·obtain ⟨cs, h1, h2⟩ := h.reps i hlt
   have h6 := h1.six
   refine ⟨cs, by rw [List.getElem_append_left hlt]; exact hkeep h1, fun j u hj' => ?_⟩
   have hj6 := (List.getElem?_eq_some_iff.1 hj').1
   rw [put6_other (.inr (by show i * 6 + j < S.length * 6; omega))]
   exact h2 j u hj'
  ·obtain rfl : i = S.length := by omega
   refine ⟨_, by rw [List.getElem_append_right (by omega)]; simpa using hkeep ht, fun j u hj' => put6_at (fun x hx => h.cell _ (by omega)) j u hj'⟩
theorem FillT.list {K : Nat → Prop} {w : World} {g : Nat} {S : List Ty} (h : FillT K w g S.length S) (hl : S.length ≤ 1000000000000000) : ListT (fun b => K b ∨ g ≤ b) w S (some ⟨g, 0, none⟩) S.length :=
 ⟨g, 0, ⟨Nat.le_refl _, hl, (fun h => by cases h), fun _ => ⟨rfl, .inr (Nat.le_refl _)⟩⟩, fun i hi => by
  obtain ⟨cs, h1, h2⟩ := h.reps i hi
  exact ⟨cs, fun j u hj => by rw [Nat.zero_add]; exact h2 j u hj, h1.weak fun b hb => hb.imp id fun hb => Nat.le_of_lt hb⟩⟩
theorem InT.sixAt {K : Nat → Prop} {w0 w : World} {g c : Nat} {s : List Ty} (h : InT K w0 w g c s) {i : Nat} {t : Ty} (hi : s[i]? = some t) : ∃ x0 x1 x2 x3 x4 x5 x6 x7 x8 x9 xa xb, (w.cell? ⟨g, i * 6, none⟩ = some (.int .i64 x0) ∧ w.cell? ⟨g, i * 6 + 1, none⟩ = some (.string x1) ∧ w.cell? ⟨g, i * 6 + 2, none⟩ = some (.int .i64 x2) ∧ w.cell? ⟨g, i * 6 + 3, none⟩ = some (.slice x3 x4 x5) ∧ w.cell? ⟨g, i * 6 + 4, none⟩ = some (.slice x6 x7 x8) ∧ w.cell? ⟨g, i * 6 + 5, none⟩ = some (.slice x9 xa xb)) ∧ RepT K w0 t [.int .i64 x0, .string x1, .int .i64 x2, .slice x3 x4 x5, .slice x6 x7 x8, .slice x9 xa xb] := by
 obtain ⟨cs, h1, h2⟩ := h.reps i t hi
 obtain ⟨k, z, n, ps, fs, vs⟩ := t
 obtain ⟨A, c, A', c', A'', c'', rfl, _⟩ := h1.inv
 exact ⟨_, _, _, _, _, _, _, _, _, _, _, _, ⟨h2 0 _ rfl, h2 1 _ rfl, h2 2 _ rfl, h2 3 _ rfl, h2 4 _ rfl, h2 5 _ rfl⟩, h1⟩
theorem InT.six {K : Nat → Prop} {w0 w : World} {g c : Nat} {s : List Ty} (h : InT K w0 w g c s) {i : Nat} (hi : i < s.length) : ∃ x0 x1 x2 x3 x4 x5 x6 x7 x8 x9 xa xb, (w.cell? ⟨g, i * 6, none⟩ = some (.int .i64 x0) ∧ w.cell? ⟨g, i * 6 + 1, none⟩ = some (.string x1) ∧ w.cell? ⟨g, i * 6 + 2, none⟩ = some (.int .i64 x2) ∧ w.cell? ⟨g, i * 6 + 3, none⟩ = some (.slice x3 x4 x5) ∧ w.cell? ⟨g, i * 6 + 4, none⟩ = some (.slice x6 x7 x8) ∧ w.cell? ⟨g, i * 6 + 5, none⟩ = some (.slice x9 xa xb)) ∧ RepT K w0 s[i] [.int .i64 x0, .string x1, .int .i64 x2, .slice x3 x4 x5, .slice x6 x7 x8, .slice x9 xa xb] := h.sixAt (List.getElem?_eq_getElem hi)
theorem run_clear_types (w : World) (ty : TypeId) (b o n c : Nat) (hn : 0 < n)
  (hc : ∀ j, j < n * 6 → (w.cell? ⟨b, o + j, none⟩).isSome = true ∧ w.frozen? ⟨b, o + j, none⟩ = false) :
  (Builtin.clear_ #[22] ty #[.slice (some ⟨b, o, none⟩) n c]).run Tryz.prog w = .ok (.tuple #[]) (w.setCells b o (Builtin.zeroCells #[.int .i64 0, .string ⟨#[]⟩, .int .i64 0, .slice none 0 0, .slice none 0 0, .slice none 0 0] n).toList) := by
 have hlen : (Builtin.zeroCells #[.int .i64 0, .string ⟨#[]⟩, .int .i64 0, .slice none 0 0, .slice none 0 0, .slice none 0 0] n).toList.length = n * 6 := by simp [Builtin.zeroCells]
 have hst := run_storeCells_cells (P := Tryz.prog) b o (Builtin.zeroCells #[.int .i64 0, .string ⟨#[]⟩, .int .i64 0, .slice none 0 0, .slice none 0 0, .slice none 0 0] n).toList 0 w (by rw [hlen]; simpa using fun j hj => (hc j hj).1) (by rw [hlen]; simpa using fun j hj => (hc j hj).2) (by
  intro v hv
  simp only [Builtin.zeroCells, Array.toList_map, List.mem_map] at hv
  obtain ⟨i, _, rfl⟩ := hv
  have h6 : i % 6 < 6 := Nat.mod_lt _ (by decide)
  generalize hr : i % 6 = r at h6
  match r, h6 with
  | 0, _ => rfl
  | 1, _ => rfl
  | 2, _ => rfl
  | 3, _ => rfl
  | 4, _ => rfl
  | 5, _ => rfl)
 simp only [Nat.add_zero] at hst
 obtain ⟨m, rfl⟩ : ∃ m, n = m + 1 := ⟨n - 1, by omega⟩
 have hz : (Value.agg #[.int .i64 0, .string ⟨#[]⟩, .int .i64 0, .slice none 0 0, .slice none 0 0, .slice none 0 0]).cells = #[.int .i64 0, .string ⟨#[]⟩, .int .i64 0, .slice none 0 0, .slice none 0 0, .slice none 0 0] := by rfl
 simp [Builtin.clear_, run_underlying Tryz.underlying22, Tryz.zeroValue26, hz, hst]
structure CompR (K : Nat → Prop) (w0 wr : World) (g c : Nat) (s : List Ty) (m : Nat) (D : List Ty) (i : Nat) : Prop where
 le : m + 2 + i ≤ s.length
 d : D = dedupT (s.take (m + 2 + i))
 dl : D.length ≤ m + 1 + i
 row : InT K w0 wr g c (D ++ s.drop D.length)
 below : Below w0.heap.size w0 wr
theorem CompR.at {K : Nat → Prop} {w0 wr : World} {g c : Nat} {s : List Ty} {m : Nat} {D : List Ty} {i : Nat} (h : CompR K w0 wr g c s m D i) {j : Nat} (h1 : m + 1 + i ≤ j) (h2 : j < s.length) : (D ++ s.drop D.length)[j]? = some s[j] := by
 have := h.dl
 rw [List.getElem?_append_right (by omega), List.getElem?_drop, show D.length + (j - D.length) = j from by omega]
 exact List.getElem?_eq_getElem h2
theorem CompR.start {K : Nat → Prop} {w0 wr : World} {g c : Nat} {s : List Ty} {m : Nat} (hm : m + 1 < s.length) (hd : dedupT (s.take (m + 1)) = s.take (m + 1)) (he : ordT s[m] s[m + 1] = 0) (hr : InT K w0 wr g c s) (hb : Below w0.heap.size w0 wr) : CompR K w0 wr g c s m (s.take (m + 1)) 0 := by
 have hl : (s.take (m + 1)).length = m + 1 := by simp; omega
 refine ⟨by omega, ?_, by omega, by rw [hl, List.take_append_drop]; exact hr, hb⟩
 have := dedup_take (s := s) (n := m + 1) (by omega) hm
 have he' : ordT s[m + 1 - 1] s[m + 1] = 0 := he
 rw [if_pos he', hd] at this
 exact this.symm
theorem CompR.same {K : Nat → Prop} {w0 wr w' : World} {g c : Nat} {s : List Ty} {m : Nat} {D : List Ty} {i : Nat} (h : CompR K w0 wr g c s m D i) (hi : m + 2 + i < s.length) (he : ordT s[m + 1 + i] s[m + 2 + i] = 0) (hb : Below wr.heap.size wr w') : CompR K w0 w' g c s m D (i + 1) := by
 refine ⟨by omega, ?_, by have := h.dl; omega, h.row.later hb, h.below.trans (hb.mono h.below.size)⟩
 have := dedup_take (s := s) (n := m + 2 + i) (by omega) hi
 rw [if_pos (by simpa only [show m + 2 + i - 1 = m + 1 + i from by omega] using he), ← h.d] at this
 exact this.symm
theorem CompR.put {K : Nat → Prop} {w0 wr wy : World} {g c : Nat} {s : List Ty} {m : Nat} {D : List Ty} {i : Nat} {cs : List Value} (h : CompR K w0 wr g c s m D i) (hi : m + 2 + i < s.length) (hn : ordT s[m + 1 + i] s[m + 2 + i] ≠ 0) (hg : w0.heap.size ≤ g) (hb : Below wr.heap.size wr wy) (ht : RepT K w0 s[m + 2 + i] cs) : CompR K w0 (wy.setCells g (D.length * 6) cs) g c s m (D ++ [s[m + 2 + i]]) (i + 1) := by
 have hdl := h.dl
 refine ⟨by omega, ?_, by simp; omega, (h.row.later hb).put (by omega) ht, sets_below hg cs _ _ (h.below.trans (hb.mono h.below.size))⟩
 have := dedup_take (s := s) (n := m + 2 + i) (by omega) hi
 rw [if_neg (by simpa only [show m + 2 + i - 1 = m + 1 + i from by omega] using hn), ← h.d] at this
 exact this.symm
theorem CompR.fin {K : Nat → Prop} {w0 wr : World} {g c : Nat} {s : List Ty} {m : Nat} {D : List Ty} {i : Nat} (h : CompR K w0 wr g c s m D i) (hi : ¬ m + 2 + i < s.length) (hg : w0.heap.size ≤ g) (L : List Value) : D = dedupT s ∧ InT K w0 (wr.setCells g (D.length * 6) L) g c D ∧ Below w0.heap.size w0 (wr.setCells g (D.length * 6) L) := by
 have hle := h.le
 refine ⟨by rw [h.d, List.take_of_length_le (by omega)], ?_, sets_below hg L _ _ h.below⟩
 have hp := h.row.pre
 obtain ⟨cur, hc1, hc2⟩ := hp.blk
 refine ⟨hp.le, hp.mx, row_set g L _ wr ⟨_, _, hc1, rfl⟩ _ ⟨_, hc1, hc2⟩, fun a t ha => ?_⟩
 obtain ⟨cs, h1, h2⟩ := hp.reps a t ha
 have hal := (List.getElem?_eq_some_iff.1 ha).1
 refine ⟨cs, h1, fun j u hj => ?_⟩
 have hj6 := (List.getElem?_eq_some_iff.1 hj).1
 rw [h1.six] at hj6
 rw [World.cell?_setCells_out g L _ wr ⟨g, a * 6 + j, none⟩ (fun _ _ => by show a * 6 + j < _ ∨ _ ≤ a * 6 + j; omega)]
 exact h2 j u hj
theorem sgnZ (x y : Int) : sgn (decide (x < y)) (decide (y < x)) = cmpZ x y := by
 rcases cmpZ_cases x y with ⟨a, b, e⟩ | ⟨a, b, e⟩ | ⟨a, b, e⟩ <;> rw [e, sgn] <;> simp [a, b]
theorem sgnB (x y : ByteArray) : sgn (Op.bytesLess x.toList y.toList) (!Op.bytesLess x.toList y.toList && !(x.toList == y.toList)) = cmpB x y := by
 rcases cmpB_cases x y with ⟨a, b, e⟩ | ⟨a, b, e⟩ | ⟨a, b, e⟩ <;> rw [e, sgn, a, b] <;> rfl
theorem ordr_step (k : Int) (t : ByteArray) (n : Int) (ps : List Ty) (fs : FsT) (vs : VsT) (hp : ∀ p ∈ ps, OrdR p) (hf : ∀ f ∈ fs, OrdR f.2.2) (hv : ∀ v ∈ vs, ∀ b ∈ v.2, OrdR b) : OrdR (.mk k t n ps fs vs) := by
 intro K K' t' w cs cs' h h'
 obtain ⟨k', s', n', ps', fs', vs'⟩ := t'
 have hb2 : Gw w ((w.alloc (.cells cs.toArray 26)).alloc (.cells cs'.toArray 26)) := ((Gw.refl w).alloc _).alloc _
 have a1 := (AtT.box 26 h).later ((Below.refl _ _).alloc (Nat.le_refl _) (.cells cs'.toArray 26))
 have a2 : AtT K' ((w.alloc (.cells cs.toArray 26)).alloc (.cells cs'.toArray 26)) (.mk k' s' n' ps' fs' vs') (w.heap.size + 1) 0 := by
  have := AtT.box (w := w.alloc (.cells cs.toArray 26)) 26 (h'.later ((Below.refl _ _).alloc (Nat.le_refl _) _))
  rw [World.size_alloc] at this
  exact this
 have HB2 := Hd hb2
 obtain ⟨A, c, A2, c2, A3, c3, rfl, -⟩ := h.inv
 obtain ⟨B, d, B2, d2, B3, d3, rfl, -⟩ := h'.inv
 simp only [cells6T] at a1 a2 HB2 ⊢
 generalize hw2 : (w.alloc (.cells #[.int .i64 k, .string t, .int .i64 n, .slice A ps.length c, .slice A2 fs.length c2, .slice A3 vs.length c3] 26)).alloc (.cells #[.int .i64 k', .string s', .int .i64 n', .slice B ps'.length d, .slice B2 fs'.length d2, .slice B3 vs'.length d3] 26) = w2 at a1 a2 HB2
 have HE2 := Hd hw2
 obtain ⟨A', c', A2', c2', A3', c3', ⟨x0, x1, x2, x3, x4, x5⟩, -, hP, hF, hV⟩ := a1.six
 obtain ⟨B', d', B2', d2', B3', d3', ⟨y0, y1, y2, y3, y4, y5⟩, -, hP', hF', hV'⟩ := a2.six
 rw [Nat.zero_add] at x1 x2 x3 x4 x5 y1 y2 y3 y4 y5
 have HX : Hid (∀ wx, Gw w2 wx → (wx.cell? ⟨w.heap.size, 3, none⟩ = some (.slice A' ps.length c') ∧ wx.cell? ⟨w.heap.size, 4, none⟩ = some (.slice A2' fs.length c2') ∧ wx.cell? ⟨w.heap.size, 5, none⟩ = some (.slice A3' vs.length c3')) ∧ wx.cell? ⟨w.heap.size + 1, 3, none⟩ = some (.slice B' ps'.length d') ∧ wx.cell? ⟨w.heap.size + 1, 4, none⟩ = some (.slice B2' fs'.length d2') ∧ wx.cell? ⟨w.heap.size + 1, 5, none⟩ = some (.slice B3' vs'.length d3')) := Hd fun wx hx => ⟨⟨cell_stays hx.below x3, cell_stays hx.below x4, cell_stays hx.below x5⟩, cell_stays hx.below y3, cell_stays hx.below y4, cell_stays hx.below y5⟩
 have K3 : Hid (∀ wx, Gw w2 wx → Calls Tryz.prog 40 #[.slice A' ps.length c', .slice B' ps'.length d'] wx fun e w' => e = .returned (.int .i64 (lexC (flatL ps) (flatL ps'))) ∧ Gw wx w') := Hd fun wx hx => list_ref ps ps' hp (hP.later hx.below) (hP'.later hx.below)
 have K4 : Hid (∀ wx, Gw w2 wx → Calls Tryz.prog 41 #[.slice A2' fs.length c2', .slice B2' fs'.length d2'] wx fun e w' => e = .returned (.int .i64 (lexC (flatF fs) (flatF fs'))) ∧ Gw wx w') := Hd fun wx hx => fields_ref fs fs' hf (hF.later hx.below) (hF'.later hx.below)
 have K5 : Hid (∀ wx, Gw w2 wx → Calls Tryz.prog 42 #[.slice A3' vs.length c3', .slice B3' vs'.length d3'] wx fun e w' => e = .returned (.int .i64 (lexC (flatV vs) (flatV vs'))) ∧ Gw wx w') := Hd fun wx hx => vars_ref vs vs' hv (hV.later hx.below) (hV'.later hx.below)
 have HO := Hd (ord_steps k t n ps fs vs k' s' n' ps' fs' vs')
 have Z0 := Hd (sgnZ k k')
 have Z1 := Hd (sgnB t s')
 have Z2 := Hd (sgnZ n n')
 generalize ordT (.mk k t n ps fs vs) (.mk k' s' n' ps' fs' vs') = oo at HO ⊢
 generalize cmpZ k k' = q0 at HO Z0
 generalize cmpB t s' = q1 at HO Z1
 generalize cmpZ n n' = q2 at HO Z2
 generalize lexC (flatL ps) (flatL ps') = q3 at HO K3
 generalize lexC (flatF fs) (flatF fs') = q4 at HO K4
 generalize lexC (flatV vs) (flatV vs') = q5 at HO K5
 clear h h' hb2 a1 a2 hP hF hV hP' hF' hV' hp hf hv hw2 x3 x4 x5 y3 y4 y5
 go_enter Tryz.func23, Tryz.ntmps23
 go_wp2_with fail
 rw [HE2.out]
 refine (sign_any _ _ _).mono ?_
 rintro e w3 ⟨rfl, rfl⟩
 rw [Z0.out]
 by_cases z0 : q0 = 0
 ·have e0 : (q0 == 0) = true := by simpa using z0
  have Q0 := Hd z0
  clear z0
  go_wp2_with fail
  refine (sign_any _ _ _).mono ?_
  rintro e w3 ⟨rfl, rfl⟩
  rw [Z1.out]
  by_cases z1 : q1 = 0
  ·have e1 : (q1 == 0) = true := by simpa using z1
   have Q1 := Hd z1
   clear z1
   go_wp2_with fail
   refine (sign_any _ _ _).mono ?_
   rintro e w3 ⟨rfl, rfl⟩
   rw [Z2.out]
   by_cases z2 : q2 = 0
   ·have e2 : (q2 == 0) = true := by simpa using z2
    have Q2 := Hd z2
    clear z2
    obtain ⟨⟨x3, x4, x5⟩, y3, y4, y5⟩ := HX.out _ (Gw.refl _)
    go_wp2_with fail
    clear x3 x4 x5 y3 y4 y5
    refine (K3.out _ (Gw.refl _)).mono ?_
    rintro e w3 ⟨rfl, hg⟩
    have HG3 := Hd (hg)
    clear hg
    by_cases z3 : q3 = 0
    ·have e3 : (q3 == 0) = true := by simpa using z3
     have Q3 := Hd z3
     clear z3
     obtain ⟨⟨x3, x4, x5⟩, y3, y4, y5⟩ := HX.out _ HG3.out
     go_wp2_with fail
     clear x3 x4 x5 y3 y4 y5
     refine (K4.out _ HG3.out).mono ?_
     rintro e w4 ⟨rfl, hg⟩
     have HG4 := Hd (HG3.out.trans hg)
     clear hg
     by_cases z4 : q4 = 0
     ·have e4 : (q4 == 0) = true := by simpa using z4
      have Q4 := Hd z4
      clear z4
      obtain ⟨⟨x3, x4, x5⟩, y3, y4, y5⟩ := HX.out _ HG4.out
      go_wp2_with fail
      clear x3 x4 x5 y3 y4 y5
      refine (K5.out _ HG4.out).mono ?_
      rintro e w5 ⟨rfl, hg⟩
      have HG5 := Hd (HG4.out.trans hg)
      clear hg
      go_wp2_with fail
      go_ret
      exact ⟨by rw [HO.out, Q0.out, or2_zero, Q1.out, or2_zero, Q2.out, or2_zero, Q3.out, or2_zero, Q4.out, or2_zero]; rfl, HB2.out.trans HG5.out⟩
     ·have e4 : (q4 == 0) = false := by simpa using z4
      have Q4 := Hd z4
      clear z4
      go_wp2_with fail
      go_ret
      exact ⟨by rw [HO.out, Q0.out, or2_zero, Q1.out, or2_zero, Q2.out, or2_zero, Q3.out, or2_zero, or2_ne Q4.out]; rfl, HB2.out.trans HG4.out⟩
    ·have e3 : (q3 == 0) = false := by simpa using z3
     have Q3 := Hd z3
     clear z3
     go_wp2_with fail
     go_ret
     exact ⟨by rw [HO.out, Q0.out, or2_zero, Q1.out, or2_zero, Q2.out, or2_zero, or2_ne Q3.out]; rfl, HB2.out.trans HG3.out⟩
   ·have e2 : (q2 == 0) = false := by simpa using z2
    have Q2 := Hd z2
    clear z2
    go_wp2_with fail
    go_ret
    exact ⟨by rw [HO.out, Q0.out, or2_zero, Q1.out, or2_zero, or2_ne Q2.out]; rfl, HB2.out⟩
  ·have e1 : (q1 == 0) = false := by simpa using z1
   have Q1 := Hd z1
   clear z1
   go_wp2_with fail
   go_ret
   exact ⟨by rw [HO.out, Q0.out, or2_zero, or2_ne Q1.out]; rfl, HB2.out⟩
 ·have e0 : (q0 == 0) = false := by simpa using z0
  have Q0 := Hd z0
  clear z0
  go_wp2_with fail
  go_ret
  exact ⟨by rw [HO.out, or2_ne Q0.out]; rfl, HB2.out⟩
theorem order_ref (t : Ty) : OrdR t := Ty.ind (C := OrdR) (fun k t n ps fs vs hp hf hv => ordr_step k t n ps fs vs hp hf hv) t
theorem list_lit {K : Nat → Prop} {w W : World} {t : Ty} {cs : List Value} {g : Nat} (ht : RepT K w t cs) (hb : Below w.heap.size w W) (hlo : ∀ b, K b → b < w.heap.size) (hh : W.heap[g]? = some (.cells cs.toArray 26 (0, 0))) : ListT (fun b => K b ∨ b = g) W [t] (some ⟨g, 0, none⟩) 1 := by
 refine ⟨g, 0, ⟨by simp, by simp, (fun h => by cases h), fun _ => ⟨rfl, .inr rfl⟩⟩, fun i hi => ?_⟩
 have : i = 0 := by simpa using hi
 subst this
 refine ⟨cs, fun j u hj => ?_, RepT.keep (fun _ h => .inl h) (fun b o v hk hc => (World.cell?_of_block (hb.block b (hlo b hk))).trans hc) _ _ ht⟩
 rw [Ch hh]; simpa using hj
theorem held_any (hU : UnionP) {K : Nat → Prop} {w : World} {nm : ByteArray} {fl : Int} {t : Ty} {cs : List Value} (hr : RepT K w t cs) (hlo : ∀ b, K b → b < w.heap.size) (hfl : fl = 0 ∨ fl = 1 ∨ fl = 2 ∨ fl = 3) (hn : (flatU [tyK 4, t]).length ≤ 1099511627776) :
  Calls Tryz.prog 68 #[.agg (.string nm :: .int .i64 fl :: cs).toArray] w (TyPost K w (heldT (nm, fl, t))) := by
 obtain ⟨k, s, n, ps, fs, vs⟩ := t
 obtain ⟨A, c, A', c', A'', c'', rfl, -⟩ := hr.inv
 simp only [cells6T] at hr ⊢
 obtain ⟨w1, hw1⟩ : ∃ x, x = (w.alloc (.cells #[.string nm, .int .i64 fl, .int .i64 k, .string s, .int .i64 n, .slice A ps.length c, .slice A' fs.length c', .slice A'' vs.length c''] 37)).alloc (.cells #[.int .i64 0, .string ⟨#[]⟩, .int .i64 0, .slice none 0 0, .slice none 0 0, .slice none 0 0] 26) := ⟨_, rfl⟩
 have hb1 : Below w.heap.size w w1 := by rw [hw1]; exact ((Below.refl _ _).alloc (Nat.le_refl _) _).alloc (by simp) _
 have hs1 : w1.heap.size = w.heap.size + 2 := by rw [hw1]; simp
 have hx0 : w1.heap[w.heap.size]? = some (.cells #[.string nm, .int .i64 fl, .int .i64 k, .string s, .int .i64 n, .slice A ps.length c, .slice A' fs.length c', .slice A'' vs.length c''] 37 (0, 0)) := by rw [hw1, Below.heap_alloc _ _ _ (by simp)]; exact heap_alloc_new w _
 have hx1 : w1.heap[w.heap.size + 1]? = some (.cells #[.int .i64 0, .string ⟨#[]⟩, .int .i64 0, .slice none 0 0, .slice none 0 0, .slice none 0 0] 26 (0, 0)) := by
  rw [hw1]
  have h := heap_alloc_new (w.alloc (.cells #[.string nm, .int .i64 fl, .int .i64 k, .string s, .int .i64 n, .slice A ps.length c, .slice A' fs.length c', .slice A'' vs.length c''] 37)) (.cells #[.int .i64 0, .string ⟨#[]⟩, .int .i64 0, .slice none 0 0, .slice none 0 0, .slice none 0 0] 26)
  rw [World.size_alloc] at h
  exact h
 have HLO := Hd hlo
 have HR := Hd hr
 have HB1 := Hd hb1
 have HS1 := Hd hs1
 have HX1 := Hd hx1
 have HW1 := Hd hw1
 obtain ⟨g, hg⟩ : ∃ g, g = w.heap.size + 1 := ⟨_, rfl⟩
 have HG := Hd hg
 have HL : Hid (ListT (fun b => K b ∨ b = w.heap.size + 2) (w1.alloc (.cells #[.int .i64 k, .string s, .int .i64 n, .slice A ps.length c, .slice A' fs.length c', .slice A'' vs.length c''] 26)) [.mk k s n ps fs vs] (some ⟨w.heap.size + 2, 0, none⟩) 1) := Hd (list_lit hr (hb1.alloc hb1.size _) hlo (by rw [← hs1]; exact heap_alloc_new w1 _))
 have kn := ornull_any hU HL.out.both (fun b h => h.2) hn (by simp)
 simp only [List.length_singleton] at kn
 have KN := Hd kn
 clear kn
 have e2 : (w1.alloc (.cells #[.int .i64 k, .string s, .int .i64 n, .slice A ps.length c, .slice A' fs.length c', .slice A'' vs.length c''] 26)).heap.size = w.heap.size + 3 := by rw [World.size_alloc, hs1]
 have HE2 := Hd e2
 rcases hfl with rfl | rfl | rfl | rfl
 ·rw [show heldT (nm, 0, .mk k s n ps fs vs) = .mk k s n ps fs vs from rfl]
  unfold TyPost
  obtain ⟨x0, x1, x2, x3, x4, x5, x6, x7⟩ := cz8 hx0
  clear hr hlo hb1 hs1 hx0 hx1 e2 hg hw1
  go_enter Tryz.func68, Tryz.ntmps68
  go_upto_region 1 with fail
  rw [← HW1.out, ← HG.out]
  clear HW1
  go_upto_region 3 with fail
  have rb := HX1.out
  rw [← HG.out] at rb
  have HBE := Hd HB1.out
  have hr' : RepT (fun b => K b ∨ g < b) _ (.mk k s n ps fs vs) [.int .i64 k, .string s, .int .i64 n, .slice A ps.length c, .slice A' fs.length c', .slice A'' vs.length c''] := (HR.out.later HB1.out).weak fun b h => Or.inl h
  have HR4 := Hd hr'
  clear hr'
  obtain ⟨q0, q1, q2, q3, q4, q5, z0, z1, z2, z3, z4, z5⟩ := qz6 rb
  have RBX := Hd rb
  clear rb
  go_wp2_with fail
  have rs := six_set RBX.out (.int .i64 k) (.string s) (.int .i64 n) (.slice A ps.length c) (.slice A' fs.length c') (.slice A'' vs.length c'')
  obtain ⟨r0, r1, r2, r3, r4, r5⟩ := cz6 rs
  clear q0 q1 q2 q3 q4 q5 z0 z1 z2 z3 z4 z5 RBX rs
  refine bodyPost_ret (v := .agg #[.int .i64 k, .string s, .int .i64 n, .slice A ps.length c, .slice A' fs.length c', .slice A'' vs.length c'']) (by simp [results, Tryz.results68, go_sem, r0, r1, r2, r3, r4, r5]) rfl ?_
  clear r0 r1 r2 r3 r4 r5
  exact ⟨[.int .i64 k, .string s, .int .i64 n, .slice A ps.length c, .slice A' fs.length c', .slice A'' vs.length c''], rfl, ret_box HR4.out (fun b h => by have := HLO.out b h; have := HG.out; omega) (by have := HG.out; omega) _ _ _ _ _ _, set_six_below HBE.out (by have := HG.out; omega) _ _ _ _ _ _⟩
 ·generalize hu : heldT (nm, 1, .mk k s n ps fs vs) = u
  obtain ⟨k2, s2, n2, ps2, fs2, vs2⟩ := u
  have HUE : Hid (unionT [tyK 4, .mk k s n ps fs vs] = .mk k2 s2 n2 ps2 fs2 vs2) := Hd (by rw [← hu]; rfl)
  unfold TyPost
  clear HW1
  subst hw1
  obtain ⟨x0, x1, x2, x3, x4, x5, x6, x7⟩ := cz8 hx0
  clear hr hlo hb1 hs1 hx0 hx1 e2 hg hu
  go_enter Tryz.func68, Tryz.ntmps68
  go_wp2_with fail
  refine KN.out.mono ?_
  rintro e w4 ⟨rs, rfl, hr4, hb4⟩
  have hbl : Below _ _ w4 := (((Below.refl _ _).alloc (Nat.le_refl _) _).trans (hb4.mono (by simp)))
  have HBE := Hd (HB1.out.trans (hbl.mono HB1.out.size))
  have rb := (hbl.block (w.heap.size + 1) (by have := HS1.out; omega)).trans HX1.out
  have hr' : RepT (fun b => K b ∨ w.heap.size + 1 < b) w4 (unionT [tyK 4, .mk k s n ps fs vs]) rs := hr4.weak fun b h => by
   rcases h with ⟨h | h, -⟩ | h
   ·exact .inl h
   ·exact .inr (by omega)
   ·exact .inr (by have := HE2.out; omega)
  clear hr4 hb4 KN hbl x0 x1 x2 x3 x4 x5 x6 x7
  rw [HUE.out] at hr'
  obtain ⟨Aq, cq, Ag, cg, Ah, ch, rfl, -⟩ := hr'.inv
  have HR4 := Hd hr'
  simp only [cells6T] at HR4 ⊢
  clear hr'
  obtain ⟨q0, q1, q2, q3, q4, q5, z0, z1, z2, z3, z4, z5⟩ := qz6 rb
  have RBX := Hd rb
  clear rb
  go_wp2_with fail
  have rs := six_set RBX.out (.int .i64 k2) (.string s2) (.int .i64 n2) (.slice Aq ps2.length cq) (.slice Ag fs2.length cg) (.slice Ah vs2.length ch)
  obtain ⟨r0, r1, r2, r3, r4, r5⟩ := cz6 rs
  clear q0 q1 q2 q3 q4 q5 z0 z1 z2 z3 z4 z5 RBX rs
  refine bodyPost_ret (v := .agg #[.int .i64 k2, .string s2, .int .i64 n2, .slice Aq ps2.length cq, .slice Ag fs2.length cg, .slice Ah vs2.length ch]) (by simp [results, Tryz.results68, go_sem, r0, r1, r2, r3, r4, r5]) rfl ?_
  clear r0 r1 r2 r3 r4 r5
  exact ⟨[.int .i64 k2, .string s2, .int .i64 n2, .slice Aq ps2.length cq, .slice Ag fs2.length cg, .slice Ah vs2.length ch], rfl, ret_box HR4.out (fun b h => by have := HLO.out b h; omega) (Nat.le_succ _) _ _ _ _ _ _, set_six_below HBE.out (Nat.le_succ _) _ _ _ _ _ _⟩
 ·rw [show heldT (nm, 2, .mk k s n ps fs vs) = .mk k s n ps fs vs from rfl]
  unfold TyPost
  obtain ⟨x0, x1, x2, x3, x4, x5, x6, x7⟩ := cz8 hx0
  clear hr hlo hb1 hs1 hx0 hx1 e2 hg hw1
  go_enter Tryz.func68, Tryz.ntmps68
  go_upto_region 1 with fail
  rw [← HW1.out, ← HG.out]
  clear HW1
  go_upto_region 3 with fail
  have rb := HX1.out
  rw [← HG.out] at rb
  have HBE := Hd HB1.out
  have hr' : RepT (fun b => K b ∨ g < b) _ (.mk k s n ps fs vs) [.int .i64 k, .string s, .int .i64 n, .slice A ps.length c, .slice A' fs.length c', .slice A'' vs.length c''] := (HR.out.later HB1.out).weak fun b h => Or.inl h
  have HR4 := Hd hr'
  clear hr'
  obtain ⟨q0, q1, q2, q3, q4, q5, z0, z1, z2, z3, z4, z5⟩ := qz6 rb
  have RBX := Hd rb
  clear rb
  go_wp2_with fail
  have rs := six_set RBX.out (.int .i64 k) (.string s) (.int .i64 n) (.slice A ps.length c) (.slice A' fs.length c') (.slice A'' vs.length c'')
  obtain ⟨r0, r1, r2, r3, r4, r5⟩ := cz6 rs
  clear q0 q1 q2 q3 q4 q5 z0 z1 z2 z3 z4 z5 RBX rs
  refine bodyPost_ret (v := .agg #[.int .i64 k, .string s, .int .i64 n, .slice A ps.length c, .slice A' fs.length c', .slice A'' vs.length c'']) (by simp [results, Tryz.results68, go_sem, r0, r1, r2, r3, r4, r5]) rfl ?_
  clear r0 r1 r2 r3 r4 r5
  exact ⟨[.int .i64 k, .string s, .int .i64 n, .slice A ps.length c, .slice A' fs.length c', .slice A'' vs.length c''], rfl, ret_box HR4.out (fun b h => by have := HLO.out b h; have := HG.out; omega) (by have := HG.out; omega) _ _ _ _ _ _, set_six_below HBE.out (by have := HG.out; omega) _ _ _ _ _ _⟩
 ·generalize hu : heldT (nm, 3, .mk k s n ps fs vs) = u
  obtain ⟨k2, s2, n2, ps2, fs2, vs2⟩ := u
  have HUE : Hid (unionT [tyK 4, .mk k s n ps fs vs] = .mk k2 s2 n2 ps2 fs2 vs2) := Hd (by rw [← hu]; rfl)
  unfold TyPost
  clear HW1
  subst hw1
  obtain ⟨x0, x1, x2, x3, x4, x5, x6, x7⟩ := cz8 hx0
  clear hr hlo hb1 hs1 hx0 hx1 e2 hg hu
  go_enter Tryz.func68, Tryz.ntmps68
  go_wp2_with fail
  refine KN.out.mono ?_
  rintro e w4 ⟨rs, rfl, hr4, hb4⟩
  have hbl : Below _ _ w4 := (((Below.refl _ _).alloc (Nat.le_refl _) _).trans (hb4.mono (by simp)))
  have HBE := Hd (HB1.out.trans (hbl.mono HB1.out.size))
  have rb := (hbl.block (w.heap.size + 1) (by have := HS1.out; omega)).trans HX1.out
  have hr' : RepT (fun b => K b ∨ w.heap.size + 1 < b) w4 (unionT [tyK 4, .mk k s n ps fs vs]) rs := hr4.weak fun b h => by
   rcases h with ⟨h | h, -⟩ | h
   ·exact .inl h
   ·exact .inr (by omega)
   ·exact .inr (by have := HE2.out; omega)
  clear hr4 hb4 KN hbl x0 x1 x2 x3 x4 x5 x6 x7
  rw [HUE.out] at hr'
  obtain ⟨Aq, cq, Ag, cg, Ah, ch, rfl, -⟩ := hr'.inv
  have HR4 := Hd hr'
  simp only [cells6T] at HR4 ⊢
  clear hr'
  obtain ⟨q0, q1, q2, q3, q4, q5, z0, z1, z2, z3, z4, z5⟩ := qz6 rb
  have RBX := Hd rb
  clear rb
  go_wp2_with fail
  have rs := six_set RBX.out (.int .i64 k2) (.string s2) (.int .i64 n2) (.slice Aq ps2.length cq) (.slice Ag fs2.length cg) (.slice Ah vs2.length ch)
  obtain ⟨r0, r1, r2, r3, r4, r5⟩ := cz6 rs
  clear q0 q1 q2 q3 q4 q5 z0 z1 z2 z3 z4 z5 RBX rs
  refine bodyPost_ret (v := .agg #[.int .i64 k2, .string s2, .int .i64 n2, .slice Aq ps2.length cq, .slice Ag fs2.length cg, .slice Ah vs2.length ch]) (by simp [results, Tryz.results68, go_sem, r0, r1, r2, r3, r4, r5]) rfl ?_
  clear r0 r1 r2 r3 r4 r5
  exact ⟨[.int .i64 k2, .string s2, .int .i64 n2, .slice Aq ps2.length cq, .slice Ag fs2.length cg, .slice Ah vs2.length ch], rfl, ret_box HR4.out (fun b h => by have := HLO.out b h; omega) (Nat.le_succ _) _ _ _ _ _ _, set_six_below HBE.out (Nat.le_succ _) _ _ _ _ _ _⟩
end Go.Proofs.YteakkjhcdpbidaaGreatDoor
