import Derived.Test.YtlgklkokadbpeaaDoorStV
import Derived.Laws.AppendOwnNone
namespace Go.Proofs.YtlgklkokadbpeaaDoor
open Go.RowKit Go.Maps Go.ChangeMaps Go.Sort
theorem flat3_len : ∀ L : List Fi, (flat3 L).length = L.length * 3
  | [] => rfl
  | f :: L => by rw [flat3, List.length_append, flat3_len L]; simp [cells3]; omega
theorem flat3_app : ∀ L M : List Fi, flat3 (L ++ M) = flat3 L ++ flat3 M
  | [], M => rfl
  | f :: L, M => by rw [List.cons_append, flat3, flat3, flat3_app L M, List.append_assoc]
theorem flat3_split (L : List Fi) (i : Nat) : flat3 L = flat3 (L.take i) ++ flat3 (L.drop i) := by rw [← flat3_app, List.take_append_drop]
theorem flat3_one : ∀ (L : List Fi) (u : Value), u ∈ flat3 L → u.oneCell' = true
  | [], u, h => by simp [flat3] at h
  | f :: L, u, h => by
    rw [flat3] at h
    rcases List.mem_append.1 h with h | h
    · exact three_one f u h
    · exact flat3_one L u h
/-- A part of an own row of files, as the source of an append. -/
theorem src_drop {w : World} {base g c : Nat} {L : List Fi} (h : w.ownsRow base 45 3 (.slice (some ⟨g, 0, none⟩) L.length c) L.length (flat3 L)) (i : Nat) (hi : i ≤ L.length) :
    ∀ j u, (flat3 (L.drop i))[j]? = some u → w.cell? ((⟨g, i * 3, none⟩ : Addr).add j) = some u := by
  intro j u hj
  have hlt : j < (flat3 (L.drop i)).length := (List.getElem?_eq_some_iff.1 hj).1
  rw [flat3_len, List.length_drop] at hlt
  have e : ((⟨g, i * 3, none⟩ : Addr).add j) = ⟨g, i * 3 + j, none⟩ := by
    unfold Addr.add
    by_cases h2 : j = 0 <;> simp [h2]
  rw [e, h.cellAt (i * 3 + j) (by omega), flat3_split L i, List.getElem?_append_right (by rw [flat3_len, List.length_take]; omega), flat3_len, List.length_take, show i * 3 + j - min i L.length * 3 = j by omega]
  exact hj
theorem src_take {w : World} {base g c : Nat} {L : List Fi} (h : w.ownsRow base 45 3 (.slice (some ⟨g, 0, none⟩) L.length c) L.length (flat3 L)) (i : Nat) (hi : i ≤ L.length) :
    ∀ j u, (flat3 (L.take i))[j]? = some u → w.cell? ((⟨g, 0, none⟩ : Addr).add j) = some u := by
  intro j u hj
  have hlt : j < (flat3 (L.take i)).length := (List.getElem?_eq_some_iff.1 hj).1
  rw [flat3_len, List.length_take] at hlt
  have e : ((⟨g, 0, none⟩ : Addr).add j) = ⟨g, j, none⟩ := by
    unfold Addr.add
    by_cases h2 : j = 0 <;> simp [h2]
  rw [e, h.cellAt j (by omega), flat3_split L i, List.getElem?_append_left (by rw [flat3_len, List.length_take]; omega)]
  exact hj
/-- An own row of which every block from its base on is kept. -/
theorem own_kp {w w' : World} {K : Nat → Prop} {base : Nat} {e : TypeId} {size n : Nat} {v : Value} {xs : List Value} (h : w.ownsRow base e size v n xs) (hb : Kp K w w') (hK : ∀ g, base ≤ g → (∃ cur, w.heap[g]? = some (.cells cur e (0, 0))) → K g) : w'.ownsRow base e size v n xs := by
  refine ⟨h.1, ?_⟩
  rcases h.2 with h0 | ⟨g, cap, cur, hv, hbg, hg, h1, h2, h3, h4⟩
  · exact .inl h0
  · have hlt : g < w.heap.size := by
      rcases Nat.lt_or_ge g w.heap.size with hh | hh
      · exact hh
      · rw [Array.getElem?_eq_none hh] at hg; cases hg
    exact .inr ⟨g, cap, cur, hv, hbg, (hb.block g (hK g hbg ⟨cur, hg⟩) hlt).trans hg, h1, h2, h3, h4⟩
/-- The reference's store, its number lifted, and a new file laid down. -/
def rW (W : World) (b : Nat) (n : Int) (s t : ByteArray) : World := (W.setCell ⟨b, 1, none⟩ (.int .i64 n)).alloc (.cells #[.string s, .string t, .int .i64 n] 45)
theorem rW_of {W : World} {B b : Nat} {A : Option Addr} {c : Nat} {L : List Fi} {n : Int} (h : RSt W B b A c L n) (m : Int) (s t : ByteArray) : RSt (rW W b m s t) B b A c L m ∧ Kp (fun k => k ≠ b) W (rW W b m s t) := by
  have k1 : Kp (fun k => k ≠ b) W (W.setCell ⟨b, 1, none⟩ (.int .i64 m)) := (Kp.refl _ _).setCell (by simp) _
  have r1 : RSt (W.setCell ⟨b, 1, none⟩ (.int .i64 m)) B b A c L m :=
    ⟨(World.cell?_setCell_other _ _ _ _ (by simp)).trans h.c0, World.cell?_setCell_same _ _ _ h.c1, own_kp h.own k1 (fun g hg _ => by omega), fun k => by rw [World.frozen?_setCell]; exact h.fz k, h.ge⟩
  exact ⟨r1.later ((Go.RowKit.Below.refl _ _).alloc (Nat.le_refl _) _), k1.alloc _⟩
theorem rW_cells (W : World) (b : Nat) (n : Int) (s t : ByteArray) : (rW W b n s t).cell? ⟨W.heap.size, 0, none⟩ = some (.string s) ∧ (rW W b n s t).cell? ⟨W.heap.size, 1, none⟩ = some (.string t) ∧ (rW W b n s t).cell? ⟨W.heap.size, 2, none⟩ = some (.int .i64 n) := by
  have e : (W.setCell ⟨b, 1, none⟩ (.int .i64 n)).heap.size = W.heap.size := by simp [World.setCell]
  refine ⟨?_, ?_, ?_⟩ <;> (unfold rW; rw [World.cell?_alloc_at _ _ _ _ e.symm]; rfl)
/-- The reference's store with another list. -/
theorem RSt.set {W w : World} {B b : Nat} {A : Option Addr} {c : Nat} {L : List Fi} {n : Int} (h : RSt W B b A c L n) (hb : Go.RowKit.Below W.heap.size W w) {A' : Option Addr} {c' m : Nat} {L' : List Fi} (hm : L'.length = m) (ho : w.ownsRow W.heap.size 45 3 (.slice A' m c') m (flat3 L')) :
    RSt (w.setCell ⟨b, 0, none⟩ (.slice A' m c')) B b A' c' L' n ∧ Kp (fun k => k ≠ b) W (w.setCell ⟨b, 0, none⟩ (.slice A' m c')) := by
  subst hm
  have hl : b < W.heap.size := World.block_lt_of_cell? W ⟨b, 0, none⟩ h.c0
  have h2 := h.later hb
  refine ⟨⟨World.cell?_setCell_same _ _ _ h2.c0, (World.cell?_setCell_other _ _ _ _ (by simp)).trans h2.c1, ?_, fun k => by rw [World.frozen?_setCell]; exact h2.fz k, h2.ge⟩, (kp_of hb).setCell (by simp) _⟩
  exact ownsRow_setCell_below (ownsRow_base3 ho (by omega)) (by simp) _
end Go.Proofs.YtlgklkokadbpeaaDoor
