import Derived.Test.YtnnjbgjhhbmfgaaGreatDoorTyN
import Derived.Test.YtnnjbgjhhbmfgaaGreatDoorAp
namespace Go.Proofs.YtnnjbgjhhbmfgaaGreatDoor
open Go.RowKit
theorem partsT {P : Program} {t : TypeId} {z : Option Value} {s b : Nat} (h : (P.info? t).map (fun i => (i.zero, i.size, i.bytes)) = some (z, s, b)) : ∃ i, P.info? t = some i ∧ i.zero = z ∧ i.size = s ∧ i.bytes = b := by
  cases hi : P.info? t with
  | none => rw [hi] at h; cases h
  | some i => rw [hi] at h; simp at h; exact ⟨i, rfl, h.1, h.2.1, h.2.2⟩
theorem infoTy : (Tryz.prog.info? 26).map (fun i => (i.zero, i.size, i.bytes)) = some (some (.agg #[.int .i64 0, .string ⟨#[]⟩, .int .i64 0, .slice none 0 0, .slice none 0 0, .slice none 0 0]), 6, 104) := by kernel_rfl
theorem sliceT {w : World} {base : Nat} {e : TypeId} {size n : Nat} {v : Value} {xs : List Value} (h : w.ownsRow base e size v n xs) : ∃ A c, v = .slice A n c ∧ (A = none → n = 0 ∧ c = 0) := by
  rcases h.2 with ⟨hv, hn⟩ | ⟨g, cap, cur, hv, _⟩
  · exact ⟨none, 0, by rw [hv, hn], fun _ => ⟨hn, rfl⟩⟩
  · exact ⟨_, cap, hv, fun h => by cases h⟩
theorem typeT {w : World} {base : Nat} {e : TypeId} {size n : Nat} {v : Value} {xs : List Value} (h : w.ownsRow base e size v n xs) {b : Nat} (hb : v.ownBlock = some b) : ∃ c, w.heap[b]? = some (.cells c e (0, 0)) := by
  rcases h.2 with ⟨rfl, _⟩ | ⟨g, cap, cur, rfl, _, hg, _⟩
  · cases hb
  · injection hb with hb
    exact ⟨cur, by rw [← hb]; exact hg⟩
theorem cellsT_new (w : World) (cs : List Value) (T : TypeId) : ∀ j u, cs[j]? = some u → (w.alloc (.cells cs.toArray T)).cell? ((⟨w.heap.size, 0, none⟩ : Addr).add j) = some u := by
  intro j u hj
  have e : ((⟨w.heap.size, 0, none⟩ : Addr).add j) = ⟨w.heap.size, j, none⟩ := by
    unfold Addr.add
    by_cases h2 : j = 0 <;> simp [h2]
  rw [e, Lib.cell_of_heap (heap_alloc_new w _)]
  simpa using hj
/-- A row of one's own that holds types, which lie otherwise as in an older world. -/
structure OutT (K : Nat → Prop) (w0 w : World) (v : Value) (ts : List Ty) : Prop where
  ex : ∃ vs, w.ownsRow w0.heap.size 26 6 v ts.length vs ∧ ∀ i (h : i < ts.length), ∃ cs, RepT K w0 ts[i] cs ∧ ∀ j u, cs[j]? = some u → vs[i * 6 + j]? = some u
theorem RepT.six {K : Nat → Prop} {w : World} {t : Ty} {cs : List Value} (h : RepT K w t cs) : cs.length = 6 := by
  obtain ⟨k, s, n, ps, fs, vs⟩ := t
  obtain ⟨A, c, A', c', A'', c'', rfl, _⟩ := h.inv
  rfl
theorem OutT.snoc {K : Nat → Prop} {w0 w' : World} {v' : Value} {ts : List Ty} {t : Ty} {vs cs : List Value} (hl : vs.length = ts.length * 6) (h : ∀ i (h : i < ts.length), ∃ cs, RepT K w0 ts[i] cs ∧ ∀ j u, cs[j]? = some u → vs[i * 6 + j]? = some u)
    (ht : RepT K w0 t cs) (ho : w'.ownsRow w0.heap.size 26 6 v' (ts.length + 1) (vs ++ cs)) : OutT K w0 w' v' (ts ++ [t]) := by
  refine ⟨⟨vs ++ cs, by rw [List.length_append]; exact ho, fun i hi => ?_⟩⟩
  rw [List.length_append, List.length_singleton] at hi
  by_cases hlt : i < ts.length
  · obtain ⟨cs', h1, h2⟩ := h i hlt
    refine ⟨cs', by rw [List.getElem_append_left hlt]; exact h1, fun j u hj => ?_⟩
    have h3 := h2 j u hj
    rw [List.getElem?_append_left (List.getElem?_eq_some_iff.1 h3).1]
    exact h3
  · obtain rfl : i = ts.length := by omega
    refine ⟨cs, by rw [List.getElem_append_right (by omega)]; simpa using ht, fun j u hj => ?_⟩
    rw [List.getElem?_append_right (by omega), show ts.length * 6 + j - vs.length = j from by omega]
    exact hj
theorem OutT.keep {K : Nat → Prop} {w0 w w' : World} {v : Value} {ts : List Ty} (h : OutT K w0 w v ts) (hk : ∀ b, v.ownBlock = some b → w'.heap[b]? = w.heap[b]?) : OutT K w0 w' v ts := by
  obtain ⟨vs, h1, h2⟩ := h
  refine ⟨vs, ⟨h1.1, ?_⟩, h2⟩
  rcases h1.2 with h3 | ⟨g, cap, cur, hv, hg, hh, r⟩
  · exact .inl h3
  · exact .inr ⟨g, cap, cur, hv, hg, by rw [hk g (by rw [hv]; rfl)]; exact hh, r⟩
def seeL (h : Kinds) (l : List Ty) : Kinds := l.foldl (fun h t => seeK h t.k) h
theorem seeL_app (h : Kinds) (l l' : List Ty) : seeL h (l ++ l') = seeL (seeL h l) l' := by unfold seeL; rw [List.foldl_append]
theorem flatU_take {l : List Ty} {i : Nat} (h : i < l.length) : flatU (l.take (i + 1)) = flatU (l.take i) ++ parts1 l[i] := by
  rw [List.take_succ_eq_append_getElem h, flatU_app]
  simp [flatU]
theorem flatU_split (l : List Ty) (i : Nat) : flatU l = flatU (l.take i) ++ flatU (l.drop i) := by
  rw [← flatU_app, List.take_append_drop]
/-- Is the box apart from the row? Their types tell. -/
theorem kb_out {K : Nat → Prop} {w0 w : World} {v : Value} {ts : List Ty} {g : Nat} {h : Kinds} (hk : KB w g h) (ho : OutT K w0 w v ts) : v.ownBlock ≠ some g := by
  intro e
  obtain ⟨vs, h1, _⟩ := ho
  obtain ⟨c, hc⟩ := typeT h1 e
  rw [hk] at hc
  injection hc with hc
  injection hc with _ hc
  exact absurd hc (by decide)
def FlatP (l : List Ty) : Prop := ∀ (K : Nat → Prop) (w0 w : World) (A : Option Addr) (c : Nat) (v : Value) (os : List Ty) (g : Nat) (h : Kinds), ListT K w0 l A c → Below w0.heap.size w0 w → w0.heap.size ≤ g → KB w g h → OutT K w0 w v os → os.length + (flatU l).length ≤ 1099511627776 →
  Calls Tryz.prog 12 #[v, .slice A l.length c, .pointer (some ⟨g, 0, none⟩)] w fun e w' => ∃ v', e = .returned v' ∧ OutT K w0 w' v' (os ++ flatU l) ∧ KB w' g (seeL h (flatU l)) ∧ Below w0.heap.size w0 w'
/-- What is behind an append of a type to such a row. -/
theorem out_push {K : Nat → Prop} {w0 w2 w5 : World} {v v5 : Value} {os : List Ty} {t : Ty} {g : Nat} {h : Kinds} {cs vs : List Value} (hK : KB w2 g h) (hb : Below w0.heap.size w0 w2) (ho : w2.ownsRow w0.heap.size 26 6 v os.length vs) (hr : ∀ i (h : i < os.length), ∃ cs, RepT K w0 os[i] cs ∧ ∀ j u, cs[j]? = some u → vs[i * 6 + j]? = some u)
    (ht : RepT K w0 t cs) (hown : w5.ownsRow w0.heap.size 26 6 v5 (os.length + 1) (vs ++ cs)) (hg : (w2.alloc (.cells cs.toArray 26)).grownBy w5 v.ownBlock) :
    OutT K w0 w5 v5 (os ++ [t]) ∧ KB w5 g h ∧ Below w0.heap.size w0 w5 := by
  have hgl : g < w2.heap.size := (Array.getElem?_eq_some_iff.1 hK).1
  have hne := kb_out hK ⟨vs, ho, hr⟩
  have hl1 : w2.heap.size ≤ (w2.alloc (.cells cs.toArray 26)).heap.size := by simp
  refine ⟨OutT.snoc (ho.1) hr ht hown, ?_, (hb.alloc hb.size _).grown hg (Nat.le_trans hb.size hl1) fun k hk => (ho.lt k hk).1⟩
  unfold KB
  rw [hg.block g (by omega) (fun e => hne e.symm), Below.heap_alloc _ _ _ hgl]
  exact hK
end Go.Proofs.YtnnjbgjhhbmfgaaGreatDoor
