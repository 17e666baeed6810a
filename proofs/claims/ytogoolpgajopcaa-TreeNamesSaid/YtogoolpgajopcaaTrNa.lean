import Derived.Test.YtogoolpgajopcaaTrP
import Derived.Test.YtogoolpgajopcaaTrG
import Derived.Maps.OwnSet
import Derived.Maps.AppendAt
import Derived.Maps.Views
import Derived.StringKeys
namespace Go.Proofs.Ytogoolpgajopcaa
open Go.RowKit Go.Maps
def hasN (l : List ByteArray) (t : ByteArray) : Bool := l.any fun x => x.toList == t.toList
def addN (l : List ByteArray) (k : Int) (t : ByteArray) : List ByteArray := if nameB k t && !hasN l t then l ++ [t] else l
/-- The names of a list of nodes, put behind a list. -/
def Fo.nm : Fo → List ByteArray → List ByteArray
  | .nil, l => l
  | .cons k t _ _ _ P R, l => R.nm (P.nm (addN l k t))
theorem addN_len (l : List ByteArray) (k : Int) (t : ByteArray) : (addN l k t).length ≤ l.length + 1 := by
  unfold addN; split <;> simp
theorem nm_len : ∀ (F : Fo) (l : List ByteArray), (F.nm l).length ≤ l.length + F.nodes := by
  intro F
  induction F with
  | nil => intro l; simp [Fo.nm, Fo.nodes]
  | cons k t n m a P R ihP ihR =>
    intro l
    have h1 := addN_len l k t
    have h2 := ihP (addN l k t)
    have h3 := ihR (P.nm (addN l k t))
    simp only [Fo.nm, Fo.nodes]
    omega
def setN (l : List ByteArray) : DataW Unit := setOf (.agg []) (l.map fun x => Lit.string x.data.toList)
theorem setN_nil : setN [] = .map [] := by simp [setN, setOf]
theorem setN_add (l : List ByteArray) (t : ByteArray) : setN (l ++ [t]) = (setN l).put (.string t.data.toList) (.agg []) := by
  unfold setN; rw [List.map_append, List.map_singleton, setOf_snoc]
theorem has_setN (l : List ByteArray) (t : ByteArray) : Maps.has (setN l) (.string t.data.toList) = hasN l t := by
  unfold setN hasN
  rw [has_setOf _ _ _ (fun y hy => by obtain ⟨_, _, rfl⟩ := List.mem_map.1 hy; trivial), List.any_map]
  congr 1
  funext x
  simp only [Function.comp, ByteArray.toList_eq]
  rfl
theorem own_below {w w' : World} {base : Nat} {e : TypeId} {size n : Nat} {v : Value} {xs : List Value} (h : w.ownsRow base e size v n xs) (hb : Below w.heap.size w w') : w'.ownsRow base e size v n xs := by
  refine ⟨h.1, ?_⟩
  rcases h.2 with h0 | ⟨g, cap, cur, hv, hbg, hg, h1, h2, h3, h4⟩
  · exact .inl h0
  · have hlt : g < w.heap.size := by
      rcases Nat.lt_or_ge g w.heap.size with h | h
      · exact h
      · rw [Array.getElem?_eq_none h] at hg; cases hg
    exact .inr ⟨g, cap, cur, hv, hbg, (hb.block g hlt).trans hg, h1, h2, h3, h4⟩
theorem map_below {w w' : World} {k : TypeId} {R : Value → Option (DataW Unit × List MemPlace)} {b n : Nat} {D : DataW Unit} (h : w.ownsMap Try.prog k R b n D) (hb : Below w.heap.size w w') : w'.ownsMap Try.prog k R b n D := by
  have hlt := h.lt
  obtain ⟨es, clock, h1, h2⟩ := h
  exact ⟨es, clock, (hb.block b hlt).trans h1, h2⟩
/-- What the walk over a tree keeps: the set, the list, itself. -/
structure NS (B bs bn bw mb : Nat) (l : List ByteArray) (w : World) : Prop where
  o1 : B ≤ mb
  o2 : mb < bs
  o3 : bs < bn
  o4 : bn < bw
  o5 : bw < w.heap.size
  s0 : w.cell? ⟨bs, 0, none⟩ = some (.map (some mb))
  w0 : w.cell? ⟨bw, 0, none⟩ = some (.func (.func 63) #[] #[.pointer (some ⟨bs, 0, none⟩), .pointer (some ⟨bn, 0, none⟩), .pointer (some ⟨bw, 0, none⟩)])
  map : w.ownsMap Try.prog 9 unitElem mb l.length (setN l)
  row : ∃ A c, w.cell? ⟨bn, 0, none⟩ = some (.slice A l.length c) ∧ w.ownsRow (bw + 1) 9 1 (.slice A l.length c) l.length (l.map Value.string)
  nf : w.frozen? ⟨bn, 0, none⟩ = false
theorem NS.below {B bs bn bw mb : Nat} {l : List ByteArray} {w w' : World} (h : NS B bs bn bw mb l w) (hb : Below w.heap.size w w') : NS B bs bn bw mb l w' := by
  obtain ⟨o1, o2, o3, o4, o5, s0, w0, hm, ⟨A, c, r1, r2⟩, nf⟩ := h
  exact ⟨o1, o2, o3, o4, by have := hb.size; omega, (hb.cell (p := ⟨bs, 0, none⟩) (by show bs < _; omega)).trans s0, (hb.cell (p := ⟨bw, 0, none⟩) o5).trans w0, map_below hm hb, ⟨A, c, (hb.cell (p := ⟨bn, 0, none⟩) (by show bn < _; omega)).trans r1, own_below r2 hb⟩, (hb.frozen (p := ⟨bn, 0, none⟩) (by show bn < _; omega)).trans nf⟩
end Go.Proofs.Ytogoolpgajopcaa
