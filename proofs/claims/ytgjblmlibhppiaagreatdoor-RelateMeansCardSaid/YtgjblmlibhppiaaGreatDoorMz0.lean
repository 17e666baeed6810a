import Derived.Test.YtgjblmlibhppiaaGreatDoorMy27
namespace Go.Proofs.YtgjblmlibhppiaaGreatDoor
open Go.RowKit
inductive RepV (w : World) : Val → List Value → Prop
 | mk (k : Int) (t : ByteArray) (n : Int) (names : List ByteArray) (parts : List Val) (A : Option Addr) (c : Nat) (A' : Option Addr) (c' : Nat) (nb no pb po : Nat) (pc : Nat → List Value)
  (h1 : names.length ≤ 1000000000000000) (h2 : parts.length ≤ 1000000000000000) (h3 : 0 < names.length → A = some ⟨nb, no, none⟩) (h4 : 0 < parts.length → A' = some ⟨pb, po, none⟩)
  (ncell : ∀ i (h : i < names.length), w.cell? ⟨nb, no + i, none⟩ = some (.string (names[i]'h)))
  (pcell : ∀ i, i < parts.length → ∀ j u, (pc i)[j]? = some u → w.cell? ⟨pb, po + i * 5 + j, none⟩ = some u)
  (prep : ∀ i (h : i < parts.length), RepV w (parts[i]'h) (pc i)) :
  RepV w (.mk k t n names parts) [.int .i64 k, .string t, .int .i64 n, .slice A names.length c, .slice A' parts.length c']
def ListW2 (w : World) (l : List Val) (A : Option Addr) : Prop := l.length ≤ 1000000000000000 ∧ ∃ b o, (0 < l.length → A = some ⟨b, o, none⟩) ∧ ∀ i (h : i < l.length), ∃ cs, (∀ j u, cs[j]? = some u → w.cell? ⟨b, o + i * 5 + j, none⟩ = some u) ∧ RepV w (l[i]'h) cs
def ListN2 (w : World) (l : List ByteArray) (A : Option Addr) : Prop := l.length ≤ 1000000000000000 ∧ ∃ b o, (0 < l.length → A = some ⟨b, o, none⟩) ∧ ∀ i (h : i < l.length), w.cell? ⟨b, o + i, none⟩ = some (.string (l[i]'h))
theorem RepV.inv {w : World} {k : Int} {t : ByteArray} {n : Int} {names : List ByteArray} {parts : List Val} {cs : List Value} (h : RepV w (.mk k t n names parts) cs) : ∃ A c A' c', cs = [.int .i64 k, .string t, .int .i64 n, .slice A names.length c, .slice A' parts.length c'] ∧ ListN2 w names A ∧ ListW2 w parts A' := by
 cases h with
 | mk _ _ _ _ _ A c A' c' nb no pb po pc h1 h2 h3 h4 ncell pcell prep => exact ⟨A, c, A', c', rfl, ⟨h1, nb, no, h3, ncell⟩, h2, pb, po, h4, fun i hi => ⟨pc i, pcell i hi, prep i hi⟩⟩
theorem RepV.of {w : World} {k : Int} {t : ByteArray} {n : Int} {names : List ByteArray} {parts : List Val} {A : Option Addr} {c : Nat} {A' : Option Addr} {c' : Nat} (hn : ListN2 w names A) (hp : ListW2 w parts A') : RepV w (.mk k t n names parts) [.int .i64 k, .string t, .int .i64 n, .slice A names.length c, .slice A' parts.length c'] := by
 obtain ⟨h1, nb, no, h3, ncell⟩ := hn
 obtain ⟨h2, pb, po, h4, hat⟩ := hp
 refine .mk k t n names parts A c A' c' nb no pb po (fun i => if h : i < parts.length then (hat i h).choose else []) h1 h2 h3 h4 ncell (fun i hi => ?_) fun i hi => ?_
 ·simp only [dif_pos hi]; exact (hat i hi).choose_spec.1
 ·simp only [dif_pos hi]; exact (hat i hi).choose_spec.2
theorem RepV.five {w : World} {v : Val} {cs : List Value} (h : RepV w v cs) : cs.length = 5 := by cases h; rfl
theorem RepV.later {w w' : World} {v : Val} {cs : List Value} (h : RepV w v cs) (hb : Below w.heap.size w w') : RepV w' v cs := by
 induction h with
 | mk k t n names parts A c A' c' nb no pb po pc h1 h2 h3 h4 ncell pcell prep ih => exact .mk k t n names parts A c A' c' nb no pb po pc h1 h2 h3 h4 (fun i hi => cell_stays hb (ncell i hi)) (fun i hi j u hu => cell_stays hb (pcell i hi j u hu)) ih
theorem ListW2.later {w w' : World} {l : List Val} {A : Option Addr} (h : ListW2 w l A) (hb : Below w.heap.size w w') : ListW2 w' l A := by
 obtain ⟨h1, b, o, h2, h3⟩ := h
 exact ⟨h1, b, o, h2, fun i hi => by obtain ⟨cs, h4, h5⟩ := h3 i hi; exact ⟨cs, fun j u hu => cell_stays hb (h4 j u hu), h5.later hb⟩⟩
theorem ListN2.later {w w' : World} {l : List ByteArray} {A : Option Addr} (h : ListN2 w l A) (hb : Below w.heap.size w w') : ListN2 w' l A := by
 obtain ⟨h1, b, o, h2, h3⟩ := h
 exact ⟨h1, b, o, h2, fun i hi => cell_stays hb (h3 i hi)⟩
end Go.Proofs.YtgjblmlibhppiaaGreatDoor
