import Derived.Test.YtfchnfnifpopnaaGreatDoorMa0
import Derived.Below
import Derived.BigQuiet
import Derived.Deep.Draws
import Derived.Deep.Light
import Derived.Deep.QuietTactic
import Derived.Deep.RegionHeld3
import Derived.Handy
import Derived.LoopTactic
import Derived.Outline
import Derived.OwnWalk
import Derived.Sort.Grow
import Derived.WalkKit
import Derived.WalkLawsBesides
import Derived.WalkSmall
import Derived.WalkSpells
set_option maxRecDepth 100000
set_option maxHeartbeats 64000000
namespace Go.Proofs.YtfchnfnifpopnaaGreatDoor
open Go.RowKit
theorem cell_stays {w w' : World} {p : Addr} {v : Value} (hb : Below w.heap.size w w') (h : w.cell? p = some v) : w'.cell? p = some v :=
 (hb.cell (World.block_lt_of_cell? _ _ h)).trans h
theorem below_then {w a b : World} (h : Below w.heap.size w a) (h' : Below a.heap.size a b) : Below w.heap.size w b := h.trans (h'.mono h.size)
def cells6T (k : Int) (t : ByteArray) (n : Int) (A : Option Addr) (l c : Nat) (A' : Option Addr) (l' c' : Nat) (A'' : Option Addr) (l'' c'' : Nat) : List Value :=
 [.int .i64 k, .string t, .int .i64 n, .slice A l c, .slice A' l' c', .slice A'' l'' c'']
structure RowAt (K : Nat → Prop) (A : Option Addr) (l c b o : Nat) : Prop where
 le : l ≤ c
 big : l ≤ 1000000000000000
 none : A = none → c = 0
 some : 0 < l → A = some ⟨b, o, Option.none⟩ ∧ K b
inductive RepT (K : Nat → Prop) (w : World) : Ty → List Value → Prop
 | mk (k : Int) (t : ByteArray) (n : Int) (ps : List Ty) (fs : List (ByteArray × Int × Ty)) (vs : List (ByteArray × List Ty)) (A : Option Addr) (c : Nat) (A' : Option Addr) (c' : Nat) (A'' : Option Addr) (c'' : Nat)
   (pb po fb fo vb vo : Nat) (pc fc : Nat → List Value) (bA : Nat → Option Addr) (bc bb bo : Nat → Nat) (bcs : Nat → Nat → List Value)
   (ht : t.size ≤ 1000000000000000) (hA : RowAt K A ps.length c pb po) (hA' : RowAt K A' fs.length c' fb fo) (hA'' : RowAt K A'' vs.length c'' vb vo)
   (pcell : ∀ i, i < ps.length → ∀ j u, (pc i)[j]? = some u → w.cell? ⟨pb, po + i * 6 + j, none⟩ = some u)
   (prep : ∀ i (h : i < ps.length), RepT K w ps[i] (pc i))
   (fcell : ∀ i (h : i < fs.length), w.cell? ⟨fb, fo + i * 8, none⟩ = some (.string fs[i].1) ∧ w.cell? ⟨fb, fo + i * 8 + 1, none⟩ = some (.int .i64 fs[i].2.1) ∧ fs[i].1.size ≤ 1000000000000000 ∧ ∀ j u, (fc i)[j]? = some u → w.cell? ⟨fb, fo + i * 8 + 2 + j, none⟩ = some u)
   (frep : ∀ i (h : i < fs.length), RepT K w fs[i].2.2 (fc i))
   (vcell : ∀ i (h : i < vs.length), w.cell? ⟨vb, vo + i * 2, none⟩ = some (.string vs[i].1) ∧ w.cell? ⟨vb, vo + i * 2 + 1, none⟩ = some (.slice (bA i) vs[i].2.length (bc i)) ∧ vs[i].1.size ≤ 1000000000000000 ∧ RowAt K (bA i) vs[i].2.length (bc i) (bb i) (bo i))
   (bcell : ∀ i (h : i < vs.length) j, j < vs[i].2.length → ∀ x u, (bcs i j)[x]? = some u → w.cell? ⟨bb i, bo i + j * 6 + x, none⟩ = some u)
   (brep : ∀ i (h : i < vs.length) j (h' : j < vs[i].2.length), RepT K w vs[i].2[j] (bcs i j)) :
   RepT K w (.mk k t n ps fs vs) (cells6T k t n A ps.length c A' fs.length c' A'' vs.length c'')
def AtT (K : Nat → Prop) (w : World) (t : Ty) (b o : Nat) : Prop := ∃ cs, (∀ j u, cs[j]? = some u → w.cell? ⟨b, o + j, none⟩ = some u) ∧ RepT K w t cs
structure ListT (K : Nat → Prop) (w : World) (l : List Ty) (A : Option Addr) (c : Nat) : Prop where
 ex : ∃ b o, RowAt K A l.length c b o ∧ ∀ i (h : i < l.length), AtT K w l[i] b (o + i * 6)
structure ListF (K : Nat → Prop) (w : World) (l : List (ByteArray × Int × Ty)) (A : Option Addr) (c : Nat) : Prop where
 ex : ∃ b o, RowAt K A l.length c b o ∧ ∀ i (h : i < l.length), w.cell? ⟨b, o + i * 8, none⟩ = some (.string l[i].1) ∧ w.cell? ⟨b, o + i * 8 + 1, none⟩ = some (.int .i64 l[i].2.1) ∧ l[i].1.size ≤ 1000000000000000 ∧ AtT K w l[i].2.2 b (o + i * 8 + 2)
structure ListV (K : Nat → Prop) (w : World) (l : List (ByteArray × List Ty)) (A : Option Addr) (c : Nat) : Prop where
 ex : ∃ b o, RowAt K A l.length c b o ∧ ∀ i (h : i < l.length), ∃ B d, w.cell? ⟨b, o + i * 2, none⟩ = some (.string l[i].1) ∧ w.cell? ⟨b, o + i * 2 + 1, none⟩ = some (.slice B l[i].2.length d) ∧ l[i].1.size ≤ 1000000000000000 ∧ ListT K w l[i].2 B d
theorem RepT.inv {K : Nat → Prop} {w : World} {k : Int} {t : ByteArray} {n : Int} {ps : List Ty} {fs : List (ByteArray × Int × Ty)} {vs : List (ByteArray × List Ty)} {cs : List Value} (h : RepT K w (.mk k t n ps fs vs) cs) :
  ∃ A c A' c' A'' c'', cs = cells6T k t n A ps.length c A' fs.length c' A'' vs.length c'' ∧ t.size ≤ 1000000000000000 ∧ ListT K w ps A c ∧ ListF K w fs A' c' ∧ ListV K w vs A'' c'' := by
 cases h with
 | mk _ _ _ _ _ _ A c A' c' A'' c'' pb po fb fo vb vo pc fc bA bc bb bo bcs ht hA hA' hA'' pcell prep fcell frep vcell bcell brep =>
  exact ⟨A, c, A', c', A'', c'', rfl, ht, ⟨pb, po, hA, fun i h => ⟨pc i, pcell i h, prep i h⟩⟩, ⟨fb, fo, hA', fun i h => ⟨(fcell i h).1, (fcell i h).2.1, (fcell i h).2.2.1, fc i, (fcell i h).2.2.2, frep i h⟩⟩, ⟨vb, vo, hA'', fun i h => ⟨bA i, bc i, (vcell i h).1, (vcell i h).2.1, (vcell i h).2.2.1, ⟨bb i, bo i, (vcell i h).2.2.2, fun j h' => ⟨bcs i j, bcell i h j h', brep i h j h'⟩⟩⟩⟩⟩
theorem RepT.of {K : Nat → Prop} {w : World} {k : Int} {t : ByteArray} {n : Int} {ps : List Ty} {fs : List (ByteArray × Int × Ty)} {vs : List (ByteArray × List Ty)} {A : Option Addr} {c : Nat} {A' : Option Addr} {c' : Nat} {A'' : Option Addr} {c'' : Nat} (ht : t.size ≤ 1000000000000000) (hp : ListT K w ps A c) (hf : ListF K w fs A' c') (hv : ListV K w vs A'' c'') :
  RepT K w (.mk k t n ps fs vs) (cells6T k t n A ps.length c A' fs.length c' A'' vs.length c'') := by
 classical
 obtain ⟨pb, po, hA, hp⟩ := hp
 obtain ⟨fb, fo, hA', hf⟩ := hf
 obtain ⟨vb, vo, hA'', hv⟩ := hv
 have hp' : ∃ pc : Nat → List Value, ∀ i (h : i < ps.length), (∀ j u, (pc i)[j]? = some u → w.cell? ⟨pb, po + i * 6 + j, none⟩ = some u) ∧ RepT K w ps[i] (pc i) :=
  ⟨fun i => if h : i < ps.length then (hp i h).choose else [], fun i h => by simp only [dif_pos h]; exact (hp i h).choose_spec⟩
 obtain ⟨pc, hpc⟩ := hp'
 have hf' : ∃ fc : Nat → List Value, ∀ i (h : i < fs.length), (∀ j u, (fc i)[j]? = some u → w.cell? ⟨fb, fo + i * 8 + 2 + j, none⟩ = some u) ∧ RepT K w fs[i].2.2 (fc i) :=
  ⟨fun i => if h : i < fs.length then (hf i h).2.2.2.choose else [], fun i h => by simp only [dif_pos h]; exact (hf i h).2.2.2.choose_spec⟩
 obtain ⟨fc, hfc⟩ := hf'
 have hv' : ∃ (bA : Nat → Option Addr) (bc bb bo : Nat → Nat) (bcs : Nat → Nat → List Value), ∀ i (h : i < vs.length), w.cell? ⟨vb, vo + i * 2, none⟩ = some (.string vs[i].1) ∧ w.cell? ⟨vb, vo + i * 2 + 1, none⟩ = some (.slice (bA i) vs[i].2.length (bc i)) ∧ vs[i].1.size ≤ 1000000000000000 ∧ RowAt K (bA i) vs[i].2.length (bc i) (bb i) (bo i) ∧ ∀ j (h' : j < vs[i].2.length), (∀ x u, (bcs i j)[x]? = some u → w.cell? ⟨bb i, bo i + j * 6 + x, none⟩ = some u) ∧ RepT K w vs[i].2[j] (bcs i j) := by
  have one : ∀ i (h : i < vs.length), ∃ (q : Option Addr × Nat × Nat × Nat × (Nat → List Value)), w.cell? ⟨vb, vo + i * 2, none⟩ = some (.string vs[i].1) ∧ w.cell? ⟨vb, vo + i * 2 + 1, none⟩ = some (.slice q.1 vs[i].2.length q.2.1) ∧ vs[i].1.size ≤ 1000000000000000 ∧ RowAt K q.1 vs[i].2.length q.2.1 q.2.2.1 q.2.2.2.1 ∧ ∀ j (h' : j < vs[i].2.length), (∀ x u, (q.2.2.2.2 j)[x]? = some u → w.cell? ⟨q.2.2.1, q.2.2.2.1 + j * 6 + x, none⟩ = some u) ∧ RepT K w vs[i].2[j] (q.2.2.2.2 j) := by
   intro i h
   obtain ⟨B, d, h1, h2, h3, ⟨b, o, h4, h5⟩⟩ := hv i h
   exact ⟨⟨B, d, b, o, fun j => if h' : j < vs[i].2.length then (h5 j h').choose else []⟩, h1, h2, h3, h4, fun j h' => by simp only [dif_pos h']; exact (h5 j h').choose_spec⟩
  exact ⟨fun i => if h : i < vs.length then (one i h).choose.1 else none, fun i => if h : i < vs.length then (one i h).choose.2.1 else 0, fun i => if h : i < vs.length then (one i h).choose.2.2.1 else 0, fun i => if h : i < vs.length then (one i h).choose.2.2.2.1 else 0, fun i => if h : i < vs.length then (one i h).choose.2.2.2.2 else fun _ => [], fun i h => by simp only [dif_pos h]; exact (one i h).choose_spec⟩
 obtain ⟨bA, bc, bb, bo, bcs, hvc⟩ := hv'
 exact RepT.mk k t n ps fs vs A c A' c' A'' c'' pb po fb fo vb vo pc fc bA bc bb bo bcs ht hA hA' hA'' (fun i h => (hpc i h).1) (fun i h => (hpc i h).2) (fun i h => ⟨(hf i h).1, (hf i h).2.1, (hf i h).2.2.1, (hfc i h).1⟩) (fun i h => (hfc i h).2)
  (fun i h => ⟨(hvc i h).1, (hvc i h).2.1, (hvc i h).2.2.1, (hvc i h).2.2.2.1⟩) (fun i h j h' => ((hvc i h).2.2.2.2 j h').1) (fun i h j h' => ((hvc i h).2.2.2.2 j h').2)
theorem RowAt.weak {K K' : Nat → Prop} (hk : ∀ b, K b → K' b) {A : Option Addr} {l c b o : Nat} (h : RowAt K A l c b o) : RowAt K' A l c b o := ⟨h.le, h.big, h.none, fun hl => ⟨(h.some hl).1, hk _ (h.some hl).2⟩⟩
theorem RepT.keep {K K' : Nat → Prop} {w w' : World} (hK : ∀ b, K b → K' b) (hk : ∀ b o v, K b → w.cell? ⟨b, o, none⟩ = some v → w'.cell? ⟨b, o, none⟩ = some v) (t : Ty) : ∀ cs, RepT K w t cs → RepT K' w' t cs := by
 refine Ty.ind (C := fun t => ∀ cs, RepT K w t cs → RepT K' w' t cs) ?_ t
 intro k t n ps fs vs ihp ihf ihv cs h
 obtain ⟨A, c, A', c', A'', c'', rfl, ht, ⟨pb, po, hA, hp⟩, ⟨fb, fo, hA', hf⟩, ⟨vb, vo, hA'', hv⟩⟩ := h.inv
 refine RepT.of ht ⟨pb, po, hA.weak hK, fun i h => ?_⟩ ⟨fb, fo, hA'.weak hK, fun i h => ?_⟩ ⟨vb, vo, hA''.weak hK, fun i h => ?_⟩
 ·obtain ⟨cs, h1, h2⟩ := hp i h
  have hb := (hA.some (by omega)).2
  exact ⟨cs, fun j u hj => hk _ _ _ hb (h1 j u hj), ihp _ (List.getElem_mem h) cs h2⟩
 ·obtain ⟨h1, h2, h3, cs, h4, h5⟩ := hf i h
  have hb := (hA'.some (by omega)).2
  exact ⟨hk _ _ _ hb h1, hk _ _ _ hb h2, h3, cs, fun j u hj => hk _ _ _ hb (h4 j u hj), ihf _ (List.getElem_mem h) cs h5⟩
 ·obtain ⟨B, d, h1, h2, h3, ⟨b, o, h4, h5⟩⟩ := hv i h
  have hb := (hA''.some (by omega)).2
  refine ⟨B, d, hk _ _ _ hb h1, hk _ _ _ hb h2, h3, ⟨b, o, h4.weak hK, fun j h' => ?_⟩⟩
  obtain ⟨cs, h6, h7⟩ := h5 j h'
  have hb := (h4.some (by omega)).2
  exact ⟨cs, fun x u hx => hk _ _ _ hb (h6 x u hx), ihv _ (List.getElem_mem h) _ (List.getElem_mem h') cs h7⟩
theorem AtT.keep {K K' : Nat → Prop} {w w' : World} {t : Ty} {b o : Nat} (h : AtT K w t b o) (hK : ∀ b, K b → K' b) (hk : ∀ b o v, K b → w.cell? ⟨b, o, none⟩ = some v → w'.cell? ⟨b, o, none⟩ = some v) (hb : ∀ o v, w.cell? ⟨b, o, none⟩ = some v → w'.cell? ⟨b, o, none⟩ = some v) : AtT K' w' t b o := by
 obtain ⟨cs, h1, h2⟩ := h
 exact ⟨cs, fun j u hj => hb _ _ (h1 j u hj), RepT.keep hK hk t cs h2⟩
theorem RepT.later {K : Nat → Prop} {w w' : World} {t : Ty} {cs : List Value} (h : RepT K w t cs) (hb : Below w.heap.size w w') : RepT K w' t cs := RepT.keep (fun _ h => h) (fun _ _ _ _ h => cell_stays hb h) t cs h
theorem AtT.later {K : Nat → Prop} {w w' : World} {t : Ty} {b o : Nat} (h : AtT K w t b o) (hb : Below w.heap.size w w') : AtT K w' t b o := h.keep (fun _ h => h) (fun _ _ _ _ h => cell_stays hb h) (fun _ _ h => cell_stays hb h)
theorem ListT.later {K : Nat → Prop} {w w' : World} {l : List Ty} {A : Option Addr} {c : Nat} (h : ListT K w l A c) (hb : Below w.heap.size w w') : ListT K w' l A c := by
 obtain ⟨b, o, h1, h2⟩ := h
 exact ⟨b, o, h1, fun i hi => (h2 i hi).later hb⟩
theorem ListF.later {K : Nat → Prop} {w w' : World} {l : List (ByteArray × Int × Ty)} {A : Option Addr} {c : Nat} (h : ListF K w l A c) (hb : Below w.heap.size w w') : ListF K w' l A c := by
 obtain ⟨b, o, h1, h2⟩ := h
 exact ⟨b, o, h1, fun i hi => ⟨cell_stays hb (h2 i hi).1, cell_stays hb (h2 i hi).2.1, (h2 i hi).2.2.1, (h2 i hi).2.2.2.later hb⟩⟩
theorem ListV.later {K : Nat → Prop} {w w' : World} {l : List (ByteArray × List Ty)} {A : Option Addr} {c : Nat} (h : ListV K w l A c) (hb : Below w.heap.size w w') : ListV K w' l A c := by
 obtain ⟨b, o, h1, h2⟩ := h
 refine ⟨b, o, h1, fun i hi => ?_⟩
 obtain ⟨B, d, h3, h4, h5, h6⟩ := h2 i hi
 exact ⟨B, d, cell_stays hb h3, cell_stays hb h4, h5, h6.later hb⟩
theorem AtT.six {K : Nat → Prop} {w : World} {k : Int} {t : ByteArray} {n : Int} {ps : List Ty} {fs : List (ByteArray × Int × Ty)} {vs : List (ByteArray × List Ty)} {b o : Nat} (h : AtT K w (.mk k t n ps fs vs) b o) :
  ∃ A c A' c' A'' c'', (w.cell? ⟨b, o, none⟩ = some (.int .i64 k) ∧ w.cell? ⟨b, o + 1, none⟩ = some (.string t) ∧ w.cell? ⟨b, o + 2, none⟩ = some (.int .i64 n) ∧ w.cell? ⟨b, o + 3, none⟩ = some (.slice A ps.length c) ∧ w.cell? ⟨b, o + 4, none⟩ = some (.slice A' fs.length c') ∧ w.cell? ⟨b, o + 5, none⟩ = some (.slice A'' vs.length c'')) ∧ t.size ≤ 1000000000000000 ∧ ListT K w ps A c ∧ ListF K w fs A' c' ∧ ListV K w vs A'' c'' := by
 obtain ⟨cs, h1, h2⟩ := h
 obtain ⟨A, c, A', c', A'', c'', rfl, h3⟩ := h2.inv
 exact ⟨A, c, A', c', A'', c'', ⟨h1 0 _ rfl, h1 1 _ rfl, h1 2 _ rfl, h1 3 _ rfl, h1 4 _ rfl, h1 5 _ rfl⟩, h3⟩
theorem AtT.box {K : Nat → Prop} {w : World} {t : Ty} {cs : List Value} (T : TypeId) (h : RepT K w t cs) : AtT K (w.alloc (.cells cs.toArray T)) t w.heap.size 0 := by
 refine ⟨cs, fun j u hj => ?_, h.later ((Below.refl _ _).alloc (Nat.le_refl _) _)⟩
 rw [cell_of_row _ _ _ _ _ _ (heap_alloc_new w _), Nat.zero_add]
 simpa using hj
theorem ListT.at {K : Nat → Prop} {w : World} {l : List Ty} {A : Option Addr} {c : Nat} (h : ListT K w l A c) (h0 : 0 < l.length) : ∃ b o, A = some ⟨b, o, none⟩ ∧ K b ∧ ∀ i (h : i < l.length), AtT K w l[i] b (o + i * 6) := by
 obtain ⟨b, o, h1, h2⟩ := h
 exact ⟨b, o, (h1.some h0).1, (h1.some h0).2, h2⟩
theorem ListF.at {K : Nat → Prop} {w : World} {l : List (ByteArray × Int × Ty)} {A : Option Addr} {c : Nat} (h : ListF K w l A c) (h0 : 0 < l.length) : ∃ b o, A = some ⟨b, o, none⟩ ∧ K b ∧ ∀ i (h : i < l.length), w.cell? ⟨b, o + i * 8, none⟩ = some (.string l[i].1) ∧ w.cell? ⟨b, o + i * 8 + 1, none⟩ = some (.int .i64 l[i].2.1) ∧ l[i].1.size ≤ 1000000000000000 ∧ AtT K w l[i].2.2 b (o + i * 8 + 2) := by
 obtain ⟨b, o, h1, h2⟩ := h
 exact ⟨b, o, (h1.some h0).1, (h1.some h0).2, h2⟩
theorem ListV.at {K : Nat → Prop} {w : World} {l : List (ByteArray × List Ty)} {A : Option Addr} {c : Nat} (h : ListV K w l A c) (h0 : 0 < l.length) : ∃ b o, A = some ⟨b, o, none⟩ ∧ K b ∧ ∀ i (h : i < l.length), ∃ B d, w.cell? ⟨b, o + i * 2, none⟩ = some (.string l[i].1) ∧ w.cell? ⟨b, o + i * 2 + 1, none⟩ = some (.slice B l[i].2.length d) ∧ l[i].1.size ≤ 1000000000000000 ∧ ListT K w l[i].2 B d := by
 obtain ⟨b, o, h1, h2⟩ := h
 exact ⟨b, o, (h1.some h0).1, (h1.some h0).2, h2⟩
theorem or2_assoc (a b c : Int) : or2 (or2 a b) c = or2 a (or2 b c) := by
 unfold or2
 by_cases h : a = 0 <;> simp [h]
def Gw (w w' : World) : Prop := ∃ q os, w' = Go.Sort.grow (w.drewN q) os
theorem Gw.refl (w : World) : Gw w w := ⟨0, #[], by rw [Go.Sort.grow_empty]; rfl⟩
theorem drewN_add (w : World) (m n : Nat) : (w.drewN m).drewN n = w.drewN (m + n) := by
 simp only [World.drewN, Nat.add_assoc]
theorem Gw.trans {a b c : World} (h : Gw a b) (h' : Gw b c) : Gw a c := by
 obtain ⟨q, os, rfl⟩ := h
 obtain ⟨q', os', rfl⟩ := h'
 refine ⟨q + q', os ++ os', ?_⟩
 rw [← drewN_add, ← Go.Sort.grow_grow]
 rfl
theorem Gw.drew {a b : World} (h : Gw a b) : Gw a b.drew := h.trans ⟨1, #[], by rw [Go.Sort.grow_empty]; rfl⟩
theorem Gw.alloc {a b : World} (h : Gw a b) (o : Obj) : Gw a (b.alloc o) := h.trans ⟨0, #[o], by rw [Go.Sort.alloc_eq_grow]; rfl⟩
theorem Gw.below {a b : World} (h : Gw a b) : Below a.heap.size a b := by
 obtain ⟨q, os, rfl⟩ := h
 exact ⟨rfl, rfl, rfl, by simp [Go.Sort.grow, World.drewN], fun k hk => by
  show (a.heap ++ os)[k]? = a.heap[k]?
  rw [Array.getElem?_append_left hk]⟩
theorem boxZ3 (W : World) (x y z : Int) : (W.alloc (.cells #[.int .i64 x, .int .i64 y, .int .i64 z] 3)).drew.cell? ⟨W.heap.size, 0, none⟩ = some (.int .i64 x) ∧ (W.alloc (.cells #[.int .i64 x, .int .i64 y, .int .i64 z] 3)).drew.cell? ⟨W.heap.size, 1, none⟩ = some (.int .i64 y) ∧ (W.alloc (.cells #[.int .i64 x, .int .i64 y, .int .i64 z] 3)).drew.cell? ⟨W.heap.size, 2, none⟩ = some (.int .i64 z) :=
 ⟨World.cell?_alloc_at _ _ _ _ rfl, World.cell?_alloc_at _ _ _ _ rfl, World.cell?_alloc_at _ _ _ _ rfl⟩
theorem boxZ2 (W : World) (x y : Int) : (W.alloc (.cells #[.int .i64 x, .int .i64 y] 3)).drew.cell? ⟨W.heap.size, 0, none⟩ = some (.int .i64 x) ∧ (W.alloc (.cells #[.int .i64 x, .int .i64 y] 3)).drew.cell? ⟨W.heap.size, 1, none⟩ = some (.int .i64 y) :=
 ⟨World.cell?_alloc_at _ _ _ _ rfl, World.cell?_alloc_at _ _ _ _ rfl⟩
theorem measT {n k : Nat} (h : n < k) : k - (intOf (Value.int .i64 ((n : Int) + 1))).toNat < k - (intOf (Value.int .i64 (n : Int))).toNat := by
 simp only [intOf]
 omega
structure OrdP (f : Nat) (R : World → Nat → Nat → Prop) (R' : World → Nat → Nat → Prop) (c : Int) : Prop where
 ok : ∀ (w : World) (b o b' o' : Nat), R w b o → R' w b' o' → Calls Tryz.prog f #[.pointer (some ⟨b, o, none⟩), .pointer (some ⟨b', o', none⟩)] w fun e w' => e = .returned (.int .i64 c) ∧ Gw w w'
theorem all_types {α : Type} (E : α → List Tok) (hE : ∀ x y, Clean (E x) (E y) (lexC (E x) (E y))) (R R' : α → World → Nat → Nat → Prop) (hR : ∀ x w w' b o, Below w.heap.size w w' → R x w b o → R x w' b o) (hR' : ∀ x w w' b o, Below w.heap.size w w' → R' x w b o → R' x w' b o)
  (l l' : List α) (hl : ∀ x ∈ l, ∀ y, OrdP 57 (R x) (R' y) (lexC (E x) (E y))) (A A' : Option Addr) (c c' : Nat) (w : World) (b o b' o' : Nat) (hA : 0 < l.length → A = some ⟨b, o, none⟩) (hA' : 0 < l'.length → A' = some ⟨b', o', none⟩) (hlen : l.length ≤ 1000000000000000) (_hlen' : l'.length ≤ 1000000000000000)
  (hx : ∀ i (h : i < l.length), R l[i] w b (o + i * 6)) (hx' : ∀ i (h : i < l'.length), R' l'[i] w b' (o' + i * 6)) :
  Calls Tryz.prog 77 #[.slice A l.length c, .slice A' l'.length c', .func (.func 57) #[] #[]] w fun e w' => e = .returned (.int .i64 (lexC (rowE E l) (rowE E l'))) ∧ Gw w w' := by
 by_cases heq : l.length = l'.length
 case neg =>
  rw [row_len E heq]
  have tc : (cmpZ l.length l'.length != 0) = true := by
   rw [bne_iff_ne]
   exact fun h => heq (by have := cmpZ_zero h; omega)
  have KC := Lib.hid (compare_i (l.length : Int) (l'.length : Int))
  generalize cmpZ (l.length : Int) (l'.length : Int) = cz at tc KC
  clear heq hx hx' hl hR hR' hA hA'
  go_enter Tryz.func77, Tryz.ntmps77
  go_wp2_with fail
  refine (KC.out _).mono ?_
  rintro e w1 ⟨rfl, rfl⟩
  go_wp2_with fail
  go_ret
  exact ⟨rfl, Gw.refl _⟩
 rw [row_same E heq]
 have HE := Lib.hid hE
 have HR := Lib.hid hR
 have HR' := Lib.hid hR'
 have HO := Lib.hid hl
 have HA := Lib.hid hA
 have HA' := Lib.hid hA'
 have HX := Lib.hid hx
 have HX' := Lib.hid hx'
 have HBg := Lib.hid hlen
 have HQ := Lib.hid heq
 have KC := Lib.hid (compare_i (l.length : Int) (l'.length : Int))
 rw [show cmpZ (l.length : Int) (l'.length : Int) = 0 from by rw [heq]; exact cmpZ_self _] at KC
 generalize hres : restC E l l' 0 = res
 have HRes := Lib.hid hres
 clear hE hR hR' hl hA hA' hx hx' hres
 obtain ⟨m, hm⟩ : ∃ m, m = l.length := ⟨_, rfl⟩
 obtain ⟨m', hm'⟩ : ∃ m', m' = l'.length := ⟨_, rfl⟩
 rw [← hm, ← hm'] at heq KC
 rw [← hm, ← hm']
 rw [← hm] at hlen HBg
 have HM := Lib.hid (And.intro hm hm')
 subst heq
 clear _hlen' hm hm'
 go_enter Tryz.func77, Tryz.ntmps77
 go_wp2_with fail
 refine (KC.out _).mono ?_
 rintro e w1 ⟨rfl, rfl⟩
 go_wp2_with fail
 go_loopw [20] (fun v wr => ∃ n : Nat, n ≤ m ∧ v = .int .i64 n ∧ Gw w wr ∧ restC E l l' n = res) (fun v _ => m - (intOf v).toNat)
 case atStart => exact ⟨0, by omega, rfl, Gw.refl _, HRes.out⟩
 case round =>
  obtain ⟨n, hn, rfl, hb, hrest⟩ := hrel
  have HB := Lib.hid hb
  have HRst := Lib.hid hrest
  clear hb hrest
  by_cases hlt : n < m
  case neg =>
   obtain rfl : n = m := by omega
   have tl : decide ((n : Int) < (n : Int)) = false := by simp
   have h0 : res = 0 := by rw [← HRst.out, HM.out.1]; exact rest_end E HQ.out
   have H0 := Lib.hid h0
   clear hlt h0
   go_wp2_with fail
   go_ret
   exact ⟨by rw [H0.out]; rfl, HB.out⟩
  have tl : decide ((n : Int) < (m : Int)) = true := by simp; omega
  have hn1 : n < l.length := by rw [← HM.out.1]; exact hlt
  have hn2 : n < l'.length := by rw [← HM.out.2]; exact hlt
  have hA := HA.out (by omega)
  have hA' := HA'.out (by omega)
  subst hA hA'
  have HL := Lib.hid hlt
  have hstep := rest_step E HE.out HQ.out hn1 hn2
  rw [HRst.out] at hstep
  have K7 := Lib.hid ((HO.out l[n] (List.getElem_mem hn1) l'[n]).ok wr.drew b (o + n * 6) b' (o' + n * 6) (HR.out _ _ _ _ _ HB.out.drew.below (HX.out n hn1)) (HR'.out _ _ _ _ _ HB.out.drew.below (HX'.out n hn2)))
  generalize lexC (E l[n]) (E l'[n]) = c7 at hstep K7
  have HNext : Hid (c7 = 0 → restC E l l' (n + 1) = res) := Lib.hid fun h => by rw [hstep, h, or2_zero]
  have HStop : Hid (c7 ≠ 0 → res = c7) := Lib.hid fun h => by rw [hstep, or2_ne h]
  have hltn : n < m := hlt
  clear hstep hlt hn1 hn2
  go_wp2_with fail
  go_wp2_with fail
  refine wp_region_held_drew (S := (fun _ => True)) (by kernel_rfl) trivial (fun hHeld => ?_)
  refine Plan.start [0, 1, 2, 3, 4, 5, 6] ?_
  iterate 7 ((refine Plan.take (v := ?_) (so rfl) (by kernel_rfl) (by kernel_rfl) (by kernel_rfl) (fun _ _ _ h => h) (Or.inl ⟨by rfl, ?_⟩) hHeld ?_; rotate_left; focus (intro w' hSw; (try dsimp only at hSw); go_simp; try with_reducible rfl)); try simp only [Act.put, List.setIfInBounds_toArray, List.set_cons_zero, List.set_cons_succ])
  refine Plan.done ?_
  refine wpAnyH_ready (rs := [7]) (by kernel_rfl) (by simp) ?_
  refine AllReadyH.cons (sd (some 30) rfl) (fun K hK => ?_) AllReadyH.nil
  go_simp
  refine K7.out.mono ?_
  rintro e w7 ⟨rfl, hb7⟩
  have HB7 := Lib.hid hb7
  clear hb7
  go_wp2_with fail
  refine hK.out _ _ (trivial) (fun hHeld => ?_)
  clear hK K
  try simp only [Act.put, List.setIfInBounds_toArray, List.set_cons_zero, List.set_cons_succ]
  refine wpAnyH_take (i := 8) (v := ?_) (sd (some 9) rfl) (by kernel_rfl) (by kernel_rfl) (by kernel_rfl) (fun _ _ _ h => h) (Or.inl ⟨by rfl, ?_⟩) hHeld ?_
  rotate_left
  ·intro w' hSw
   (try dsimp only at hSw)
   go_simp
   try with_reducible rfl
  try simp only [Act.put, List.setIfInBounds_toArray, List.set_cons_zero, List.set_cons_succ]
  refine wpAnyH_done (by kernel_rfl) ?_ _
  clear hHeld
  by_cases hc : c7 = 0
  ·have tc : (c7 != 0) = false := by simpa using hc
   have HR2 := Lib.hid (HNext.out hc)
   clear hc
   go_wp2_with fail
   refine ⟨⟨n + 1, HL.out, by go_num, HB.out.drew.trans HB7.out, HR2.out⟩, ?meas⟩
   case meas => exact measT HL.out
  ·have tc : (c7 != 0) = true := by simpa using hc
   have HR2 := Lib.hid (HStop.out hc)
   clear hc
   go_wp2_with fail
   go_ret
   exact ⟨by rw [← HR2.out]; rfl, HB.out.drew.trans HB7.out⟩
theorem all_fields {α : Type} (E : α → List Tok) (hE : ∀ x y, Clean (E x) (E y) (lexC (E x) (E y))) (R R' : α → World → Nat → Nat → Prop) (hR : ∀ x w w' b o, Below w.heap.size w w' → R x w b o → R x w' b o) (hR' : ∀ x w w' b o, Below w.heap.size w w' → R' x w b o → R' x w' b o)
  (l l' : List α) (hl : ∀ x ∈ l, ∀ y, OrdP 79 (R x) (R' y) (lexC (E x) (E y))) (A A' : Option Addr) (c c' : Nat) (w : World) (b o b' o' : Nat) (hA : 0 < l.length → A = some ⟨b, o, none⟩) (hA' : 0 < l'.length → A' = some ⟨b', o', none⟩) (hlen : l.length ≤ 1000000000000000) (_hlen' : l'.length ≤ 1000000000000000)
  (hx : ∀ i (h : i < l.length), R l[i] w b (o + i * 8)) (hx' : ∀ i (h : i < l'.length), R' l'[i] w b' (o' + i * 8)) :
  Calls Tryz.prog 78 #[.slice A l.length c, .slice A' l'.length c', .func (.func 79) #[] #[]] w fun e w' => e = .returned (.int .i64 (lexC (rowE E l) (rowE E l'))) ∧ Gw w w' := by
 by_cases heq : l.length = l'.length
 case neg =>
  rw [row_len E heq]
  have tc : (cmpZ l.length l'.length != 0) = true := by
   rw [bne_iff_ne]
   exact fun h => heq (by have := cmpZ_zero h; omega)
  have KC := Lib.hid (compare_i (l.length : Int) (l'.length : Int))
  generalize cmpZ (l.length : Int) (l'.length : Int) = cz at tc KC
  clear heq hx hx' hl hR hR' hA hA'
  go_enter Tryz.func78, Tryz.ntmps78
  go_wp2_with fail
  refine (KC.out _).mono ?_
  rintro e w1 ⟨rfl, rfl⟩
  go_wp2_with fail
  go_ret
  exact ⟨rfl, Gw.refl _⟩
 rw [row_same E heq]
 have HE := Lib.hid hE
 have HR := Lib.hid hR
 have HR' := Lib.hid hR'
 have HO := Lib.hid hl
 have HA := Lib.hid hA
 have HA' := Lib.hid hA'
 have HX := Lib.hid hx
 have HX' := Lib.hid hx'
 have HBg := Lib.hid hlen
 have HQ := Lib.hid heq
 have KC := Lib.hid (compare_i (l.length : Int) (l'.length : Int))
 rw [show cmpZ (l.length : Int) (l'.length : Int) = 0 from by rw [heq]; exact cmpZ_self _] at KC
 generalize hres : restC E l l' 0 = res
 have HRes := Lib.hid hres
 clear hE hR hR' hl hA hA' hx hx' hres
 obtain ⟨m, hm⟩ : ∃ m, m = l.length := ⟨_, rfl⟩
 obtain ⟨m', hm'⟩ : ∃ m', m' = l'.length := ⟨_, rfl⟩
 rw [← hm, ← hm'] at heq KC
 rw [← hm, ← hm']
 rw [← hm] at hlen HBg
 have HM := Lib.hid (And.intro hm hm')
 subst heq
 clear _hlen' hm hm'
 go_enter Tryz.func78, Tryz.ntmps78
 go_wp2_with fail
 refine (KC.out _).mono ?_
 rintro e w1 ⟨rfl, rfl⟩
 go_wp2_with fail
 go_loopw [20] (fun v wr => ∃ n : Nat, n ≤ m ∧ v = .int .i64 n ∧ Gw w wr ∧ restC E l l' n = res) (fun v _ => m - (intOf v).toNat)
 case atStart => exact ⟨0, by omega, rfl, Gw.refl _, HRes.out⟩
 case round =>
  obtain ⟨n, hn, rfl, hb, hrest⟩ := hrel
  have HB := Lib.hid hb
  have HRst := Lib.hid hrest
  clear hb hrest
  by_cases hlt : n < m
  case neg =>
   obtain rfl : n = m := by omega
   have tl : decide ((n : Int) < (n : Int)) = false := by simp
   have h0 : res = 0 := by rw [← HRst.out, HM.out.1]; exact rest_end E HQ.out
   have H0 := Lib.hid h0
   clear hlt h0
   go_wp2_with fail
   go_ret
   exact ⟨by rw [H0.out]; rfl, HB.out⟩
  have tl : decide ((n : Int) < (m : Int)) = true := by simp; omega
  have hn1 : n < l.length := by rw [← HM.out.1]; exact hlt
  have hn2 : n < l'.length := by rw [← HM.out.2]; exact hlt
  have hA := HA.out (by omega)
  have hA' := HA'.out (by omega)
  subst hA hA'
  have HL := Lib.hid hlt
  have hstep := rest_step E HE.out HQ.out hn1 hn2
  rw [HRst.out] at hstep
  have K7 := Lib.hid ((HO.out l[n] (List.getElem_mem hn1) l'[n]).ok wr.drew b (o + n * 8) b' (o' + n * 8) (HR.out _ _ _ _ _ HB.out.drew.below (HX.out n hn1)) (HR'.out _ _ _ _ _ HB.out.drew.below (HX'.out n hn2)))
  generalize lexC (E l[n]) (E l'[n]) = c7 at hstep K7
  have HNext : Hid (c7 = 0 → restC E l l' (n + 1) = res) := Lib.hid fun h => by rw [hstep, h, or2_zero]
  have HStop : Hid (c7 ≠ 0 → res = c7) := Lib.hid fun h => by rw [hstep, or2_ne h]
  have hltn : n < m := hlt
  clear hstep hlt hn1 hn2
  go_wp2_with fail
  go_wp2_with fail
  refine wp_region_held_drew (S := (fun _ => True)) (by kernel_rfl) trivial (fun hHeld => ?_)
  refine Plan.start [0, 1, 2, 3, 4, 5, 6] ?_
  iterate 7 ((refine Plan.take (v := ?_) (so rfl) (by kernel_rfl) (by kernel_rfl) (by kernel_rfl) (fun _ _ _ h => h) (Or.inl ⟨by rfl, ?_⟩) hHeld ?_; rotate_left; focus (intro w' hSw; (try dsimp only at hSw); go_simp; try with_reducible rfl)); try simp only [Act.put, List.setIfInBounds_toArray, List.set_cons_zero, List.set_cons_succ])
  refine Plan.done ?_
  refine wpAnyH_ready (rs := [7]) (by kernel_rfl) (by simp) ?_
  refine AllReadyH.cons (sd (some 30) rfl) (fun K hK => ?_) AllReadyH.nil
  go_simp
  refine K7.out.mono ?_
  rintro e w7 ⟨rfl, hb7⟩
  have HB7 := Lib.hid hb7
  clear hb7
  go_wp2_with fail
  refine hK.out _ _ (trivial) (fun hHeld => ?_)
  clear hK K
  try simp only [Act.put, List.setIfInBounds_toArray, List.set_cons_zero, List.set_cons_succ]
  refine wpAnyH_take (i := 8) (v := ?_) (sd (some 9) rfl) (by kernel_rfl) (by kernel_rfl) (by kernel_rfl) (fun _ _ _ h => h) (Or.inl ⟨by rfl, ?_⟩) hHeld ?_
  rotate_left
  ·intro w' hSw
   (try dsimp only at hSw)
   go_simp
   try with_reducible rfl
  try simp only [Act.put, List.setIfInBounds_toArray, List.set_cons_zero, List.set_cons_succ]
  refine wpAnyH_done (by kernel_rfl) ?_ _
  clear hHeld
  by_cases hc : c7 = 0
  ·have tc : (c7 != 0) = false := by simpa using hc
   have HR2 := Lib.hid (HNext.out hc)
   clear hc
   go_wp2_with fail
   refine ⟨⟨n + 1, HL.out, by go_num, HB.out.drew.trans HB7.out, HR2.out⟩, ?meas⟩
   case meas => exact measT HL.out
  ·have tc : (c7 != 0) = true := by simpa using hc
   have HR2 := Lib.hid (HStop.out hc)
   clear hc
   go_wp2_with fail
   go_ret
   exact ⟨by rw [← HR2.out]; rfl, HB.out.drew.trans HB7.out⟩
theorem all_vars {α : Type} (E : α → List Tok) (hE : ∀ x y, Clean (E x) (E y) (lexC (E x) (E y))) (R R' : α → World → Nat → Nat → Prop) (hR : ∀ x w w' b o, Below w.heap.size w w' → R x w b o → R x w' b o) (hR' : ∀ x w w' b o, Below w.heap.size w w' → R' x w b o → R' x w' b o)
  (l l' : List α) (hl : ∀ x ∈ l, ∀ y, OrdP 81 (R x) (R' y) (lexC (E x) (E y))) (A A' : Option Addr) (c c' : Nat) (w : World) (b o b' o' : Nat) (hA : 0 < l.length → A = some ⟨b, o, none⟩) (hA' : 0 < l'.length → A' = some ⟨b', o', none⟩) (hlen : l.length ≤ 1000000000000000) (_hlen' : l'.length ≤ 1000000000000000)
  (hx : ∀ i (h : i < l.length), R l[i] w b (o + i * 2)) (hx' : ∀ i (h : i < l'.length), R' l'[i] w b' (o' + i * 2)) :
  Calls Tryz.prog 80 #[.slice A l.length c, .slice A' l'.length c', .func (.func 81) #[] #[]] w fun e w' => e = .returned (.int .i64 (lexC (rowE E l) (rowE E l'))) ∧ Gw w w' := by
 by_cases heq : l.length = l'.length
 case neg =>
  rw [row_len E heq]
  have tc : (cmpZ l.length l'.length != 0) = true := by
   rw [bne_iff_ne]
   exact fun h => heq (by have := cmpZ_zero h; omega)
  have KC := Lib.hid (compare_i (l.length : Int) (l'.length : Int))
  generalize cmpZ (l.length : Int) (l'.length : Int) = cz at tc KC
  clear heq hx hx' hl hR hR' hA hA'
  go_enter Tryz.func80, Tryz.ntmps80
  go_wp2_with fail
  refine (KC.out _).mono ?_
  rintro e w1 ⟨rfl, rfl⟩
  go_wp2_with fail
  go_ret
  exact ⟨rfl, Gw.refl _⟩
 rw [row_same E heq]
 have HE := Lib.hid hE
 have HR := Lib.hid hR
 have HR' := Lib.hid hR'
 have HO := Lib.hid hl
 have HA := Lib.hid hA
 have HA' := Lib.hid hA'
 have HX := Lib.hid hx
 have HX' := Lib.hid hx'
 have HBg := Lib.hid hlen
 have HQ := Lib.hid heq
 have KC := Lib.hid (compare_i (l.length : Int) (l'.length : Int))
 rw [show cmpZ (l.length : Int) (l'.length : Int) = 0 from by rw [heq]; exact cmpZ_self _] at KC
 generalize hres : restC E l l' 0 = res
 have HRes := Lib.hid hres
 clear hE hR hR' hl hA hA' hx hx' hres
 obtain ⟨m, hm⟩ : ∃ m, m = l.length := ⟨_, rfl⟩
 obtain ⟨m', hm'⟩ : ∃ m', m' = l'.length := ⟨_, rfl⟩
 rw [← hm, ← hm'] at heq KC
 rw [← hm, ← hm']
 rw [← hm] at hlen HBg
 have HM := Lib.hid (And.intro hm hm')
 subst heq
 clear _hlen' hm hm'
 go_enter Tryz.func80, Tryz.ntmps80
 go_wp2_with fail
 refine (KC.out _).mono ?_
 rintro e w1 ⟨rfl, rfl⟩
 go_wp2_with fail
 go_loopw [20] (fun v wr => ∃ n : Nat, n ≤ m ∧ v = .int .i64 n ∧ Gw w wr ∧ restC E l l' n = res) (fun v _ => m - (intOf v).toNat)
 case atStart => exact ⟨0, by omega, rfl, Gw.refl _, HRes.out⟩
 case round =>
  obtain ⟨n, hn, rfl, hb, hrest⟩ := hrel
  have HB := Lib.hid hb
  have HRst := Lib.hid hrest
  clear hb hrest
  by_cases hlt : n < m
  case neg =>
   obtain rfl : n = m := by omega
   have tl : decide ((n : Int) < (n : Int)) = false := by simp
   have h0 : res = 0 := by rw [← HRst.out, HM.out.1]; exact rest_end E HQ.out
   have H0 := Lib.hid h0
   clear hlt h0
   go_wp2_with fail
   go_ret
   exact ⟨by rw [H0.out]; rfl, HB.out⟩
  have tl : decide ((n : Int) < (m : Int)) = true := by simp; omega
  have hn1 : n < l.length := by rw [← HM.out.1]; exact hlt
  have hn2 : n < l'.length := by rw [← HM.out.2]; exact hlt
  have hA := HA.out (by omega)
  have hA' := HA'.out (by omega)
  subst hA hA'
  have HL := Lib.hid hlt
  have hstep := rest_step E HE.out HQ.out hn1 hn2
  rw [HRst.out] at hstep
  have K7 := Lib.hid ((HO.out l[n] (List.getElem_mem hn1) l'[n]).ok wr.drew b (o + n * 2) b' (o' + n * 2) (HR.out _ _ _ _ _ HB.out.drew.below (HX.out n hn1)) (HR'.out _ _ _ _ _ HB.out.drew.below (HX'.out n hn2)))
  generalize lexC (E l[n]) (E l'[n]) = c7 at hstep K7
  have HNext : Hid (c7 = 0 → restC E l l' (n + 1) = res) := Lib.hid fun h => by rw [hstep, h, or2_zero]
  have HStop : Hid (c7 ≠ 0 → res = c7) := Lib.hid fun h => by rw [hstep, or2_ne h]
  have hltn : n < m := hlt
  clear hstep hlt hn1 hn2
  go_wp2_with fail
  go_wp2_with fail
  refine wp_region_held_drew (S := (fun _ => True)) (by kernel_rfl) trivial (fun hHeld => ?_)
  refine Plan.start [0, 1, 2, 3, 4, 5, 6] ?_
  iterate 7 ((refine Plan.take (v := ?_) (so rfl) (by kernel_rfl) (by kernel_rfl) (by kernel_rfl) (fun _ _ _ h => h) (Or.inl ⟨by rfl, ?_⟩) hHeld ?_; rotate_left; focus (intro w' hSw; (try dsimp only at hSw); go_simp; try with_reducible rfl)); try simp only [Act.put, List.setIfInBounds_toArray, List.set_cons_zero, List.set_cons_succ])
  refine Plan.done ?_
  refine wpAnyH_ready (rs := [7]) (by kernel_rfl) (by simp) ?_
  refine AllReadyH.cons (sd (some 30) rfl) (fun K hK => ?_) AllReadyH.nil
  go_simp
  refine K7.out.mono ?_
  rintro e w7 ⟨rfl, hb7⟩
  have HB7 := Lib.hid hb7
  clear hb7
  go_wp2_with fail
  refine hK.out _ _ (trivial) (fun hHeld => ?_)
  clear hK K
  try simp only [Act.put, List.setIfInBounds_toArray, List.set_cons_zero, List.set_cons_succ]
  refine wpAnyH_take (i := 8) (v := ?_) (sd (some 9) rfl) (by kernel_rfl) (by kernel_rfl) (by kernel_rfl) (fun _ _ _ h => h) (Or.inl ⟨by rfl, ?_⟩) hHeld ?_
  rotate_left
  ·intro w' hSw
   (try dsimp only at hSw)
   go_simp
   try with_reducible rfl
  try simp only [Act.put, List.setIfInBounds_toArray, List.set_cons_zero, List.set_cons_succ]
  refine wpAnyH_done (by kernel_rfl) ?_ _
  clear hHeld
  by_cases hc : c7 = 0
  ·have tc : (c7 != 0) = false := by simpa using hc
   have HR2 := Lib.hid (HNext.out hc)
   clear hc
   go_wp2_with fail
   refine ⟨⟨n + 1, HL.out, by go_num, HB.out.drew.trans HB7.out, HR2.out⟩, ?meas⟩
   case meas => exact measT HL.out
  ·have tc : (c7 != 0) = true := by simpa using hc
   have HR2 := Lib.hid (HStop.out hc)
   clear hc
   go_wp2_with fail
   go_ret
   exact ⟨by rw [← HR2.out]; rfl, HB.out.drew.trans HB7.out⟩
end Go.Proofs.YtfchnfnifpopnaaGreatDoor
