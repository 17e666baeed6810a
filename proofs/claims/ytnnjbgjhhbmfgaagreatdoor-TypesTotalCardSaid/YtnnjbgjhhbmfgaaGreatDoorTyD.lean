import Derived.Test.YtnnjbgjhhbmfgaaGreatDoorTyC
namespace Go.Proofs.YtnnjbgjhhbmfgaaGreatDoor
/-- Types that rise. -/
def Asc (l : List Ty) : Prop := l.Pairwise fun a b => ordT a b = -1
theorem ordT_gt {a b : Ty} (h : ordT a b = 1) : ordT b a = -1 := by rw [ordT_flip, h]
theorem asc_unique : ∀ {l l' : List Ty}, Asc l → Asc l' → (∀ x, x ∈ l ↔ x ∈ l') → l = l'
  | [], [], _, _, _ => rfl
  | [], b :: l', _, _, h => absurd ((h b).2 (List.mem_cons_self ..)) (by simp)
  | a :: l, [], _, _, h => absurd ((h a).1 (List.mem_cons_self ..)) (by simp)
  | a :: l, b :: l', h, h', hm => by
    obtain ⟨h1, h2⟩ := List.pairwise_cons.1 h
    obtain ⟨h1', h2'⟩ := List.pairwise_cons.1 h'
    have hab : a = b := by
      rcases List.mem_cons.1 ((hm a).1 (List.mem_cons_self ..)) with e | e
      · exact e
      · rcases List.mem_cons.1 ((hm b).2 (List.mem_cons_self ..)) with e' | e'
        · exact e'.symm
        · have x1 := h1' a e
          have x2 := h1 b e'
          rw [ordT_flip, x2] at x1
          cases x1
    subst hab
    have ht : ∀ x, x ∈ l ↔ x ∈ l' := by
      intro x
      constructor
      · intro hx
        rcases List.mem_cons.1 ((hm x).1 (List.mem_cons_of_mem _ hx)) with e | e
        · subst e
          have := h1 x hx
          rw [ordT_zero.2 rfl] at this
          cases this
        · exact e
      · intro hx
        rcases List.mem_cons.1 ((hm x).2 (List.mem_cons_of_mem _ hx)) with e | e
        · subst e
          have := h1' x hx
          rw [ordT_zero.2 rfl] at this
          cases this
        · exact e
    rw [asc_unique h2 h2' ht]
/-- A type put into a rising list, if it isn't there. -/
def insT (t : Ty) : List Ty → List Ty
  | [] => [t]
  | a :: l => if ordT t a = -1 then t :: a :: l else if ordT t a = 0 then a :: l else a :: insT t l
theorem mem_insT (t x : Ty) : ∀ l, x ∈ insT t l ↔ x = t ∨ x ∈ l
  | [] => by simp [insT]
  | a :: l => by
    rw [insT]
    split
    · simp
    · split
      · rename_i h
        have := ordT_zero.1 h
        subst this
        simp
      · simp only [List.mem_cons, mem_insT t x l]
        constructor
        · rintro (h | h | h)
          · exact .inr (.inl h)
          · exact .inl h
          · exact .inr (.inr h)
        · rintro (h | h | h)
          · exact .inr (.inl h)
          · exact .inl h
          · exact .inr (.inr h)
theorem asc_insT (t : Ty) : ∀ {l}, Asc l → Asc (insT t l)
  | [], _ => by simp [insT, Asc]
  | a :: l, h => by
    obtain ⟨h1, h2⟩ := List.pairwise_cons.1 h
    rw [insT]
    split
    · rename_i hlt
      refine List.pairwise_cons.2 ⟨fun x hx => ?_, h⟩
      rcases List.mem_cons.1 hx with rfl | hx
      · exact hlt
      · exact ordT_trans hlt (h1 x hx)
    · split
      · exact h
      · rename_i h3 h4
        refine List.pairwise_cons.2 ⟨fun x hx => ?_, asc_insT t h2⟩
        rcases (mem_insT t x l).1 hx with rfl | hx
        · rcases ordT_bd x a with e | e | e
          · exact absurd e h3
          · exact absurd e h4
          · exact ordT_gt e
        · exact h1 x hx
def sortT (l : List Ty) : List Ty := l.foldr insT []
theorem mem_sortT (x : Ty) : ∀ l, x ∈ sortT l ↔ x ∈ l
  | [] => by simp [sortT]
  | a :: l => by
    show x ∈ insT a (sortT l) ↔ _
    rw [mem_insT, mem_sortT x l, List.mem_cons]
theorem asc_sortT : ∀ l, Asc (sortT l)
  | [] => by simp [sortT, Asc]
  | a :: l => asc_insT a (asc_sortT l)
theorem sortT_of {l s : List Ty} (h : Asc s) (hm : ∀ x, x ∈ s ↔ x ∈ l) : sortT l = s :=
  asc_unique (asc_sortT l) h fun x => (mem_sortT x l).trans (hm x).symm
theorem sortT_self {l : List Ty} (h : Asc l) : sortT l = l := sortT_of h fun _ => Iff.rfl
/-- The types of a type, the parts of unions in the place of these. -/
def parts1 : Ty → List Ty
  | .mk k t n ps fs vs => if k = 15 then (ps.attach.map fun ⟨p, _⟩ => parts1 p).flatten else [.mk k t n ps fs vs]
termination_by t => SizeOf.sizeOf t
decreasing_by exact ty_lt_p ‹_›
def flatU (l : List Ty) : List Ty := (l.map parts1).flatten
theorem parts1_mk (k t n ps fs vs) : parts1 (.mk k t n ps fs vs) = if k = 15 then flatU ps else [.mk k t n ps fs vs] := by
  rw [parts1]
  unfold flatU
  simp only [List.map_attach_eq_pmap, List.pmap_eq_map]
theorem flatU_cons (a : Ty) (l : List Ty) : flatU (a :: l) = parts1 a ++ flatU l := by simp [flatU]
theorem flatU_app (a l : List Ty) : flatU (a ++ l) = flatU a ++ flatU l := by simp [flatU]
def hasK (k : Int) (l : List Ty) : Bool := l.any fun t => t.k == k
/-- Is it, or has it, a place named by infer? -/
def infT : Ty → Bool
  | .mk k _ _ ps fs _ => k == 22 || (ps.attach.mapIdx fun i ⟨p, _⟩ => !(k == 21 && i == 1) && infT p).any id || (fs.attach.map fun ⟨f, _⟩ => infT f.2.2).any id
termination_by t => SizeOf.sizeOf t
decreasing_by
  · exact ty_lt_p ‹_›
  · exact ty_lt_f ‹_›
def infPs (k : Int) : Nat → List Ty → Bool
  | _, [] => false
  | i, p :: l => (!(k == 21 && i == 1) && infT p) || infPs k (i + 1) l
def infFs (l : List (ByteArray × Int × Ty)) : Bool := l.any fun f => infT f.2.2
theorem any_mapIdx {α : Type} (k : Int) (g : α → Ty) : ∀ (l : List α) (j : Nat), (l.mapIdx fun i p => !(k == 21 && (i + j) == 1) && infT (g p)).any id = infPs k j (l.map g)
  | [], _ => rfl
  | a :: l, j => by
    rw [List.mapIdx_cons, List.any_cons, List.map_cons, infPs, ← any_mapIdx k g l (j + 1)]
    simp only [Nat.zero_add, id_eq, Nat.add_assoc, Nat.add_comm 1 j]
theorem infT_mk (k t n ps fs vs) : infT (.mk k t n ps fs vs) = (k == 22 || infPs k 0 ps || infFs fs) := by
  rw [infT]
  have h := any_mapIdx k (fun p : {x // x ∈ ps} => p.1) ps.attach 0
  simp only [Nat.add_zero] at h
  rw [h]
  unfold infFs
  simp only [List.map_attach_eq_pmap, List.pmap_eq_map, List.any_map, List.map_id']
  rfl
/-- Which of the kinds that swallow others are among types: any, unknown, number, text. -/
structure Kinds where
  a : Bool
  u : Bool
  n : Bool
  s : Bool
def kindsOf (l : List Ty) : Kinds := ⟨hasK 3 l, hasK 2 l, hasK 7 l, hasK 8 l⟩
def keepT (h : Kinds) (t : Ty) : Bool :=
  if t.k = 1 then false else if t.k = 3 then true else if t.k = 2 ∧ h.a = false then true else if h.a = true ∨ h.u = true then infT t else if t.k = 9 then !h.n else if t.k = 10 then !h.s else true
def keptU (l : List Ty) : List Ty := (flatU l).filter (keepT (kindsOf (flatU l)))
def emptyB : ByteArray := ⟨#[]⟩
def tyK (k : Int) : Ty := .mk k emptyB 0 [] [] []
def shutU : List Ty → Ty
  | [] => tyK 1
  | [x] => x
  | x :: y :: l => .mk 15 emptyB 0 (x :: y :: l) [] []
def unionT (l : List Ty) : Ty := shutU (sortT (keptU l))
end Go.Proofs.YtnnjbgjhhbmfgaaGreatDoor
