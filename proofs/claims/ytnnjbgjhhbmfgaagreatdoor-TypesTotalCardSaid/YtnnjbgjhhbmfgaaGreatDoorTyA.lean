import Derived.Lib.Hide
namespace Go.Proofs.YtnnjbgjhhbmfgaaGreatDoor
/-- A type: its kind, text, number, parts, fields (name, flags, type), variables (name, bounds). -/
inductive Ty where
  | mk (k : Int) (t : ByteArray) (n : Int) (ps : List Ty) (fs : List (ByteArray × Int × Ty)) (vs : List (ByteArray × List Ty))
def Ty.k : Ty → Int | .mk k _ _ _ _ _ => k
def Ty.t : Ty → ByteArray | .mk _ t _ _ _ _ => t
def Ty.n : Ty → Int | .mk _ _ n _ _ _ => n
def Ty.ps : Ty → List Ty | .mk _ _ _ ps _ _ => ps
def Ty.fs : Ty → List (ByteArray × Int × Ty) | .mk _ _ _ _ fs _ => fs
def Ty.vs : Ty → List (ByteArray × List Ty) | .mk _ _ _ _ _ vs => vs
theorem ty_lt_p {k t n ps fs vs} {p : Ty} (h : p ∈ ps) : SizeOf.sizeOf p < SizeOf.sizeOf (Ty.mk k t n ps fs vs) := by
  have := List.sizeOf_lt_of_mem h
  simp
  omega
theorem ty_lt_f {k t n ps fs vs} {f : ByteArray × Int × Ty} (h : f ∈ fs) : SizeOf.sizeOf f.2.2 < SizeOf.sizeOf (Ty.mk k t n ps fs vs) := by
  have := List.sizeOf_lt_of_mem h
  obtain ⟨a, b, c⟩ := f
  simp at this ⊢
  omega
theorem ty_lt_v {k t n ps fs vs} {v : ByteArray × List Ty} {b : Ty} (h : v ∈ vs) (h2 : b ∈ v.2) : SizeOf.sizeOf b < SizeOf.sizeOf (Ty.mk k t n ps fs vs) := by
  have h1 := List.sizeOf_lt_of_mem h
  have h3 := List.sizeOf_lt_of_mem h2
  obtain ⟨a, c⟩ := v
  simp at h1 h3 ⊢
  omega
theorem Ty.ind {C : Ty → Prop} (step : ∀ k t n ps fs vs, (∀ p ∈ ps, C p) → (∀ f ∈ fs, C f.2.2) → (∀ v ∈ vs, ∀ b ∈ v.2, C b) → C (.mk k t n ps fs vs)) (t : Ty) : C t := by
  have key : ∀ s (t : Ty), SizeOf.sizeOf t = s → C t := by
    intro s
    induction s using Nat.strongRecOn with
    | _ s ih =>
      intro t hs
      obtain ⟨k, t, n, ps, fs, vs⟩ := t
      exact step k t n ps fs vs (fun p hp => ih _ (hs ▸ ty_lt_p hp) p rfl) (fun f hf => ih _ (hs ▸ ty_lt_f hf) _ rfl) (fun v hv b hb => ih _ (hs ▸ ty_lt_v hv hb) b rfl)
  exact key _ t rfl
/-- What a type is compared by, one behind the other. -/
inductive Tok where
  | i (n : Int)
  | s (b : ByteArray)
def cmpB (a b : ByteArray) : Int := if a.data.toList < b.data.toList then -1 else if b.data.toList < a.data.toList then 1 else 0
def cmpZ (a b : Int) : Int := if a < b then -1 else if b < a then 1 else 0
def cmpTok : Tok → Tok → Int
  | .i a, .i b => cmpZ a b
  | .s a, .s b => cmpB a b
  | .i _, .s _ => -1
  | .s _, .i _ => 1
theorem tot_list {a b : List UInt8} (h1 : ¬ a < b) (h2 : ¬ b < a) : a = b := List.le_antisymm (List.not_lt.1 h2) (List.not_lt.1 h1)
theorem bytes_ext {a b : ByteArray} (h : a.data.toList = b.data.toList) : a = b := by
  cases a; cases b
  simp only [ByteArray.mk.injEq]
  exact Array.ext' h
theorem cmpB_zero {a b : ByteArray} (h : cmpB a b = 0) : a = b := by
  unfold cmpB at h
  split at h
  · cases h
  · split at h
    · cases h
    · rename_i h1 h2; exact bytes_ext (tot_list h1 h2)
theorem cmpB_self (a : ByteArray) : cmpB a a = 0 := by
  unfold cmpB
  rw [if_neg (List.lt_irrefl _), if_neg (List.lt_irrefl _)]
theorem cmpZ_zero {a b : Int} (h : cmpZ a b = 0) : a = b := by
  unfold cmpZ at h
  split at h
  · cases h
  · split at h
    · cases h
    · omega
theorem cmpZ_self (a : Int) : cmpZ a a = 0 := by unfold cmpZ; simp
theorem cmpZ_flip (a b : Int) : cmpZ b a = - cmpZ a b := by
  unfold cmpZ
  split <;> split <;> first | omega | rfl | (split <;> omega) | skip
theorem cmpB_flip (a b : ByteArray) : cmpB b a = - cmpB a b := by
  unfold cmpB
  by_cases h1 : a.data.toList < b.data.toList
  · rw [if_pos h1, if_neg (fun h => List.lt_irrefl _ (List.lt_trans h h1))]; simp [h1]
  · rw [if_neg h1]
    by_cases h2 : b.data.toList < a.data.toList
    · rw [if_pos h2, if_neg h1, if_pos h2]
    · rw [if_neg h2, if_neg h1, if_neg h2]; rfl
theorem cmpTok_flip : ∀ a b, cmpTok b a = - cmpTok a b
  | .i a, .i b => cmpZ_flip a b
  | .s a, .s b => cmpB_flip a b
  | .i _, .s _ => rfl
  | .s _, .i _ => rfl
theorem cmpTok_zero : ∀ {a b}, cmpTok a b = 0 → a = b
  | .i _, .i _, h => by rw [cmpZ_zero h]
  | .s _, .s _, h => by rw [cmpB_zero h]
  | .i _, .s _, h => by cases h
  | .s _, .i _, h => by cases h
theorem cmpTok_self : ∀ a, cmpTok a a = 0
  | .i a => cmpZ_self a
  | .s a => cmpB_self a
theorem cmpZ_bd (a b : Int) : cmpZ a b = -1 ∨ cmpZ a b = 0 ∨ cmpZ a b = 1 := by
  unfold cmpZ
  split
  · exact .inl rfl
  · split
    · exact .inr (.inr rfl)
    · exact .inr (.inl rfl)
theorem cmpB_bd (a b : ByteArray) : cmpB a b = -1 ∨ cmpB a b = 0 ∨ cmpB a b = 1 := by
  unfold cmpB
  split
  · exact .inl rfl
  · split
    · exact .inr (.inr rfl)
    · exact .inr (.inl rfl)
theorem cmpTok_bd : ∀ a b, cmpTok a b = -1 ∨ cmpTok a b = 0 ∨ cmpTok a b = 1
  | .i a, .i b => cmpZ_bd a b
  | .s a, .s b => cmpB_bd a b
  | .i _, .s _ => .inl rfl
  | .s _, .i _ => .inr (.inr rfl)
theorem cmpZ_lt {a b : Int} : cmpZ a b = -1 ↔ a < b := by
  unfold cmpZ
  split
  · simp_all
  · split <;> simp_all
theorem cmpB_lt {a b : ByteArray} : cmpB a b = -1 ↔ a.data.toList < b.data.toList := by
  unfold cmpB
  split
  · simp_all
  · split <;> simp_all
theorem cmpTok_trans : ∀ {a b c}, cmpTok a b = -1 → cmpTok b c = -1 → cmpTok a c = -1
  | .i _, .i _, .i _, h1, h2 => cmpZ_lt.2 (by have := cmpZ_lt.1 h1; have := cmpZ_lt.1 h2; omega)
  | .s _, .s _, .s _, h1, h2 => cmpB_lt.2 (List.lt_trans (cmpB_lt.1 h1) (cmpB_lt.1 h2))
  | .i _, _, .s _, _, _ => rfl
  | .i _, .s _, .i _, _, h2 => by cases h2
  | .s _, .i _, _, h1, _ => by cases h1
  | .s _, .s _, .i _, _, h2 => by cases h2
/-- The order of two rows of what is compared. -/
def lexC : List Tok → List Tok → Int
  | [], [] => 0
  | [], _ :: _ => -1
  | _ :: _, [] => 1
  | a :: x, b :: y => if cmpTok a b ≠ 0 then cmpTok a b else lexC x y
theorem lexC_self : ∀ x, lexC x x = 0
  | [] => rfl
  | a :: x => by rw [lexC, cmpTok_self, if_neg (by simp), lexC_self x]
theorem lexC_zero : ∀ {x y}, lexC x y = 0 → x = y
  | [], [], _ => rfl
  | [], _ :: _, h => by cases h
  | _ :: _, [], h => by cases h
  | a :: x, b :: y, h => by
    rw [lexC] at h
    split at h
    · rename_i h1; exact absurd h h1
    · rename_i h1
      rw [cmpTok_zero (Classical.byContradiction h1), lexC_zero h]
theorem lexC_flip : ∀ x y, lexC y x = - lexC x y
  | [], [] => rfl
  | [], _ :: _ => rfl
  | _ :: _, [] => rfl
  | a :: x, b :: y => by
    rw [lexC, lexC, cmpTok_flip a b, lexC_flip x y]
    by_cases h : cmpTok a b = 0
    · rw [h]; simp
    · rw [if_pos (by omega), if_pos h]
theorem lexC_bd : ∀ x y, lexC x y = -1 ∨ lexC x y = 0 ∨ lexC x y = 1
  | [], [] => .inr (.inl rfl)
  | [], _ :: _ => .inl rfl
  | _ :: _, [] => .inr (.inr rfl)
  | a :: x, b :: y => by
    rw [lexC]
    split
    · exact cmpTok_bd a b
    · exact lexC_bd x y
theorem lexC_trans : ∀ {x y z}, lexC x y = -1 → lexC y z = -1 → lexC x z = -1
  | [], _, _ :: _, _, _ => rfl
  | [], [], [], h, _ => by cases h
  | [], _ :: _, [], _, h => by cases h
  | _ :: _, [], _, h, _ => by cases h
  | _ :: _, _ :: _, [], _, h => by cases h
  | a :: x, b :: y, c :: z, h1, h2 => by
    rw [lexC] at h1 h2 ⊢
    by_cases e1 : cmpTok a b = 0
    · rw [if_neg (by simpa using e1)] at h1
      have := cmpTok_zero e1
      subst this
      by_cases e2 : cmpTok a c = 0
      · rw [if_neg (by simpa using e2)] at h2 ⊢
        exact lexC_trans h1 h2
      · rw [if_pos e2] at h2 ⊢
        exact h2
    · rw [if_pos e1] at h1
      by_cases e2 : cmpTok b c = 0
      · have := cmpTok_zero e2
        subst this
        rw [if_pos e1]
        exact h1
      · rw [if_pos e2] at h2
        have := cmpTok_trans h1 h2
        rw [if_pos (by rw [this]; decide)]
        exact this
/-- Whatever stands behind, the order is c, or what stands behind decides. -/
def Clean (x y : List Tok) (c : Int) : Prop := ∀ r s, lexC (x ++ r) (y ++ s) = if c ≠ 0 then c else lexC r s
theorem Clean.nil : Clean [] [] 0 := fun r s => by simp
theorem Clean.tok (a b : Tok) : Clean [a] [b] (cmpTok a b) := fun r s => by simp [lexC]
theorem Clean.app {x y x' y' : List Tok} {c c' : Int} (h : Clean x y c) (h' : Clean x' y' c') : Clean (x ++ x') (y ++ y') (if c ≠ 0 then c else c') := fun r s => by
  rw [List.append_assoc, List.append_assoc, h, h']
  by_cases e : c = 0
  · simp [e]
  · simp [e]
theorem Clean.first {x y x' y' : List Tok} {c : Int} (h : Clean x y c) (hc : c ≠ 0) : Clean (x ++ x') (y ++ y') c := fun r s => by
  rw [List.append_assoc, List.append_assoc, h, if_pos hc, if_pos hc]
theorem Clean.val {x y : List Tok} {c : Int} (h : Clean x y c) : lexC x y = c := by
  have := h [] []
  rw [List.append_nil, List.append_nil] at this
  rw [this]
  by_cases e : c = 0
  · simp [e, lexC]
  · simp [e]
theorem Clean.to {x y : List Tok} {c c' : Int} (h : Clean x y c) (e : c = c') : Clean x y c' := e ▸ h
def flat : Ty → List Tok
  | .mk k t n ps fs vs => [.i k, .s t, .i n] ++ ((.i ps.length :: (ps.attach.map fun ⟨p, _⟩ => flat p).flatten) ++ ((.i fs.length :: (fs.attach.map fun ⟨f, _⟩ => [.s f.1, .i f.2.1] ++ flat f.2.2).flatten) ++ (.i vs.length :: (vs.attach.map fun ⟨v, _⟩ => .s v.1 :: .i v.2.length :: (v.2.attach.map fun ⟨b, _⟩ => flat b).flatten).flatten)))
termination_by t => SizeOf.sizeOf t
decreasing_by
  · exact ty_lt_p ‹_›
  · exact ty_lt_f ‹_›
  · exact ty_lt_v ‹_› ‹_›
def flatL (l : List Ty) : List Tok := .i l.length :: (l.map flat).flatten
def flatF (l : List (ByteArray × Int × Ty)) : List Tok := .i l.length :: (l.map fun f => [.s f.1, .i f.2.1] ++ flat f.2.2).flatten
def flatV (l : List (ByteArray × List Ty)) : List Tok := .i l.length :: (l.map fun v => .s v.1 :: flatL v.2).flatten
theorem flat_mk (k t n ps fs vs) : flat (.mk k t n ps fs vs) = [.i k, .s t, .i n] ++ (flatL ps ++ (flatF fs ++ flatV vs)) := by
  rw [flat]
  unfold flatL flatF flatV flatL
  simp only [List.map_attach_eq_pmap, List.pmap_eq_map]
def ordT (a b : Ty) : Int := lexC (flat a) (flat b)
end Go.Proofs.YtnnjbgjhhbmfgaaGreatDoor
