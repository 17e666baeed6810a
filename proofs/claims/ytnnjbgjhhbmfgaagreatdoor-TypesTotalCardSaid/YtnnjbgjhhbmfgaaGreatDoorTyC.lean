import Derived.Test.YtnnjbgjhhbmfgaaGreatDoorTyA
namespace Go.Proofs.YtnnjbgjhhbmfgaaGreatDoor
/-- The first of two that isn't nought. -/
def or2 (a b : Int) : Int := if a ≠ 0 then a else b
theorem or2_zero (b : Int) : or2 0 b = b := by simp [or2]
theorem or2_ne {a : Int} (h : a ≠ 0) (b : Int) : or2 a b = a := by simp [or2, h]
theorem Clean.self {x y : List Tok} {c : Int} (h : Clean x y c) : Clean x y (lexC x y) := h.to h.val.symm
theorem Clean.lex_app {x y x' y' : List Tok} {c c' : Int} (h : Clean x y c) (h' : Clean x' y' c') : lexC (x ++ x') (y ++ y') = or2 (lexC x y) (lexC x' y') := by
  rw [(h.app h').val, h.val, h'.val]
  rfl
theorem Clean.items {α : Type} (e : α → List Tok) : ∀ (l l' : List α), l.length = l'.length → (∀ x ∈ l, ∀ y, Clean (e x) (e y) (lexC (e x) (e y))) → Clean (l.map e).flatten (l'.map e).flatten (lexC (l.map e).flatten (l'.map e).flatten)
  | [], [], _, _ => Clean.nil.self
  | [], _ :: _, h, _ => by simp at h
  | _ :: _, [], h, _ => by simp at h
  | a :: l, b :: l', h, hc => by
    simp only [List.map_cons, List.flatten_cons]
    exact ((hc a (List.mem_cons_self ..) b).app (Clean.items e l l' (by simpa using h) (fun x hx => hc x (List.mem_cons_of_mem _ hx)))).self
def rowE {α : Type} (e : α → List Tok) (l : List α) : List Tok := .i l.length :: (l.map e).flatten
theorem Clean.rows {α : Type} (e : α → List Tok) (l l' : List α) (hc : ∀ x ∈ l, ∀ y, Clean (e x) (e y) (lexC (e x) (e y))) : Clean (rowE e l) (rowE e l') (lexC (rowE e l) (rowE e l')) := by
  unfold rowE
  by_cases h : l.length = l'.length
  · exact ((Clean.tok (.i l.length) (.i l'.length)).app (Clean.items e l l' h hc)).self
  · exact ((Clean.tok (.i l.length) (.i l'.length)).first (by
      intro h0
      have := cmpTok_zero h0
      simp at this
      omega)).self
theorem flatL_row : flatL = rowE flat := rfl
theorem flatF_row : flatF = rowE fun f => [.s f.1, .i f.2.1] ++ flat f.2.2 := rfl
theorem flatV_row : flatV = rowE fun v => .s v.1 :: flatL v.2 := rfl
theorem flat_clean (a : Ty) : ∀ b, Clean (flat a) (flat b) (ordT a b) := by
  refine Ty.ind (C := fun a => ∀ b, Clean (flat a) (flat b) (ordT a b)) ?_ a
  intro k t n ps fs vs ihp ihf ihv b
  obtain ⟨k', t', n', ps', fs', vs'⟩ := b
  unfold ordT
  rw [flat_mk, flat_mk]
  have h3 : Clean [.i k, .s t, .i n] [.i k', .s t', .i n'] (lexC [.i k, .s t, .i n] [.i k', .s t', .i n']) := ((Clean.tok (.i k) (.i k')).app ((Clean.tok (.s t) (.s t')).app (Clean.tok (.i n) (.i n')))).self
  have hp : Clean (flatL ps) (flatL ps') (lexC (flatL ps) (flatL ps')) := by
    rw [flatL_row]
    exact Clean.rows flat ps ps' fun x hx y => ihp x hx y
  have hf : Clean (flatF fs) (flatF fs') (lexC (flatF fs) (flatF fs')) := by
    rw [flatF_row]
    refine Clean.rows _ fs fs' fun x hx y => ?_
    exact (((Clean.tok (.s x.1) (.s y.1)).app (Clean.tok (.i x.2.1) (.i y.2.1))).app (ihf x hx y.2.2)).self
  have hv : Clean (flatV vs) (flatV vs') (lexC (flatV vs) (flatV vs')) := by
    rw [flatV_row]
    refine Clean.rows _ vs vs' fun x hx y => ?_
    exact ((Clean.tok (.s x.1) (.s y.1)).app (Clean.rows flat x.2 y.2 fun b hb y => ihv x hx b hb y)).self
  exact (h3.app (hp.app (hf.app hv))).self
theorem cleanT (a b : Ty) : Clean (flat a) (flat b) (lexC (flat a) (flat b)) := flat_clean a b
theorem cleanL (l l' : List Ty) : Clean (flatL l) (flatL l') (lexC (flatL l) (flatL l')) := Clean.rows flat l l' fun x _ y => cleanT x y
theorem cleanFd (x y : ByteArray × Int × Ty) : Clean ([Tok.s x.1, .i x.2.1] ++ flat x.2.2) ([.s y.1, .i y.2.1] ++ flat y.2.2) (lexC ([.s x.1, .i x.2.1] ++ flat x.2.2) ([.s y.1, .i y.2.1] ++ flat y.2.2)) :=
  (((Clean.tok (.s x.1) (.s y.1)).app (Clean.tok (.i x.2.1) (.i y.2.1))).app (cleanT x.2.2 y.2.2)).self
theorem cleanF (l l' : List (ByteArray × Int × Ty)) : Clean (flatF l) (flatF l') (lexC (flatF l) (flatF l')) := Clean.rows _ l l' fun x _ y => cleanFd x y
theorem cleanVr (x y : ByteArray × List Ty) : Clean (Tok.s x.1 :: flatL x.2) (.s y.1 :: flatL y.2) (lexC (.s x.1 :: flatL x.2) (.s y.1 :: flatL y.2)) := ((Clean.tok (.s x.1) (.s y.1)).app (cleanL x.2 y.2)).self
theorem cleanV (l l' : List (ByteArray × List Ty)) : Clean (flatV l) (flatV l') (lexC (flatV l) (flatV l')) := Clean.rows _ l l' fun x _ y => cleanVr x y
theorem lexC_tok (a b : Tok) : lexC [a] [b] = cmpTok a b := (Clean.tok a b).val
/-- The steps by which two types are compared. -/
theorem ord_steps (k t n ps fs vs k' t' n' ps' fs' vs') : ordT (.mk k t n ps fs vs) (.mk k' t' n' ps' fs' vs') = or2 (cmpZ k k') (or2 (cmpB t t') (or2 (cmpZ n n') (or2 (lexC (flatL ps) (flatL ps')) (or2 (lexC (flatF fs) (flatF fs')) (lexC (flatV vs) (flatV vs')))))) := by
  unfold ordT
  rw [flat_mk, flat_mk]
  have e1 : ([Tok.i k, .s t, .i n] ++ (flatL ps ++ (flatF fs ++ flatV vs))) = [.i k] ++ ([.s t] ++ ([.i n] ++ (flatL ps ++ (flatF fs ++ flatV vs)))) := rfl
  have e2 : ([Tok.i k', .s t', .i n'] ++ (flatL ps' ++ (flatF fs' ++ flatV vs'))) = [.i k'] ++ ([.s t'] ++ ([.i n'] ++ (flatL ps' ++ (flatF fs' ++ flatV vs')))) := rfl
  have c0 := (cleanF fs fs').app (cleanV vs vs')
  have c1 := (cleanL ps ps').app c0
  have c2 := (Clean.tok (.i n) (.i n')).app c1
  have c3 := (Clean.tok (.s t) (.s t')).app c2
  rw [e1, e2, (Clean.tok (.i k) (.i k')).lex_app c3, (Clean.tok (.s t) (.s t')).lex_app c2, (Clean.tok (.i n) (.i n')).lex_app c1, (cleanL ps ps').lex_app c0, (cleanF fs fs').lex_app (cleanV vs vs'), lexC_tok, lexC_tok, lexC_tok]
  rfl
theorem field_steps (x y : ByteArray × Int × Ty) : lexC ([Tok.s x.1, .i x.2.1] ++ flat x.2.2) ([.s y.1, .i y.2.1] ++ flat y.2.2) = or2 (cmpB x.1 y.1) (or2 (cmpZ x.2.1 y.2.1) (ordT x.2.2 y.2.2)) := by
  have e1 : ([Tok.s x.1, .i x.2.1] ++ flat x.2.2) = [.s x.1] ++ ([.i x.2.1] ++ flat x.2.2) := rfl
  have e2 : ([Tok.s y.1, .i y.2.1] ++ flat y.2.2) = [.s y.1] ++ ([.i y.2.1] ++ flat y.2.2) := rfl
  have c1 := (Clean.tok (.i x.2.1) (.i y.2.1)).app (cleanT x.2.2 y.2.2)
  rw [e1, e2, (Clean.tok (.s x.1) (.s y.1)).lex_app c1, (Clean.tok (.i x.2.1) (.i y.2.1)).lex_app (cleanT x.2.2 y.2.2), lexC_tok, lexC_tok]
  rfl
theorem var_steps (x y : ByteArray × List Ty) : lexC (Tok.s x.1 :: flatL x.2) (.s y.1 :: flatL y.2) = or2 (cmpB x.1 y.1) (lexC (flatL x.2) (flatL y.2)) := by
  have e1 : (Tok.s x.1 :: flatL x.2) = [.s x.1] ++ flatL x.2 := rfl
  have e2 : (Tok.s y.1 :: flatL y.2) = [.s y.1] ++ flatL y.2 := rfl
  rw [e1, e2, (Clean.tok (.s x.1) (.s y.1)).lex_app (cleanL x.2 y.2), lexC_tok]
  rfl
/-- What is left of two lists of one length, from place i on. -/
def restC {α : Type} (e : α → List Tok) (l l' : List α) (i : Nat) : Int := lexC ((l.drop i).map e).flatten ((l'.drop i).map e).flatten
theorem row_len {α : Type} (e : α → List Tok) {l l' : List α} (h : l.length ≠ l'.length) : lexC (rowE e l) (rowE e l') = cmpZ l.length l'.length := by
  have hne : cmpTok (.i l.length) (.i l'.length) ≠ 0 := by
    intro h0
    have := cmpTok_zero h0
    simp at this
    omega
  unfold rowE
  rw [lexC, if_pos hne]
  rfl
theorem row_same {α : Type} (e : α → List Tok) {l l' : List α} (h : l.length = l'.length) : lexC (rowE e l) (rowE e l') = restC e l l' 0 := by
  unfold rowE restC
  rw [lexC, h, if_neg (by simp [cmpTok_self])]
  rfl
theorem rest_end {α : Type} (e : α → List Tok) {l l' : List α} (h : l.length = l'.length) : restC e l l' l.length = 0 := by
  unfold restC
  rw [List.drop_of_length_le (Nat.le_refl _), List.drop_of_length_le (by omega)]
  rfl
theorem rest_step {α : Type} (e : α → List Tok) (hc : ∀ x y, Clean (e x) (e y) (lexC (e x) (e y))) {l l' : List α} (h : l.length = l'.length) {i : Nat} (hi : i < l.length) (hi' : i < l'.length) : restC e l l' i = or2 (lexC (e l[i]) (e l'[i])) (restC e l l' (i + 1)) := by
  unfold restC
  rw [List.drop_eq_getElem_cons hi, List.drop_eq_getElem_cons hi', List.map_cons, List.map_cons, List.flatten_cons, List.flatten_cons]
  exact (hc _ _).lex_app (Clean.items e _ _ (by simp; omega) (fun x _ y => hc x y))
theorem items_inj {α : Type} (e : α → List Tok) : ∀ (l l' : List α) (r s : List Tok), l.length = l'.length → (∀ x ∈ l, ∀ y r s, e x ++ r = e y ++ s → x = y ∧ r = s) → (l.map e).flatten ++ r = (l'.map e).flatten ++ s → l = l' ∧ r = s
  | [], [], _, _, _, _, h => ⟨rfl, by simpa using h⟩
  | [], _ :: _, _, _, h, _, _ => by simp at h
  | _ :: _, [], _, _, h, _, _ => by simp at h
  | a :: l, b :: l', r, s, h, hi, he => by
    simp only [List.map_cons, List.flatten_cons, List.append_assoc] at he
    obtain ⟨rfl, h2⟩ := hi a (List.mem_cons_self ..) b _ _ he
    obtain ⟨rfl, h3⟩ := items_inj e l l' r s (by simpa using h) (fun x hx => hi x (List.mem_cons_of_mem _ hx)) h2
    exact ⟨rfl, h3⟩
theorem row_inj {α : Type} (e : α → List Tok) (l l' : List α) (r s : List Tok) (hi : ∀ x ∈ l, ∀ y r s, e x ++ r = e y ++ s → x = y ∧ r = s) (h : rowE e l ++ r = rowE e l' ++ s) : l = l' ∧ r = s := by
  unfold rowE at h
  simp only [List.cons_append, List.cons.injEq, Tok.i.injEq] at h
  exact items_inj e l l' r s (by omega) hi h.2
theorem flat_inj (a : Ty) : ∀ b r s, flat a ++ r = flat b ++ s → a = b ∧ r = s := by
  refine Ty.ind (C := fun a => ∀ b r s, flat a ++ r = flat b ++ s → a = b ∧ r = s) ?_ a
  intro k t n ps fs vs ihp ihf ihv b r s h
  obtain ⟨k', t', n', ps', fs', vs'⟩ := b
  rw [flat_mk, flat_mk] at h
  simp only [List.cons_append, List.nil_append, List.cons.injEq, Tok.i.injEq, Tok.s.injEq, List.append_assoc] at h
  obtain ⟨rfl, rfl, rfl, h⟩ := h
  rw [flatL_row, flatF_row, flatV_row] at h
  obtain ⟨e1, h1⟩ := row_inj flat ps ps' _ _ (fun x hx y r s h => ihp x hx y r s h) h
  obtain ⟨e2, h2⟩ := row_inj (fun f : ByteArray × Int × Ty => [Tok.s f.1, .i f.2.1] ++ flat f.2.2) fs fs' _ _ (fun x hx y r s h => by
    obtain ⟨a, b, c⟩ := x
    obtain ⟨a', b', c'⟩ := y
    simp only [List.cons_append, List.nil_append, List.cons.injEq, Tok.i.injEq, Tok.s.injEq] at h
    obtain ⟨rfl, rfl, h⟩ := h
    obtain ⟨h1, h2⟩ := ihf _ hx c' r s h
    subst h1
    exact ⟨rfl, h2⟩) h1
  obtain ⟨e3, h3⟩ := row_inj (fun v : ByteArray × List Ty => Tok.s v.1 :: flatL v.2) vs vs' _ _ (fun x hx y r s h => by
    obtain ⟨a, l⟩ := x
    obtain ⟨a', l'⟩ := y
    simp only [List.cons_append, List.cons.injEq, Tok.s.injEq] at h
    obtain ⟨rfl, h⟩ := h
    rw [flatL_row] at h
    obtain ⟨rfl, h2⟩ := row_inj flat l l' r s (fun b hb y r s h => ihv _ hx b hb y r s h) h
    exact ⟨rfl, h2⟩) h2
  subst e1 e2 e3
  exact ⟨rfl, h3⟩
theorem ordT_zero {a b : Ty} : ordT a b = 0 ↔ a = b :=
  ⟨fun h => (flat_inj a b [] [] (by rw [lexC_zero h])).1, fun h => by rw [h]; exact lexC_self _⟩
theorem ordT_flip (a b : Ty) : ordT b a = - ordT a b := lexC_flip _ _
theorem ordT_bd (a b : Ty) : ordT a b = -1 ∨ ordT a b = 0 ∨ ordT a b = 1 := lexC_bd _ _
theorem ordT_trans {a b c : Ty} (h : ordT a b = -1) (h' : ordT b c = -1) : ordT a c = -1 := lexC_trans h h'
end Go.Proofs.YtnnjbgjhhbmfgaaGreatDoor
