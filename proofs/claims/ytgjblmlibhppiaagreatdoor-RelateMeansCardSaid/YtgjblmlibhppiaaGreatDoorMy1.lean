import Derived.Test.YtgjblmlibhppiaaGreatDoorMy0
namespace Go.Proofs.YtgjblmlibhppiaaGreatDoor
set_option maxRecDepth 100000
set_option maxHeartbeats 64000000
open Go.RowKit
def or2 (a b : Int) : Int := if a ≠ 0 then a else b
theorem or2_zero (b : Int) : or2 0 b = b := by simp [or2]
theorem or2_ne {a : Int} (h : a ≠ 0) (b : Int) : or2 a b = a := by simp [or2, h]
theorem Clean.self {x y : List Tok} {c : Int} (h : Clean x y c) : Clean x y (lexC x y) := h.to h.val.symm
theorem Clean.lex_app {x y x' y' : List Tok} {c c' : Int} (h : Clean x y c) (h' : Clean x' y' c') : lexC (x ++ x') (y ++ y') = or2 (lexC x y) (lexC x' y') := by
 rw [(h.app h').val, h.val, h'.val]
 rfl
theorem Clean.items {α : Type} (e : α → List Tok) : ∀ (l l' : List α), l.length = l'.length → (∀ x ∈ l, ∀ y, Clean (e x) (e y) (lexC (e x) (e y))) → Clean (l.map e).flatten (l'.map e).flatten (lexC (l.map e).flatten (l'.map e).flatten)
 | [], [], _, _ => Clean.nil.self
 | [], _ :: _, h, _ => by simp at h
 | _ :: _, [], h, _ => by simp at h
 | a :: l, b :: l', h, hc => by
  simp only [List.map_cons, List.flatten_cons]
  exact ((hc a (List.mem_cons_self ..) b).app (Clean.items e l l' (by simpa using h) (fun x hx => hc x (List.mem_cons_of_mem _ hx)))).self
def rowE {α : Type} (e : α → List Tok) (l : List α) : List Tok := .i l.length :: (l.map e).flatten
theorem Clean.rows {α : Type} (e : α → List Tok) (l l' : List α) (hc : ∀ x ∈ l, ∀ y, Clean (e x) (e y) (lexC (e x) (e y))) : Clean (rowE e l) (rowE e l') (lexC (rowE e l) (rowE e l')) := by
 unfold rowE
 by_cases h : l.length = l'.length
 ·exact ((Clean.tok (.i l.length) (.i l'.length)).app (Clean.items e l l' h hc)).self
 ·exact ((Clean.tok (.i l.length) (.i l'.length)).first (by
   intro h0
   have := cmpTok_zero h0
   simp at this
   omega)).self
theorem flatL_row : flatL = rowE flat := rfl
theorem flatF_row : flatF = rowE fun f => [.s f.1, .i f.2.1] ++ flat f.2.2 := rfl
theorem flatV_row : flatV = rowE fun v => .s v.1 :: flatL v.2 := rfl
theorem flat_clean (a : Ty) : ∀ b, Clean (flat a) (flat b) (ordT a b) := by
 refine Ty.ind (C := fun a => ∀ b, Clean (flat a) (flat b) (ordT a b)) ?_ a
 intro k t n ps fs vs ihp ihf ihv b
 obtain ⟨k', t', n', ps', fs', vs'⟩ := b
 unfold ordT
 rw [flat_mk, flat_mk]
 have h3 : Clean [.i k, .s t, .i n] [.i k', .s t', .i n'] (lexC [.i k, .s t, .i n] [.i k', .s t', .i n']) := ((Clean.tok (.i k) (.i k')).app ((Clean.tok (.s t) (.s t')).app (Clean.tok (.i n) (.i n')))).self
 have hp : Clean (flatL ps) (flatL ps') (lexC (flatL ps) (flatL ps')) := by
  rw [flatL_row]
  exact Clean.rows flat ps ps' fun x hx y => ihp x hx y
 have hf : Clean (flatF fs) (flatF fs') (lexC (flatF fs) (flatF fs')) := by
  rw [flatF_row]
  refine Clean.rows _ fs fs' fun x hx y => ?_
  exact (((Clean.tok (.s x.1) (.s y.1)).app (Clean.tok (.i x.2.1) (.i y.2.1))).app (ihf x hx y.2.2)).self
 have hv : Clean (flatV vs) (flatV vs') (lexC (flatV vs) (flatV vs')) := by
  rw [flatV_row]
  refine Clean.rows _ vs vs' fun x hx y => ?_
  exact ((Clean.tok (.s x.1) (.s y.1)).app (Clean.rows flat x.2 y.2 fun b hb y => ihv x hx b hb y)).self
 exact (h3.app (hp.app (hf.app hv))).self
theorem cleanT (a b : Ty) : Clean (flat a) (flat b) (lexC (flat a) (flat b)) := flat_clean a b
theorem cleanL (l l' : List Ty) : Clean (flatL l) (flatL l') (lexC (flatL l) (flatL l')) := Clean.rows flat l l' fun x _ y => cleanT x y
theorem cleanFd (x y : ByteArray × Int × Ty) : Clean ([Tok.s x.1, .i x.2.1] ++ flat x.2.2) ([.s y.1, .i y.2.1] ++ flat y.2.2) (lexC ([.s x.1, .i x.2.1] ++ flat x.2.2) ([.s y.1, .i y.2.1] ++ flat y.2.2)) :=
 (((Clean.tok (.s x.1) (.s y.1)).app (Clean.tok (.i x.2.1) (.i y.2.1))).app (cleanT x.2.2 y.2.2)).self
theorem cleanF (l l' : FsT) : Clean (flatF l) (flatF l') (lexC (flatF l) (flatF l')) := Clean.rows _ l l' fun x _ y => cleanFd x y
theorem cleanVr (x y : ByteArray × List Ty) : Clean (Tok.s x.1 :: flatL x.2) (.s y.1 :: flatL y.2) (lexC (.s x.1 :: flatL x.2) (.s y.1 :: flatL y.2)) := ((Clean.tok (.s x.1) (.s y.1)).app (cleanL x.2 y.2)).self
theorem cleanV (l l' : VsT) : Clean (flatV l) (flatV l') (lexC (flatV l) (flatV l')) := Clean.rows _ l l' fun x _ y => cleanVr x y
theorem lexC_tok (a b : Tok) : lexC [a] [b] = cmpTok a b := (Clean.tok a b).val
theorem ord_steps (k t n ps fs vs k' t' n' ps' fs' vs') : ordT (.mk k t n ps fs vs) (.mk k' t' n' ps' fs' vs') = or2 (cmpZ k k') (or2 (cmpB t t') (or2 (cmpZ n n') (or2 (lexC (flatL ps) (flatL ps')) (or2 (lexC (flatF fs) (flatF fs')) (lexC (flatV vs) (flatV vs')))))) := by
 unfold ordT
 rw [flat_mk, flat_mk]
 have e1 : ([Tok.i k, .s t, .i n] ++ (flatL ps ++ (flatF fs ++ flatV vs))) = [.i k] ++ ([.s t] ++ ([.i n] ++ (flatL ps ++ (flatF fs ++ flatV vs)))) := rfl
 have e2 : ([Tok.i k', .s t', .i n'] ++ (flatL ps' ++ (flatF fs' ++ flatV vs'))) = [.i k'] ++ ([.s t'] ++ ([.i n'] ++ (flatL ps' ++ (flatF fs' ++ flatV vs')))) := rfl
 have c0 := (cleanF fs fs').app (cleanV vs vs')
 have c1 := (cleanL ps ps').app c0
 have c2 := (Clean.tok (.i n) (.i n')).app c1
 have c3 := (Clean.tok (.s t) (.s t')).app c2
 rw [e1, e2, (Clean.tok (.i k) (.i k')).lex_app c3, (Clean.tok (.s t) (.s t')).lex_app c2, (Clean.tok (.i n) (.i n')).lex_app c1, (cleanL ps ps').lex_app c0, (cleanF fs fs').lex_app (cleanV vs vs'), lexC_tok, lexC_tok, lexC_tok]
 rfl
theorem field_steps (x y : ByteArray × Int × Ty) : lexC ([Tok.s x.1, .i x.2.1] ++ flat x.2.2) ([.s y.1, .i y.2.1] ++ flat y.2.2) = or2 (cmpB x.1 y.1) (or2 (cmpZ x.2.1 y.2.1) (ordT x.2.2 y.2.2)) := by
 have e1 : ([Tok.s x.1, .i x.2.1] ++ flat x.2.2) = [.s x.1] ++ ([.i x.2.1] ++ flat x.2.2) := rfl
 have e2 : ([Tok.s y.1, .i y.2.1] ++ flat y.2.2) = [.s y.1] ++ ([.i y.2.1] ++ flat y.2.2) := rfl
 have c1 := (Clean.tok (.i x.2.1) (.i y.2.1)).app (cleanT x.2.2 y.2.2)
 rw [e1, e2, (Clean.tok (.s x.1) (.s y.1)).lex_app c1, (Clean.tok (.i x.2.1) (.i y.2.1)).lex_app (cleanT x.2.2 y.2.2), lexC_tok, lexC_tok]
 rfl
theorem var_steps (x y : ByteArray × List Ty) : lexC (Tok.s x.1 :: flatL x.2) (.s y.1 :: flatL y.2) = or2 (cmpB x.1 y.1) (lexC (flatL x.2) (flatL y.2)) := by
 have e1 : (Tok.s x.1 :: flatL x.2) = [.s x.1] ++ flatL x.2 := rfl
 have e2 : (Tok.s y.1 :: flatL y.2) = [.s y.1] ++ flatL y.2 := rfl
 rw [e1, e2, (Clean.tok (.s x.1) (.s y.1)).lex_app (cleanL x.2 y.2), lexC_tok]
 rfl
def restC {α : Type} (e : α → List Tok) (l l' : List α) (i : Nat) : Int := lexC ((l.drop i).map e).flatten ((l'.drop i).map e).flatten
theorem row_len {α : Type} (e : α → List Tok) {l l' : List α} (h : l.length ≠ l'.length) : lexC (rowE e l) (rowE e l') = cmpZ l.length l'.length := by
 have hne : cmpTok (.i l.length) (.i l'.length) ≠ 0 := by
  intro h0
  have := cmpTok_zero h0
  simp at this
  omega
 unfold rowE
 rw [lexC, if_pos hne]
 rfl
theorem row_same {α : Type} (e : α → List Tok) {l l' : List α} (h : l.length = l'.length) : lexC (rowE e l) (rowE e l') = restC e l l' 0 := by
 unfold rowE restC
 rw [lexC, h, if_neg (by simp [cmpTok_self])]
 rfl
theorem rest_end {α : Type} (e : α → List Tok) {l l' : List α} (h : l.length = l'.length) : restC e l l' l.length = 0 := by
 unfold restC
 rw [List.drop_of_length_le (Nat.le_refl _), List.drop_of_length_le (by omega)]
 rfl
theorem rest_step {α : Type} (e : α → List Tok) (hc : ∀ x y, Clean (e x) (e y) (lexC (e x) (e y))) {l l' : List α} (h : l.length = l'.length) {i : Nat} (hi : i < l.length) (hi' : i < l'.length) : restC e l l' i = or2 (lexC (e l[i]) (e l'[i])) (restC e l l' (i + 1)) := by
 unfold restC
 rw [List.drop_eq_getElem_cons hi, List.drop_eq_getElem_cons hi', List.map_cons, List.map_cons, List.flatten_cons, List.flatten_cons]
 exact (hc _ _).lex_app (Clean.items e _ _ (by simp; omega) (fun x _ y => hc x y))
theorem items_inj {α : Type} (e : α → List Tok) : ∀ (l l' : List α) (r s : List Tok), l.length = l'.length → (∀ x ∈ l, ∀ y r s, e x ++ r = e y ++ s → x = y ∧ r = s) → (l.map e).flatten ++ r = (l'.map e).flatten ++ s → l = l' ∧ r = s
 | [], [], _, _, _, _, h => ⟨rfl, by simpa using h⟩
 | [], _ :: _, _, _, h, _, _ => by simp at h
 | _ :: _, [], _, _, h, _, _ => by simp at h
 | a :: l, b :: l', r, s, h, hi, he => by
  simp only [List.map_cons, List.flatten_cons, List.append_assoc] at he
  obtain ⟨rfl, h2⟩ := hi a (List.mem_cons_self ..) b _ _ he
  obtain ⟨rfl, h3⟩ := items_inj e l l' r s (by simpa using h) (fun x hx => hi x (List.mem_cons_of_mem _ hx)) h2
  exact ⟨rfl, h3⟩
theorem row_inj {α : Type} (e : α → List Tok) (l l' : List α) (r s : List Tok) (hi : ∀ x ∈ l, ∀ y r s, e x ++ r = e y ++ s → x = y ∧ r = s) (h : rowE e l ++ r = rowE e l' ++ s) : l = l' ∧ r = s := by
 unfold rowE at h
 simp only [List.cons_append, List.cons.injEq, Tok.i.injEq] at h
 exact items_inj e l l' r s (by omega) hi h.2
theorem flat_inj (a : Ty) : ∀ b r s, flat a ++ r = flat b ++ s → a = b ∧ r = s := by
 refine Ty.ind (C := fun a => ∀ b r s, flat a ++ r = flat b ++ s → a = b ∧ r = s) ?_ a
 intro k t n ps fs vs ihp ihf ihv b r s h
 obtain ⟨k', t', n', ps', fs', vs'⟩ := b
 rw [flat_mk, flat_mk] at h
 simp only [List.cons_append, List.nil_append, List.cons.injEq, Tok.i.injEq, Tok.s.injEq, List.append_assoc] at h
 obtain ⟨rfl, rfl, rfl, h⟩ := h
 rw [flatL_row, flatF_row, flatV_row] at h
 obtain ⟨e1, h1⟩ := row_inj flat ps ps' _ _ (fun x hx y r s h => ihp x hx y r s h) h
 obtain ⟨e2, h2⟩ := row_inj (fun f : ByteArray × Int × Ty => [Tok.s f.1, .i f.2.1] ++ flat f.2.2) fs fs' _ _ (fun x hx y r s h => by
  obtain ⟨a, b, c⟩ := x
  obtain ⟨a', b', c'⟩ := y
  simp only [List.cons_append, List.nil_append, List.cons.injEq, Tok.i.injEq, Tok.s.injEq] at h
  obtain ⟨rfl, rfl, h⟩ := h
  obtain ⟨h1, h2⟩ := ihf _ hx c' r s h
  subst h1
  exact ⟨rfl, h2⟩) h1
 obtain ⟨e3, h3⟩ := row_inj (fun v : ByteArray × List Ty => Tok.s v.1 :: flatL v.2) vs vs' _ _ (fun x hx y r s h => by
  obtain ⟨a, l⟩ := x
  obtain ⟨a', l'⟩ := y
  simp only [List.cons_append, List.cons.injEq, Tok.s.injEq] at h
  obtain ⟨rfl, h⟩ := h
  rw [flatL_row] at h
  obtain ⟨rfl, h2⟩ := row_inj flat l l' r s (fun b hb y r s h => ihv _ hx b hb y r s h) h
  exact ⟨rfl, h2⟩) h2
 subst e1 e2 e3
 exact ⟨rfl, h3⟩
theorem ordT_zero {a b : Ty} : ordT a b = 0 ↔ a = b :=
 ⟨fun h => (flat_inj a b [] [] (by rw [lexC_zero h])).1, fun h => by rw [h]; exact lexC_self _⟩
theorem ordT_flip (a b : Ty) : ordT b a = - ordT a b := lexC_flip _ _
theorem ordT_bd (a b : Ty) : ordT a b = -1 ∨ ordT a b = 0 ∨ ordT a b = 1 := lexC_bd _ _
theorem ordT_trans {a b c : Ty} (h : ordT a b = -1) (h' : ordT b c = -1) : ordT a c = -1 := lexC_trans h h'
theorem ret_int {k : IntKind} {a b : Int} (h : a = b) : Ending.returned (.int k a) = .returned (.int k b) := by
 rw [h]
def byteN (s : ByteArray) (k : Nat) : Nat := (s.data[k]!).toNat
theorem byteN_lt (s : ByteArray) (k : Nat) : byteN s k < 256 := UInt8.toNat_lt _
theorem bget (s : ByteArray) (k : Nat) (h : k < s.size) : s[k] = s.data[k]! := by
 have h' : k < s.data.size := h
 show s.data[k] = s.data[k]!
 rw [getElem!_pos s.data k h']
theorem byteN_at (s : ByteArray) (k : Nat) (h : k < s.size) : (s[k]).toNat = byteN s k := by rw [bget s k h]; rfl
def letterB (c : Nat) : Bool := decide (97 ≤ c ∧ c ≤ 122 ∨ 65 ≤ c ∧ c ≤ 90 ∨ c = 95 ∨ c = 36)
def digitB (c : Nat) : Bool := decide (48 ≤ c ∧ c ≤ 57)
def alnumB (c : Nat) : Bool := letterB c || digitB c
def wordF (s : ByteArray) : Nat → Nat → Nat
 | 0, i => i
 | k + 1, i => if i < s.size ∧ alnumB (byteN s i) = true then wordF s k (i + 1) else i
def wordN (s : ByteArray) (i : Nat) : Nat := wordF s (s.size - i) i
theorem word_go {s : ByteArray} {i : Nat} (h : i < s.size) (ha : alnumB (byteN s i) = true) : wordN s i = wordN s (i + 1) := by
 unfold wordN
 obtain ⟨k, hk⟩ : ∃ k, s.size - i = k + 1 := ⟨s.size - i - 1, by omega⟩
 rw [hk, wordF, if_pos ⟨h, ha⟩]
 congr 1; omega
theorem word_stop {s : ByteArray} {i : Nat} (ha : ¬ (i < s.size ∧ alnumB (byteN s i) = true)) : wordN s i = i := by
 unfold wordN
 cases hk : s.size - i with
 | zero => rfl
 | succ k => rw [wordF, if_neg ha]
theorem letter_prog (c : Nat) (w : World) (hc : c < 256) :
  Calls Tryz.prog 119 #[.int .u8 c] w fun e w' => e = .returned (.bool (letterB c)) ∧ w = w' := by
 by_cases h1 : 97 ≤ c
 ·by_cases h2 : c ≤ 122
  ·have D := Hd (show letterB c = true by unfold letterB; simp; omega)
   have t1 : ((97 : Int) ≤ c) := by omega
   have t2 : ((c : Int) ≤ 122) := by omega
   go_enter Tryz.func119, Tryz.ntmps119
   go_wp2
   go_ret
   exact ⟨by rw [D.out]; rfl, rfl⟩
  ·have D := Hd (show letterB c = false by unfold letterB; simp; omega)
   have t1 : ((97 : Int) ≤ c) := by omega
   have t2 : ¬ ((c : Int) ≤ 122) := by omega
   have t3 : ¬ ((c : Int) ≤ 90) := by omega
   have t4 : ((c : Int) == 95) = false := by simp; omega
   have t5 : ((c : Int) == 36) = false := by simp; omega
   go_enter Tryz.func119, Tryz.ntmps119
   go_wp2
   go_ret
   exact ⟨by rw [D.out]; rfl, rfl⟩
 ·have t1 : ¬ ((97 : Int) ≤ c) := by omega
  by_cases h3 : 65 ≤ c ∧ c ≤ 90
  ·have D := Hd (show letterB c = true by unfold letterB; simp; omega)
   have t2 : ((65 : Int) ≤ c) := by omega
   have t3 : ((c : Int) ≤ 90) := by omega
   clear h3
   go_enter Tryz.func119, Tryz.ntmps119
   go_wp2
   go_ret
   exact ⟨by rw [D.out]; rfl, rfl⟩
  ·have hh : (65 : Int) ≤ c ∧ ¬ (c : Int) ≤ 90 ∨ ¬ (65 : Int) ≤ c := by omega
   by_cases h4 : c = 95
   ·have D := Hd (show letterB c = true by unfold letterB; simp; omega)
    have t4 : ((c : Int) == 95) = true := by simp; omega
    clear h3 h4
    rcases hh with ⟨t2, t3⟩ | t2
    all_goals
     go_enter Tryz.func119, Tryz.ntmps119
     go_wp2
     go_ret
     exact ⟨by rw [D.out]; rfl, rfl⟩
   ·have t4 : ((c : Int) == 95) = false := by simp; omega
    by_cases h5 : c = 36
    ·have D := Hd (show letterB c = true by unfold letterB; simp; omega)
     have t5 : ((c : Int) == 36) = true := by simp; omega
     clear h3 h4 h5
     rcases hh with ⟨t2, t3⟩ | t2
     all_goals
      go_enter Tryz.func119, Tryz.ntmps119
      go_wp2
      go_ret
      exact ⟨by rw [D.out]; rfl, rfl⟩
    ·have D := Hd (show letterB c = false by unfold letterB; simp; omega)
     have t5 : ((c : Int) == 36) = false := by simp; omega
     clear h3 h4 h5
     rcases hh with ⟨t2, t3⟩ | t2
     all_goals
      go_enter Tryz.func119, Tryz.ntmps119
      go_wp2
      go_ret
      exact ⟨by rw [D.out]; rfl, rfl⟩
theorem digit_prog (c : Nat) (w : World) (_hc : c < 256) :
  Calls Tryz.prog 154 #[.int .u8 c] w fun e w' => e = .returned (.bool (digitB c)) ∧ w = w' := by
 by_cases h1 : 48 ≤ c
 ·have t1 : ((48 : Int) ≤ c) := by omega
  by_cases h2 : c ≤ 57
  ·have D := Hd (show digitB c = true by unfold digitB; simp; omega)
   have t2 : ((c : Int) ≤ 57) := by omega
   go_enter Tryz.func154, Tryz.ntmps154
   go_wp2
   go_ret
   exact ⟨by rw [D.out]; rfl, rfl⟩
  ·have D := Hd (show digitB c = false by unfold digitB; simp; omega)
   have t2 : ¬ ((c : Int) ≤ 57) := by omega
   go_enter Tryz.func154, Tryz.ntmps154
   go_wp2
   go_ret
   exact ⟨by rw [D.out]; rfl, rfl⟩
 ·have t1 : ¬ ((48 : Int) ≤ c) := by omega
  have D := Hd (show digitB c = false by unfold digitB; simp; omega)
  go_enter Tryz.func154, Tryz.ntmps154
  go_wp2
  go_ret
  exact ⟨by rw [D.out]; rfl, rfl⟩
theorem letter_ref (c : Nat) (w : World) (hc : c < 256) :
  Calls Tryz.prog 113 #[.int .u8 c] w fun e w' => e = .returned (.bool (letterB c)) ∧ w = w' := by
 by_cases h1 : 97 ≤ c
 ·by_cases h2 : c ≤ 122
  ·have D := Hd (show letterB c = true by unfold letterB; simp; omega)
   have t1 : ((97 : Int) ≤ c) := by omega
   have t2 : ((c : Int) ≤ 122) := by omega
   go_enter Tryz.func113, Tryz.ntmps113
   go_wp2
   go_ret
   exact ⟨by rw [D.out]; rfl, rfl⟩
  ·have D := Hd (show letterB c = false by unfold letterB; simp; omega)
   have t1 : ((97 : Int) ≤ c) := by omega
   have t2 : ¬ ((c : Int) ≤ 122) := by omega
   have t3 : ¬ ((c : Int) ≤ 90) := by omega
   have t4 : ((c : Int) == 95) = false := by simp; omega
   have t5 : ((c : Int) == 36) = false := by simp; omega
   go_enter Tryz.func113, Tryz.ntmps113
   go_wp2
   go_ret
   exact ⟨by rw [D.out]; rfl, rfl⟩
 ·have t1 : ¬ ((97 : Int) ≤ c) := by omega
  by_cases h3 : 65 ≤ c ∧ c ≤ 90
  ·have D := Hd (show letterB c = true by unfold letterB; simp; omega)
   have t2 : ((65 : Int) ≤ c) := by omega
   have t3 : ((c : Int) ≤ 90) := by omega
   clear h3
   go_enter Tryz.func113, Tryz.ntmps113
   go_wp2
   go_ret
   exact ⟨by rw [D.out]; rfl, rfl⟩
  ·have hh : (65 : Int) ≤ c ∧ ¬ (c : Int) ≤ 90 ∨ ¬ (65 : Int) ≤ c := by omega
   by_cases h4 : c = 95
   ·have D := Hd (show letterB c = true by unfold letterB; simp; omega)
    have t4 : ((c : Int) == 95) = true := by simp; omega
    clear h3 h4
    rcases hh with ⟨t2, t3⟩ | t2
    all_goals
     go_enter Tryz.func113, Tryz.ntmps113
     go_wp2
     go_ret
     exact ⟨by rw [D.out]; rfl, rfl⟩
   ·have t4 : ((c : Int) == 95) = false := by simp; omega
    by_cases h5 : c = 36
    ·have D := Hd (show letterB c = true by unfold letterB; simp; omega)
     have t5 : ((c : Int) == 36) = true := by simp; omega
     clear h3 h4 h5
     rcases hh with ⟨t2, t3⟩ | t2
     all_goals
      go_enter Tryz.func113, Tryz.ntmps113
      go_wp2
      go_ret
      exact ⟨by rw [D.out]; rfl, rfl⟩
    ·have D := Hd (show letterB c = false by unfold letterB; simp; omega)
     have t5 : ((c : Int) == 36) = false := by simp; omega
     clear h3 h4 h5
     rcases hh with ⟨t2, t3⟩ | t2
     all_goals
      go_enter Tryz.func113, Tryz.ntmps113
      go_wp2
      go_ret
      exact ⟨by rw [D.out]; rfl, rfl⟩
theorem digit_ref (c : Nat) (w : World) (_hc : c < 256) :
  Calls Tryz.prog 152 #[.int .u8 c] w fun e w' => e = .returned (.bool (digitB c)) ∧ w = w' := by
 by_cases h1 : 48 ≤ c
 ·have t1 : ((48 : Int) ≤ c) := by omega
  by_cases h2 : c ≤ 57
  ·have D := Hd (show digitB c = true by unfold digitB; simp; omega)
   have t2 : ((c : Int) ≤ 57) := by omega
   go_enter Tryz.func152, Tryz.ntmps152
   go_wp2
   go_ret
   exact ⟨by rw [D.out]; rfl, rfl⟩
  ·have D := Hd (show digitB c = false by unfold digitB; simp; omega)
   have t2 : ¬ ((c : Int) ≤ 57) := by omega
   go_enter Tryz.func152, Tryz.ntmps152
   go_wp2
   go_ret
   exact ⟨by rw [D.out]; rfl, rfl⟩
 ·have t1 : ¬ ((48 : Int) ≤ c) := by omega
  have D := Hd (show digitB c = false by unfold digitB; simp; omega)
  go_enter Tryz.func152, Tryz.ntmps152
  go_wp2
  go_ret
  exact ⟨by rw [D.out]; rfl, rfl⟩
theorem aword_prog (s : ByteArray) (i : Nat) (w : World) (hs : s.size ≤ 1000000000000000) (hi : i ≤ s.size) :
  Calls Tryz.prog 120 #[.string s, .int .i64 i] w fun e w' => e = .returned (.int .i64 (wordN s i)) ∧ w = w' := by
 go_enter Tryz.func120, Tryz.ntmps120
 go_wp2
 go_loop [1] (fun v => ∃ k : Nat, i ≤ k ∧ k ≤ s.size ∧ v = .int .i64 k ∧ wordN s k = wordN s i) (fun v => s.size - (intOf v).toNat)
 case atStart => exact ⟨i, by omega, hi, rfl, rfl⟩
 case round =>
  obtain ⟨k, hk1, hk, rfl, hc⟩ := hrel
  have HC := Hd hc
  clear hc
  by_cases hlt : k < s.size
  ·have hb := byteN_at s k hlt
   have hu := byteN_lt s k
   have kl := letter_prog (byteN s k) w hu
   have kd := digit_prog (byteN s k) w hu
   have hgo := Hd (word_go hlt)
   have hst := Hd (@word_stop s k)
   unfold alnumB at hgo hst
   generalize byteN s k = b at *
   cases h1 : letterB b with
   | true =>
    rw [h1] at kl
    have KL := Hd kl
    have G := Hd (hgo.out (by rw [h1]; rfl))
    clear kl kd h1 hgo hst
    go_wp2_with (go_at_call 119; refine KL.out.mono ?_; rintro e w1 ⟨rfl, rfl⟩)
    go_round
    case rel => exact ⟨k + 1, by omega, by omega, by go_num, by rw [← G.out, HC.out]⟩
    case measure => simp [intOf]; omega
   | false =>
    rw [h1] at kl
    have KL := Hd kl
    cases h2 : digitB b with
    | true =>
     rw [h2] at kd
     have KD := Hd kd
     have G := Hd (hgo.out (by rw [h1, h2]; rfl))
     clear kl kd h1 h2 hgo hst
     go_wp2_with (first | (go_at_call 119; refine KL.out.mono ?_; rintro e w1 ⟨rfl, rfl⟩) | (go_at_call 154; refine KD.out.mono ?_; rintro e w1 ⟨rfl, rfl⟩))
     go_round
     case rel => exact ⟨k + 1, by omega, by omega, by go_num, by rw [← G.out, HC.out]⟩
     case measure => simp [intOf]; omega
    | false =>
     rw [h2] at kd
     have KD := Hd kd
     have G := Hd (hst.out (by rw [h1, h2]; simp))
     clear kl kd h1 h2 hgo hst
     go_wp2_with (first | (go_at_call 119; refine KL.out.mono ?_; rintro e w1 ⟨rfl, rfl⟩) | (go_at_call 154; refine KD.out.mono ?_; rintro e w1 ⟨rfl, rfl⟩))
     go_ret
     exact ⟨ret_int (by rw [← HC.out, G.out]), rfl⟩
  ·obtain rfl : k = s.size := by omega
   have G := Hd (@word_stop s s.size (by omega))
   go_wp2
   go_ret
   exact ⟨ret_int (by rw [← HC.out, G.out]), rfl⟩
theorem aword_ref (s : ByteArray) (i : Nat) (w : World) (hs : s.size ≤ 1000000000000000) (hi : i ≤ s.size) :
  Calls Tryz.prog 114 #[.string s, .int .i64 i] w fun e w' => e = .returned (.int .i64 (wordN s i)) ∧ w = w' := by
 go_enter Tryz.func114, Tryz.ntmps114
 go_wp2
 go_loop [1] (fun v => ∃ k : Nat, i ≤ k ∧ k ≤ s.size ∧ v = .int .i64 k ∧ wordN s k = wordN s i) (fun v => s.size - (intOf v).toNat)
 case atStart => exact ⟨i, by omega, hi, rfl, rfl⟩
 case round =>
  obtain ⟨k, hk1, hk, rfl, hc⟩ := hrel
  have HC := Hd hc
  clear hc
  by_cases hlt : k < s.size
  ·have hb := byteN_at s k hlt
   have hu := byteN_lt s k
   have kl := letter_ref (byteN s k) w hu
   have kd := digit_ref (byteN s k) w hu
   have hgo := Hd (word_go hlt)
   have hst := Hd (@word_stop s k)
   unfold alnumB at hgo hst
   generalize byteN s k = b at *
   cases h1 : letterB b with
   | true =>
    rw [h1] at kl
    have KL := Hd kl
    have G := Hd (hgo.out (by rw [h1]; rfl))
    clear kl kd h1 hgo hst
    go_wp2_with (go_at_call 113; refine KL.out.mono ?_; rintro e w1 ⟨rfl, rfl⟩)
    go_round
    case rel => exact ⟨k + 1, by omega, by omega, by go_num, by rw [← G.out, HC.out]⟩
    case measure => simp [intOf]; omega
   | false =>
    rw [h1] at kl
    have KL := Hd kl
    cases h2 : digitB b with
    | true =>
     rw [h2] at kd
     have KD := Hd kd
     have G := Hd (hgo.out (by rw [h1, h2]; rfl))
     clear kl kd h1 h2 hgo hst
     go_wp2_with (first | (go_at_call 113; refine KL.out.mono ?_; rintro e w1 ⟨rfl, rfl⟩) | (go_at_call 152; refine KD.out.mono ?_; rintro e w1 ⟨rfl, rfl⟩))
     go_round
     case rel => exact ⟨k + 1, by omega, by omega, by go_num, by rw [← G.out, HC.out]⟩
     case measure => simp [intOf]; omega
    | false =>
     rw [h2] at kd
     have KD := Hd kd
     have G := Hd (hst.out (by rw [h1, h2]; simp))
     clear kl kd h1 h2 hgo hst
     go_wp2_with (first | (go_at_call 113; refine KL.out.mono ?_; rintro e w1 ⟨rfl, rfl⟩) | (go_at_call 152; refine KD.out.mono ?_; rintro e w1 ⟨rfl, rfl⟩))
     go_ret
     exact ⟨ret_int (by rw [← HC.out, G.out]), rfl⟩
  ·obtain rfl : k = s.size := by omega
   have G := Hd (@word_stop s s.size (by omega))
   go_wp2
   go_ret
   exact ⟨ret_int (by rw [← HC.out, G.out]), rfl⟩
def wordsL : List (List UInt8) := [[105, 109, 112, 111, 114, 116], [102, 114, 111, 109], [101, 120, 112, 111, 114, 116], [116, 121, 112, 101], [105, 110, 116, 101, 114, 102, 97, 99, 101], [99, 108, 97, 115, 115], [101, 120, 116, 101, 110, 100, 115], [105, 109, 112, 108, 101, 109, 101, 110, 116, 115], [102, 117, 110, 99, 116, 105, 111, 110], [99, 111, 110, 115, 116], [108, 101, 116], [109, 117, 116], [105, 102], [101, 108, 115, 101], [119, 104, 105, 108, 101], [114, 101, 116, 117, 114, 110], [116, 104, 114, 111, 119], [116, 114, 121], [99, 97, 116, 99, 104], [110, 101, 119], [116, 104, 105, 115], [116, 114, 117, 101], [102, 97, 108, 115, 101], [110, 117, 108, 108], [116, 121, 112, 101, 111, 102], [97, 115], [107, 101, 121, 111, 102], [105, 110, 102, 101, 114], [105, 110], [97, 110, 121], [117, 110, 107, 110, 111, 119, 110], [110, 101, 118, 101, 114], [98, 111, 111, 108, 101, 97, 110], [110, 117, 109, 98, 101, 114], [115, 116, 114, 105, 110, 103]]
def resL (l : List UInt8) : Bool := wordsL.any fun x => l == x
theorem res_or (l : List UInt8) : resL l = (l == [105, 109, 112, 111, 114, 116] || (l == [102, 114, 111, 109] || (l == [101, 120, 112, 111, 114, 116] || (l == [116, 121, 112, 101] || (l == [105, 110, 116, 101, 114, 102, 97, 99, 101] || (l == [99, 108, 97, 115, 115] || (l == [101, 120, 116, 101, 110, 100, 115] || (l == [105, 109, 112, 108, 101, 109, 101, 110, 116, 115] || (l == [102, 117, 110, 99, 116, 105, 111, 110] || (l == [99, 111, 110, 115, 116] || (l == [108, 101, 116] || (l == [109, 117, 116] || (l == [105, 102] || (l == [101, 108, 115, 101] || (l == [119, 104, 105, 108, 101] || (l == [114, 101, 116, 117, 114, 110] || (l == [116, 104, 114, 111, 119] || (l == [116, 114, 121] || (l == [99, 97, 116, 99, 104] || (l == [110, 101, 119] || (l == [116, 104, 105, 115] || (l == [116, 114, 117, 101] || (l == [102, 97, 108, 115, 101] || (l == [110, 117, 108, 108] || (l == [116, 121, 112, 101, 111, 102] || (l == [97, 115] || (l == [107, 101, 121, 111, 102] || (l == [105, 110, 102, 101, 114] || (l == [105, 110] || (l == [97, 110, 121] || (l == [117, 110, 107, 110, 111, 119, 110] || (l == [110, 101, 118, 101, 114] || (l == [98, 111, 111, 108, 101, 97, 110] || (l == [110, 117, 109, 98, 101, 114] || (l == [115, 116, 114, 105, 110, 103] || false))))))))))))))))))))))))))))))))))) := rfl
theorem reserved_prog (s : ByteArray) (w : World) :
  Calls Tryz.prog 121 #[.string s] w fun e w' => e = .returned (.bool (resL s.toList)) ∧ w = w' := by
 have D := Hd (res_or s.toList)
 go_enter Tryz.func121, Tryz.ntmps121
 go_wp2
 all_goals first
  | (have h2 := ‹_ = false›; have h3 := h2.symm.trans (show _ = true by assumption); exact absurd h3 (by decide))
  | (go_ret; exact ⟨by rw [D.out]; simp only [*, Bool.true_or, Bool.or_true, Bool.or_false]; rfl, rfl⟩)
  | (go_ret; exact ⟨by rw [D.out]; simp only [*, Bool.true_or, Bool.or_true, Bool.or_false], rfl⟩)
def wordVs : List Value := wordsL.map fun l => Value.string ⟨l.toArray⟩
theorem words_ref (w : World) :
  Calls Tryz.prog 153 #[] w fun e w' => e = .returned (.slice (some ⟨w.heap.size, 0, none⟩) 35 35) ∧ w' = w.alloc (.cells wordVs.toArray 9) := by
 go_enter Tryz.func153, Tryz.ntmps153
 go_wp2
 go_ret
 exact ⟨rfl, rfl⟩
theorem words_cell (w : World) (k : Nat) (h : k < 35) : (w.alloc (.cells wordVs.toArray 9)).cell? ⟨w.heap.size, k, none⟩ = some (.string ⟨(wordsL.getD k []).toArray⟩) := by
 rw [World.cell?_alloc_at _ _ _ _ rfl]
 have h1 : k < wordsL.length := h
 simp [wordVs, List.getD_eq_getElem?_getD, List.getElem?_eq_getElem h1]
theorem reserved_ref (s : ByteArray) (w : World) :
  Calls Tryz.prog 115 #[.string s] w fun e w' => e = .returned (.bool (resL s.toList)) ∧ Below w.heap.size w w' := by
 have K := Hd (words_ref w)
 have C := Hd (words_cell w)
 have HB := Hd ((Below.refl w.heap.size w).alloc (Nat.le_refl _) (.cells wordVs.toArray 9))
 go_enter Tryz.func115, Tryz.ntmps115
 go_wp2_with fail
 refine K.out.mono ?_
 rintro e w1 ⟨rfl, hw1⟩
 rw [← hw1] at HB C
 clear hw1
 go_wp2_with fail
 go_loop [4] (fun v => ∃ k : Nat, k ≤ 35 ∧ v = .int .i64 k ∧ ∀ j, j < k → (s.toList == wordsL.getD j []) = false) (fun v => 35 - (intOf v).toNat)
 case atStart => exact ⟨0, by omega, by go_num, fun j h => absurd h (by omega)⟩
 case round =>
  obtain ⟨k, hk, rfl, hno⟩ := hrel
  have HN := Hd hno
  clear hno
  by_cases hlt : k < 35
  ·have f1 := C.out k hlt
   have hin : wordsL.getD k [] ∈ wordsL := by
    rw [List.getD_eq_getElem?_getD, List.getElem?_eq_getElem (show k < wordsL.length from hlt)]
    exact List.getElem_mem _
   cases hq : (s.toList == wordsL.getD k []) with
   | true =>
    have HR := Hd (show resL s.toList = true from List.any_eq_true.2 ⟨_, hin, hq⟩)
    clear hin
    have hq2 : (wordsL.getD k [] == s.toList) = true := by rw [beq_iff_eq] at hq ⊢; exact hq.symm
    generalize wordsL.getD k [] = x at *
    clear hq
    go_wp2_with fail
    go_ret
    exact ⟨by rw [HR.out]; rfl, HB.out⟩
   | false =>
    have HN' : Hid (∀ j, j < k + 1 → (s.toList == wordsL.getD j []) = false) := Hd (fun j hj => by
     rcases Nat.lt_or_ge j k with h | h
     ·exact HN.out j h
     ·obtain rfl : j = k := by omega
      exact hq)
    clear hin
    have hq2 : (wordsL.getD k [] == s.toList) = false := by
     cases h : (wordsL.getD k [] == s.toList) with
     | false => rfl
     | true => rw [beq_iff_eq] at h; rw [h] at hq; simp at hq
    generalize wordsL.getD k [] = x at f1 hq2
    clear hq
    go_wp2_with fail
    go_round
    case rel => exact ⟨k + 1, by omega, by go_num, HN'.out⟩
    case measure => simp [intOf]; omega
  ·obtain rfl : k = 35 := by omega
   have HR := Hd (show resL s.toList = false from by
    rw [resL, List.any_eq_false]
    intro x hx
    obtain ⟨j, hj, rfl⟩ := List.getElem_of_mem hx
    have := HN.out j hj
    rw [List.getD_eq_getElem?_getD, List.getElem?_eq_getElem hj] at this
    simpa using this)
   go_wp2_with fail
   go_ret
   exact ⟨by rw [HR.out]; rfl, HB.out⟩
theorem toList_eq (s : ByteArray) : s.toList = s.data.toList := ByteArray.toList_eq s
theorem toList_nil {s : ByteArray} (h : s.size = 0) : s.toList = [] := by
 rw [toList_eq]
 exact List.eq_nil_of_length_eq_zero (by simpa using h)
theorem size_nil {s : ByteArray} (h : s.toList = []) : s.size = 0 := by
 rw [toList_eq] at h
 have := congrArg List.length h
 simpa using this
def idB (s : ByteArray) : Bool := decide (0 < s.size) && letterB (byteN s 0) && (wordN s 0 == s.size) && !resL s.toList
theorem isname_prog (s : ByteArray) (w : World) (hs : s.size ≤ 1000000000000000) :
  Calls Tryz.prog 84 #[.string s] w fun e w' => e = .returned (.bool (idB s)) ∧ Below w.heap.size w w' := by
 by_cases h0 : s.size = 0
 ·have D := Hd (show idB s = false by simp [idB, h0])
  have t0 : s.toList = [] := toList_nil h0
  have t1 : s.toList.isEmpty = true := by rw [t0]; rfl
  go_enter Tryz.func84, Tryz.ntmps84
  go_wp2
  go_ret
  exact ⟨by rw [D.out]; rfl, Below.refl _ _⟩
 ·have t0 : ¬ s.toList = [] := fun h => h0 (size_nil h)
  have t1 : s.toList.isEmpty = false := by simpa using t0
  have hp : 0 < s.size := by omega
  have hb := byteN_at s 0 hp
  have hu := byteN_lt s 0
  have kl := letter_prog (byteN s 0) w hu
  cases h1 : letterB (byteN s 0) with
  | false =>
   have D := Hd (show idB s = false by simp [idB, h1])
   rw [h1] at kl
   have KL := Hd kl
   clear kl h1 t0
   generalize byteN s 0 = b at *
   go_enter Tryz.func84, Tryz.ntmps84
   go_wp2_with (go_at_call 119; refine KL.out.mono ?_; rintro e w1 ⟨rfl, rfl⟩)
   go_ret
   exact ⟨by rw [D.out]; rfl, Below.refl _ _⟩
  | true =>
   rw [h1] at kl
   have KL := Hd kl
   have KW := Hd (aword_prog s 0 w hs (by omega))
   have HD := Hd (show idB s = ((wordN s 0 == s.size) && !resL s.toList) by simp [idB, h1, hp])
   clear kl h1 t0
   generalize byteN s 0 = b at *
   generalize hn : wordN s 0 = n at *
   clear hn
   by_cases hq : n = s.size
   ·subst hq
    have D := Hd (show idB s = !resL s.toList by rw [HD.out]; simp)
    clear HD
    have t3 : (((s.size : Nat) : Int) == (s.size : Int)) = true := by simp
    have KR := Hd (reserved_prog s w)
    cases hr : resL s.toList with
    | true =>
     rw [hr] at KR D
     clear hr
     go_enter Tryz.func84, Tryz.ntmps84
     go_wp2_with (first | (go_at_call 119; refine KL.out.mono ?_; rintro e w1 ⟨rfl, rfl⟩) | (go_at_call 120; refine KW.out.mono ?_; rintro e w1 ⟨rfl, rfl⟩) | (go_at_call 121; refine KR.out.mono ?_; rintro e w1 ⟨rfl, rfl⟩))
     go_ret
     exact ⟨by rw [D.out]; rfl, (Below.refl _ _)⟩
    | false =>
     rw [hr] at KR D
     clear hr
     go_enter Tryz.func84, Tryz.ntmps84
     go_wp2_with (first | (go_at_call 119; refine KL.out.mono ?_; rintro e w1 ⟨rfl, rfl⟩) | (go_at_call 120; refine KW.out.mono ?_; rintro e w1 ⟨rfl, rfl⟩) | (go_at_call 121; refine KR.out.mono ?_; rintro e w1 ⟨rfl, rfl⟩))
     go_ret
     exact ⟨by rw [D.out]; rfl, (Below.refl _ _)⟩
   ·have D := Hd (show idB s = false by rw [HD.out]; simp [hq])
    clear HD
    have t3 : ((n : Int) == (s.size : Int)) = false := by simp; omega
    go_enter Tryz.func84, Tryz.ntmps84
    go_wp2_with (first | (go_at_call 119; refine KL.out.mono ?_; rintro e w1 ⟨rfl, rfl⟩) | (go_at_call 120; refine KW.out.mono ?_; rintro e w1 ⟨rfl, rfl⟩))
    go_ret
    exact ⟨by rw [D.out]; rfl, Below.refl _ _⟩
theorem isname_ref (s : ByteArray) (w : World) (hs : s.size ≤ 1000000000000000) :
  Calls Tryz.prog 79 #[.string s] w fun e w' => e = .returned (.bool (idB s)) ∧ Below w.heap.size w w' := by
 by_cases h0 : s.size = 0
 ·have D := Hd (show idB s = false by simp [idB, h0])
  have t0 : s.toList = [] := toList_nil h0
  have t1 : s.toList.isEmpty = true := by rw [t0]; rfl
  go_enter Tryz.func79, Tryz.ntmps79
  go_wp2
  go_ret
  exact ⟨by rw [D.out]; rfl, Below.refl _ _⟩
 ·have t0 : ¬ s.toList = [] := fun h => h0 (size_nil h)
  have t1 : s.toList.isEmpty = false := by simpa using t0
  have hp : 0 < s.size := by omega
  have hb := byteN_at s 0 hp
  have hu := byteN_lt s 0
  have kl := letter_ref (byteN s 0) w hu
  cases h1 : letterB (byteN s 0) with
  | false =>
   have D := Hd (show idB s = false by simp [idB, h1])
   rw [h1] at kl
   have KL := Hd kl
   clear kl h1 t0
   generalize byteN s 0 = b at *
   go_enter Tryz.func79, Tryz.ntmps79
   go_wp2_with (go_at_call 113; refine KL.out.mono ?_; rintro e w1 ⟨rfl, rfl⟩)
   go_ret
   exact ⟨by rw [D.out]; rfl, Below.refl _ _⟩
  | true =>
   rw [h1] at kl
   have KL := Hd kl
   have KW := Hd (aword_ref s 0 w hs (by omega))
   have HD := Hd (show idB s = ((wordN s 0 == s.size) && !resL s.toList) by simp [idB, h1, hp])
   clear kl h1 t0
   generalize byteN s 0 = b at *
   generalize hn : wordN s 0 = n at *
   clear hn
   by_cases hq : n = s.size
   ·subst hq
    have D := Hd (show idB s = !resL s.toList by rw [HD.out]; simp)
    clear HD
    have t3 : (((s.size : Nat) : Int) == (s.size : Int)) = true := by simp
    have KR := Hd (reserved_ref s w)
    cases hr : resL s.toList with
    | true =>
     rw [hr] at KR D
     clear hr
     go_enter Tryz.func79, Tryz.ntmps79
     go_wp2_with (first | (go_at_call 113; refine KL.out.mono ?_; rintro e w1 ⟨rfl, rfl⟩) | (go_at_call 114; refine KW.out.mono ?_; rintro e w1 ⟨rfl, rfl⟩) | (go_at_call 115; refine KR.out.mono ?_; rintro e w1 ⟨rfl, hb1⟩))
     go_ret
     exact ⟨by rw [D.out]; rfl, hb1⟩
    | false =>
     rw [hr] at KR D
     clear hr
     go_enter Tryz.func79, Tryz.ntmps79
     go_wp2_with (first | (go_at_call 113; refine KL.out.mono ?_; rintro e w1 ⟨rfl, rfl⟩) | (go_at_call 114; refine KW.out.mono ?_; rintro e w1 ⟨rfl, rfl⟩) | (go_at_call 115; refine KR.out.mono ?_; rintro e w1 ⟨rfl, hb1⟩))
     go_ret
     exact ⟨by rw [D.out]; rfl, hb1⟩
   ·have D := Hd (show idB s = false by rw [HD.out]; simp [hq])
    clear HD
    have t3 : ((n : Int) == (s.size : Int)) = false := by simp; omega
    go_enter Tryz.func79, Tryz.ntmps79
    go_wp2_with (first | (go_at_call 113; refine KL.out.mono ?_; rintro e w1 ⟨rfl, rfl⟩) | (go_at_call 114; refine KW.out.mono ?_; rintro e w1 ⟨rfl, rfl⟩))
    go_ret
    exact ⟨by rw [D.out]; rfl, Below.refl _ _⟩
theorem six_set {W : World} {b : Nat} {T : TypeId} {x0 x1 x2 x3 x4 x5 : Value} (h : W.heap[b]? = some (.cells #[x0, x1, x2, x3, x4, x5] T (0, 0))) (y0 y1 y2 y3 y4 y5 : Value) :
  ((((((W.setCell ⟨b, 0, none⟩ y0).setCell ⟨b, 1, none⟩ y1).setCell ⟨b, 2, none⟩ y2).setCell ⟨b, 3, none⟩ y3).setCell ⟨b, 4, none⟩ y4).setCell ⟨b, 5, none⟩ y5).heap[b]? = some (.cells #[y0, y1, y2, y3, y4, y5] T (0, 0)) := by
 have h0 := Go.heap_setCell_same W b 0 _ _ y0 h
 have h1 := Go.heap_setCell_same _ b 1 _ _ y1 h0
 have h2 := Go.heap_setCell_same _ b 2 _ _ y2 h1
 have h3 := Go.heap_setCell_same _ b 3 _ _ y3 h2
 have h4 := Go.heap_setCell_same _ b 4 _ _ y4 h3
 exact Go.heap_setCell_same _ b 5 _ _ y5 h4
theorem sets_other {g b : Nat} (hb : b ≠ g) : ∀ (vs : List Value) (o : Nat) (w : World), (w.setCells g o vs).heap[b]? = w.heap[b]?
 | [], _, _ => rfl
 | v :: vs, o, w => by
  show ((w.setCell ⟨g, o, none⟩ v).setCells g (o + 1) vs).heap[b]? = _
  rw [sets_other hb vs (o + 1), Below.heap_setCell _ _ _ _ hb]
theorem sets_below {g B : Nat} {a : World} (hg : B ≤ g) : ∀ (vs : List Value) (o : Nat) (w : World), Below B a w → Below B a (w.setCells g o vs)
 | [], _, _, h => h
 | v :: vs, o, w, h => sets_below hg vs (o + 1) (w.setCell ⟨g, o, none⟩ v) (h.setCell hg v)
def Asc (l : List Ty) : Prop := l.Pairwise fun a b => ordT a b = -1
theorem ordT_gt {a b : Ty} (h : ordT a b = 1) : ordT b a = -1 := by rw [ordT_flip, h]
theorem asc_unique : ∀ {l l' : List Ty}, Asc l → Asc l' → (∀ x, x ∈ l ↔ x ∈ l') → l = l'
 | [], [], _, _, _ => rfl
 | [], b :: l', _, _, h => absurd ((h b).2 (List.mem_cons_self ..)) (by simp)
 | a :: l, [], _, _, h => absurd ((h a).1 (List.mem_cons_self ..)) (by simp)
 | a :: l, b :: l', h, h', hm => by
  obtain ⟨h1, h2⟩ := List.pairwise_cons.1 h
  obtain ⟨h1', h2'⟩ := List.pairwise_cons.1 h'
  have hab : a = b := by
   rcases List.mem_cons.1 ((hm a).1 (List.mem_cons_self ..)) with e | e
   ·exact e
   ·rcases List.mem_cons.1 ((hm b).2 (List.mem_cons_self ..)) with e' | e'
    ·exact e'.symm
    ·have x1 := h1' a e
     have x2 := h1 b e'
     rw [ordT_flip, x2] at x1
     cases x1
  subst hab
  have ht : ∀ x, x ∈ l ↔ x ∈ l' := by
   intro x
   constructor
   ·intro hx
    rcases List.mem_cons.1 ((hm x).1 (List.mem_cons_of_mem _ hx)) with e | e
    ·subst e
     have := h1 x hx
     rw [ordT_zero.2 rfl] at this
     cases this
    ·exact e
   ·intro hx
    rcases List.mem_cons.1 ((hm x).2 (List.mem_cons_of_mem _ hx)) with e | e
    ·subst e
     have := h1' x hx
     rw [ordT_zero.2 rfl] at this
     cases this
    ·exact e
  rw [asc_unique h2 h2' ht]
def insT (t : Ty) : List Ty → List Ty
 | [] => [t]
 | a :: l => if ordT t a = -1 then t :: a :: l else if ordT t a = 0 then a :: l else a :: insT t l
theorem mem_insT (t x : Ty) : ∀ l, x ∈ insT t l ↔ x = t ∨ x ∈ l
 | [] => by simp [insT]
 | a :: l => by
  rw [insT]
  split
  ·simp
  ·split
   ·rename_i h
    have := ordT_zero.1 h
    subst this
    simp
   ·simp only [List.mem_cons, mem_insT t x l]
    constructor
    ·rintro (h | h | h)
     ·exact .inr (.inl h)
     ·exact .inl h
     ·exact .inr (.inr h)
    ·rintro (h | h | h)
     ·exact .inr (.inl h)
     ·exact .inl h
     ·exact .inr (.inr h)
theorem asc_insT (t : Ty) : ∀ {l}, Asc l → Asc (insT t l)
 | [], _ => by simp [insT, Asc]
 | a :: l, h => by
  obtain ⟨h1, h2⟩ := List.pairwise_cons.1 h
  rw [insT]
  split
  ·rename_i hlt
   refine List.pairwise_cons.2 ⟨fun x hx => ?_, h⟩
   rcases List.mem_cons.1 hx with rfl | hx
   ·exact hlt
   ·exact ordT_trans hlt (h1 x hx)
  ·split
   ·exact h
   ·rename_i h3 h4
    refine List.pairwise_cons.2 ⟨fun x hx => ?_, asc_insT t h2⟩
    rcases (mem_insT t x l).1 hx with rfl | hx
    ·rcases ordT_bd x a with e | e | e
     ·exact absurd e h3
     ·exact absurd e h4
     ·exact ordT_gt e
    ·exact h1 x hx
def sortT (l : List Ty) : List Ty := l.foldr insT []
theorem mem_sortT (x : Ty) : ∀ l, x ∈ sortT l ↔ x ∈ l
 | [] => by simp [sortT]
 | a :: l => by
  show x ∈ insT a (sortT l) ↔ _
  rw [mem_insT, mem_sortT x l, List.mem_cons]
theorem asc_sortT : ∀ l, Asc (sortT l)
 | [] => by simp [sortT, Asc]
 | a :: l => asc_insT a (asc_sortT l)
theorem sortT_of {l s : List Ty} (h : Asc s) (hm : ∀ x, x ∈ s ↔ x ∈ l) : sortT l = s :=
 asc_unique (asc_sortT l) h fun x => (mem_sortT x l).trans (hm x).symm
theorem sortT_self {l : List Ty} (h : Asc l) : sortT l = l := sortT_of h fun _ => Iff.rfl
def parts1 : Ty → List Ty
 | .mk k t n ps fs vs => if k = 15 then (ps.attach.map fun ⟨p, _⟩ => parts1 p).flatten else [.mk k t n ps fs vs]
termination_by t => SizeOf.sizeOf t
decreasing_by exact ty_lt_p ‹_›
def flatU (l : List Ty) : List Ty := (l.map parts1).flatten
theorem parts1_mk (k t n ps fs vs) : parts1 (.mk k t n ps fs vs) = if k = 15 then flatU ps else [.mk k t n ps fs vs] := by
 rw [parts1]
 unfold flatU
 simp only [List.map_attach_eq_pmap, List.pmap_eq_map]
theorem flatU_cons (a : Ty) (l : List Ty) : flatU (a :: l) = parts1 a ++ flatU l := by simp [flatU]
theorem flatU_app (a l : List Ty) : flatU (a ++ l) = flatU a ++ flatU l := by simp [flatU]
def hasK (k : Int) (l : List Ty) : Bool := l.any fun t => t.k == k
def infT : Ty → Bool
 | .mk k _ _ ps fs _ => k == 22 || (ps.attach.mapIdx fun i ⟨p, _⟩ => !(k == 21 && i == 1) && infT p).any id || (fs.attach.map fun ⟨f, _⟩ => infT f.2.2).any id
termination_by t => SizeOf.sizeOf t
decreasing_by
 ·exact ty_lt_p ‹_›
 ·exact ty_lt_f ‹_›
def infPs (k : Int) : Nat → List Ty → Bool
 | _, [] => false
 | i, p :: l => (!(k == 21 && i == 1) && infT p) || infPs k (i + 1) l
def infFs (l : FsT) : Bool := l.any fun f => infT f.2.2
theorem any_mapIdx {α : Type} (k : Int) (g : α → Ty) : ∀ (l : List α) (j : Nat), (l.mapIdx fun i p => !(k == 21 && (i + j) == 1) && infT (g p)).any id = infPs k j (l.map g)
 | [], _ => rfl
 | a :: l, j => by
  rw [List.mapIdx_cons, List.any_cons, List.map_cons, infPs, ← any_mapIdx k g l (j + 1)]
  simp only [Nat.zero_add, id_eq, Nat.add_assoc, Nat.add_comm 1 j]
theorem infT_mk (k t n ps fs vs) : infT (.mk k t n ps fs vs) = (k == 22 || infPs k 0 ps || infFs fs) := by
 rw [infT]
 have h := any_mapIdx k (fun p : {x // x ∈ ps} => p.1) ps.attach 0
 simp only [Nat.add_zero] at h
 rw [h]
 unfold infFs
 simp only [List.map_attach_eq_pmap, List.pmap_eq_map, List.any_map, List.map_id']
 rfl
structure Kinds where
 a : Bool
 u : Bool
 n : Bool
 s : Bool
def kindsOf (l : List Ty) : Kinds := ⟨hasK 3 l, hasK 2 l, hasK 7 l, hasK 8 l⟩
def keepT (h : Kinds) (t : Ty) : Bool :=
 if t.k = 1 then false else if t.k = 3 then true else if t.k = 2 ∧ h.a = false then true else if h.a = true ∨ h.u = true then infT t else if t.k = 9 then !h.n else if t.k = 10 then !h.s else true
def keptU (l : List Ty) : List Ty := (flatU l).filter (keepT (kindsOf (flatU l)))
def emptyB : ByteArray := ⟨#[]⟩
def tyK (k : Int) : Ty := .mk k emptyB 0 [] [] []
def shutU : List Ty → Ty
 | [] => tyK 1
 | [x] => x
 | x :: y :: l => .mk 15 emptyB 0 (x :: y :: l) [] []
def unionT (l : List Ty) : Ty := shutU (sortT (keptU l))
end Go.Proofs.YtgjblmlibhppiaaGreatDoor
