import Derived.Test.YtogoolpgajopcaaTrQ
namespace Go.Proofs.Ytogoolpgajopcaa
open Go.RowKit
/-- What is asked of a node by the node that has it among its parts. -/
structure Inf where
  kind : Int
  len : Nat
  ty : Bool
  par : Bool
  fld : Bool
  ref : Bool
  ex : Bool
  efl : Bool
  st : Bool
  blk : Bool
  var : Bool
  refs : Bool
  base : Bool
  hold : Bool
  meth : Bool
  imp : Bool
  dec : Bool
def emptyB (t : ByteArray) : Bool := t.toList.isEmpty
def plainB (n m : Int) : Bool := (n == 0) && (m == 0)
def bareB (t : ByteArray) (n m : Int) : Bool := plainB n m && emptyB t
def flagsB (n m : Int) : Bool := decide (0 ≤ n) && (decide (n ≤ 3) && (m == 0))
def lenB (l : List Inf) (j : Nat) : Bool := decide (l.length = j)
def typesB (l : List Inf) (j : Nat) : Bool := lenB l j && l.all (·.ty)
def exprsB (l : List Inf) (j : Nat) : Bool := lenB l j && l.all (·.ex)
def refB (k : Int) (t : ByteArray) (n m : Int) (l : List Inf) : Bool := (k == 1) && (idB t && (plainB n m && l.all (·.ty)))
def lastTy (l : List Inf) : Bool := (l.drop (l.length - 1)).all (·.ty)
def typeB (k : Int) (t : ByteArray) (n m : Int) (l : List Inf) : Bool :=
  if k = 1 then (if wordB t then plainB n m && lenB l 0 else refB k t n m l)
  else if k = 2 then emptyB t && (decide (0 ≤ n) && ((m == 0) && lenB l 0))
  else if k = 3 then plainB n m && lenB l 0
  else if k = 15 then idB t && (plainB n m && lenB l 0)
  else if k = 4 ∨ k = 11 then bareB t n m && typesB l 1
  else if k = 5 then bareB t n m && l.all (·.ty)
  else if k = 6 then bareB t n m && (decide (1 ≤ l.length) && ((l.take (l.length - 1)).all (·.par) && lastTy l))
  else if k = 7 then bareB t n m && l.all (·.fld)
  else if k = 9 ∨ k = 10 then bareB t n m && (decide (2 ≤ l.length) && l.all (·.ty))
  else if k = 12 then bareB t n m && typesB l 2
  else if k = 13 then idB t && (flagsB n m && typesB l 2)
  else if k = 14 then bareB t n m && typesB l 4
  else false
def parB (k : Int) (t : ByteArray) (n m : Int) (l : List Inf) : Bool := (k == 16) && (idB t && (plainB n m && typesB l 1))
def fldB (k : Int) (t : ByteArray) (n m : Int) (l : List Inf) : Bool := (k == 8) && (idB t && (flagsB n m && typesB l 1))
/-- N parameters, a type, and, if asked for, a block. -/
def routB (n : Int) (l : List Inf) (b : Bool) : Bool :=
  let q := l.length - (if b then 2 else 1)
  decide ((if b then 2 else 1) ≤ l.length) && (decide (n = (q : Int)) && ((l.take q).all (·.par) && (((l.drop q).take 1).all (·.ty) && (!b || (l.drop (q + 1)).all (·.blk)))))
def minusB (t : ByteArray) : Bool := (t.toList == [45]) || (t.toList == [33])
def binL : List (List UInt8) := [[43], [45], [42], [47], [37], [60], [60, 61], [62], [62, 61], [61, 61, 61], [33, 61, 61], [38, 38], [124, 124]]
def binB (t : ByteArray) : Bool := binL.any fun x => t.toList == x
def exprB (k : Int) (t : ByteArray) (n m : Int) (l : List Inf) : Bool :=
  if k = 20 then emptyB t && (decide (0 ≤ n) && ((m == 0) && lenB l 0))
  else if k = 21 then plainB n m && lenB l 0
  else if k = 22 ∨ k = 23 ∨ k = 24 ∨ k = 26 then bareB t n m && lenB l 0
  else if k = 25 then idB t && (plainB n m && lenB l 0)
  else if k = 27 then bareB t n m && l.all (·.efl)
  else if k = 29 then bareB t n m && l.all (·.ex)
  else if k = 30 then idB t && (plainB n m && exprsB l 1)
  else if k = 31 then bareB t n m && exprsB l 2
  else if k = 32 then bareB t n m && (decide (1 ≤ l.length) && l.all (·.ex))
  else if k = 33 then idB t && (plainB n m && l.all (·.ex))
  else if k = 34 then emptyB t && ((m == 0) && routB n l true)
  else if k = 35 then minusB t && (plainB n m && exprsB l 1)
  else if k = 36 then binB t && (plainB n m && exprsB l 2)
  else if k = 37 then bareB t n m && exprsB l 3
  else if k = 38 then bareB t n m && (lenB l 2 && ((l.take 1).all (·.ex) && (l.drop 1).all (·.ty)))
  else if k = 39 ∨ k = 40 then bareB t n m && exprsB l 1
  else false
def eflB (k : Int) (t : ByteArray) (n m : Int) (l : List Inf) : Bool := (k == 28) && (idB t && (plainB n m && exprsB l 1))
def blkB (k : Int) (t : ByteArray) (n m : Int) (l : List Inf) : Bool := (k == 59) && (bareB t n m && l.all (·.st))
def heldB (n : Int) (l : List Inf) : Bool :=
  if n = 0 then exprsB l 1 else if n = 1 then lenB l 2 && ((l.take 1).all (·.ty) && (l.drop 1).all (·.ex)) else false
def tgtB (i : Inf) : Bool := (i.kind == 25) || (i.kind == 30)
def branB (n : Int) (l : List Inf) : Bool := (decide (n = 0 ∨ n = 1) && decide ((l.length : Int) = 2 + n)) && ((l.take 1).all (·.ex) && (l.drop 1).all (·.blk))
def statB (k : Int) (t : ByteArray) (n m : Int) (l : List Inf) : Bool :=
  if k = 50 ∨ k = 51 then idB t && ((m == 0) && heldB n l)
  else if k = 52 then bareB t n m && (exprsB l 2 && (l.take 1).all tgtB)
  else if k = 53 ∨ k = 57 then bareB t n m && exprsB l 1
  else if k = 54 then emptyB t && ((m == 0) && branB n l)
  else if k = 55 then bareB t n m && (lenB l 2 && ((l.take 1).all (·.ex) && (l.drop 1).all (·.blk)))
  else if k = 56 then emptyB t && ((m == 0) && (decide (n = 0 ∨ n = 1) && (decide ((l.length : Int) = n) && l.all (·.ex))))
  else if k = 58 then idB t && (plainB n m && (lenB l 2 && l.all (·.blk)))
  else if k = 59 then blkB k t n m l
  else false
def varB (k : Int) (t : ByteArray) (n m : Int) (l : List Inf) : Bool := (k == 73) && (idB t && ((m == 0) && (decide (n = 0 ∨ n = 1) && (decide ((l.length : Int) = n) && l.all (·.ty)))))
def refsB (t : ByteArray) (n m : Int) (l : List Inf) : Bool := bareB t n m && (lenB l 1 && l.all (·.ref))
def baseB (t : ByteArray) (n m : Int) (l : List Inf) : Bool := (bareB t n m && decide (1 ≤ l.length)) && ((l.take 1).all (fun i => decide (i.len = 0)) && ((l.take 1).all (·.ref) && (l.drop 1).all (·.ex)))
def holdB (t : ByteArray) (n m : Int) (l : List Inf) : Bool := (idB t && ((m == 0) && decide (n = 0 ∨ n = 1))) && (lenB l 2 && ((l.take 1).all (·.ty) && (l.drop 1).all (·.ex)))
def methB (t : ByteArray) (n m : Int) (l : List Inf) : Bool := idB t && ((m == 0) && routB n l true)
def impB (k : Int) (t : ByteArray) (n m : Int) (l : List Inf) : Bool := (k == 71) && (idB t && (plainB n m && lenB l 0))
def timesB (p : Inf → Bool) (l : List Inf) (q : Int) : Bool := decide (0 ≤ q ∧ q ≤ (l.length : Int)) && (l.take q.toNat).all p
/-- Are all of the first ones of a kind so? How many are there? -/
def runB (K : Int) (p : Inf → Bool) (l : List Inf) : Bool := (l.takeWhile fun x => x.kind == K).all p
def runN (K : Int) (l : List Inf) : Nat := (l.takeWhile fun x => x.kind == K).length
def hd75 (l : List Inf) : Bool := (l.take 1).any fun x => x.kind == 75
def typeD (n : Int) (l : List Inf) : Bool := timesB (·.var) l n && (timesB (·.ty) (l.drop n.toNat) 1 && decide (n.toNat + 1 = l.length))
def interD (n : Int) (l : List Inf) : Bool := timesB (·.var) l n && (runB 75 (·.refs) (l.drop n.toNat) && (runB 8 (·.fld) (l.drop (n.toNat + runN 75 (l.drop n.toNat))) && decide (n.toNat + runN 75 (l.drop n.toNat) + runN 8 (l.drop (n.toNat + runN 75 (l.drop n.toNat))) = l.length)))
def constD (n : Int) (l : List Inf) : Bool := (n == 0) && (timesB (·.ty) l 1 && (timesB (·.ex) (l.drop 1) 1 && decide (2 = l.length)))
def impD (n m : Int) (l : List Inf) : Bool := plainB n m && (decide (1 ≤ l.length) && l.all (·.imp))
/-- A class's parts behind what it extends. -/
def classT (l : List Inf) (i : Nat) : Bool := runB 77 (·.refs) (l.drop i) && (runB 78 (·.hold) (l.drop (i + runN 77 (l.drop i))) && (runB 79 (·.meth) (l.drop (i + runN 77 (l.drop i) + runN 78 (l.drop (i + runN 77 (l.drop i))))) && decide (i + runN 77 (l.drop i) + runN 78 (l.drop (i + runN 77 (l.drop i))) + runN 79 (l.drop (i + runN 77 (l.drop i) + runN 78 (l.drop (i + runN 77 (l.drop i))))) = l.length)))
def classD (n : Int) (l : List Inf) : Bool := timesB (·.par) l n && (if hd75 (l.drop n.toNat) = true then timesB (·.base) (l.drop n.toNat) 1 && classT l (n.toNat + 1) else classT l n.toNat)
def funcD (n : Int) (l : List Inf) (b : Bool) : Bool := runB 73 (·.var) l && routB n (l.drop (runN 73 l)) b
/-- The reference's words for the same. -/
def varsB (l : List Inf) (q : Int) : Bool := decide (0 ≤ q ∧ (runN 73 l : Int) = q) && (l.take q.toNat).all (·.var)
def typeR (n : Int) (l : List Inf) : Bool := varsB l n && (decide (l.length = runN 73 l + 1) && ((l.drop (runN 73 l)).take 1).all (·.ty))
def interR (n : Int) (l : List Inf) : Bool := varsB l n && (((l.drop n.toNat).take (runN 75 (l.drop n.toNat))).all (·.refs) && (l.drop (n.toNat + runN 75 (l.drop n.toNat))).all (·.fld))
def classR (n : Int) (l : List Inf) : Bool := timesB (·.par) l n && (decide ((runN 16 l : Int) = n) && (if hd75 (l.drop n.toNat) = true then ((l.drop n.toNat).take 1).all (·.base) && classT l (n.toNat + 1) else classT l n.toNat))
def overR (n : Int) (l : List Inf) : Bool := timesB (·.par) (l.drop (runN 73 l)) n && (decide ((l.length : Int) = (runN 73 l : Int) + n + 1) && (l.drop (l.length - 1)).all (·.ty))
def constR (n : Int) (l : List Inf) : Bool := (n == 0) && (decide (l.length = 2) && ((l.take 1).all (·.ty) && (l.drop 1).all (·.ex)))
def declB (k : Int) (t : ByteArray) (n m : Int) (l : List Inf) : Bool :=
  if k = 70 then impD n m l
  else if (m = 0 ∨ m = 1) ∧ idB t = true then
    (if k = 72 then typeD n l else if k = 74 then interD n l else if k = 76 then classD n l else if k = 80 then funcD n l true else if k = 81 then funcD n l false else if k = 82 then constD n l else false)
  else false
def mk (k : Int) (t : ByteArray) (n m : Int) (l : List Inf) : Inf where
  kind := k
  len := l.length
  ty := typeB k t n m l
  par := parB k t n m l
  fld := fldB k t n m l
  ref := refB k t n m l
  ex := exprB k t n m l
  efl := eflB k t n m l
  st := statB k t n m l
  blk := blkB k t n m l
  var := varB k t n m l
  refs := refsB t n m l
  base := baseB t n m l
  hold := holdB t n m l
  meth := methB t n m l
  imp := impB k t n m l
  dec := declB k t n m l
def Fo.inf : Fo → List Inf
  | .nil => []
  | .cons k t n m _ P R => mk k t n m P.inf :: R.inf
theorem inf_len : ∀ F : Fo, F.inf.length = F.len := by
  intro F
  induction F with
  | nil => rfl
  | cons k t n m a P R _ ihR => simp [Fo.inf, Fo.len, ihR]
/-- The node lies in its box g, in a world behind w. -/
structure Box (w : World) (g : Nat) (k : Int) (t : ByteArray) (n m a : Int) (l : Nat) (A : Option Addr) (c : Nat) (W : World) : Prop where
  below : Below w.heap.size w W
  up : g < W.heap.size
  c0 : W.cell? ⟨g, 0, none⟩ = some (.int .i64 k)
  c1 : W.cell? ⟨g, 1, none⟩ = some (.string t)
  c2 : W.cell? ⟨g, 2, none⟩ = some (.int .i64 n)
  c3 : W.cell? ⟨g, 3, none⟩ = some (.int .i64 m)
  c4 : W.cell? ⟨g, 4, none⟩ = some (.int .i64 a)
  c5 : W.cell? ⟨g, 5, none⟩ = some (.slice A l c)
theorem Box.new (w : World) (k : Int) (t : ByteArray) (n m a : Int) (l : Nat) (A : Option Addr) (c : Nat) : Box w w.heap.size k t n m a l A c (w.alloc (.cells #[.int .i64 k, .string t, .int .i64 n, .int .i64 m, .int .i64 a, .slice A l c] 24)) := by
  have key : ∀ i : Nat, (w.alloc (.cells #[.int .i64 k, .string t, .int .i64 n, .int .i64 m, .int .i64 a, .slice A l c] 24)).cell? ⟨w.heap.size, i, none⟩ = (#[.int .i64 k, .string t, .int .i64 n, .int .i64 m, .int .i64 a, .slice A l c] : Array Value)[i]? := fun i => cell_of_row _ _ _ _ _ _ (heap_alloc_new w _)
  exact ⟨(Below.refl _ _).alloc (Nat.le_refl _) _, by simp, key 0, key 1, key 2, key 3, key 4, key 5⟩
theorem Box.later {w W W' : World} {g : Nat} {k : Int} {t : ByteArray} {n m a : Int} {l : Nat} {A : Option Addr} {c : Nat} (h : Box w g k t n m a l A c W) (hb : Below W.heap.size W W') : Box w g k t n m a l A c W' := by
  obtain ⟨hB, hu, h0, h1, h2, h3, h4, h5⟩ := h
  exact ⟨below_step hB hb, by have := hb.size; omega, (hb.cell (p := ⟨g, 0, none⟩) hu).trans h0, (hb.cell (p := ⟨g, 1, none⟩) hu).trans h1, (hb.cell (p := ⟨g, 2, none⟩) hu).trans h2, (hb.cell (p := ⟨g, 3, none⟩) hu).trans h3, (hb.cell (p := ⟨g, 4, none⟩) hu).trans h4, (hb.cell (p := ⟨g, 5, none⟩) hu).trans h5⟩
theorem Box.draw {w W : World} {g : Nat} {k : Int} {t : ByteArray} {n m a : Int} {l : Nat} {A : Option Addr} {c : Nat} (h : Box w g k t n m a l A c W) : Box w g k t n m a l A c W.drew := h.later (Below.drew (Below.refl _ _))
def FunP (f : Nat) (p : Inf → Bool) (P : Fo) : Prop := ∀ (k : Int) (t : ByteArray) (n m a : Int) (A : Option Addr) (c : Nat) (w : World), Holds w w.heap.size P A 0 → P.len ≤ c → c ≤ 1000000000000000 → t.size ≤ 1000000000000000 →
    Calls Try.prog f #[val6 k t n m a P.len A c] w fun e w' => e = .returned (.bool (p (mk k t n m P.inf))) ∧ Below w.heap.size w w'
end Go.Proofs.Ytogoolpgajopcaa
