import Derived.Test.YtlgklkokadbpeaaDoorStR
import Derived.Maps.OwnSet
import Derived.StringKeys
namespace Go.Proofs.YtlgklkokadbpeaaDoor
open Go.RowKit Go.Maps
/-- A file: its name, its text, its version. -/
structure Fi where
  n : ByteArray
  t : ByteArray
  v : Int
def Fi.val (f : Fi) : Value := .agg #[.string f.n, .string f.t, .int .i64 f.v]
def Fi.dat (f : Fi) : DataW Unit := .agg [.lit (.string f.n.data.toList), .lit (.string f.t.data.toList), .lit (.int .i64 f.v)]
/-- How a file reads that lies in a map. -/
def fileR : Value → Option (DataW Unit × List MemPlace)
  | .agg ⟨[.string n, .string t, .int .i64 v]⟩ => some (Fi.dat ⟨n, t, v⟩, [])
  | _ => none
theorem fileR_val (f : Fi) : fileR f.val = some (f.dat, []) := rfl
theorem toList_inj {a b : ByteArray} (h : a.data.toList = b.data.toList) : a = b := by
  cases a; cases b
  simp only [ByteArray.mk.injEq]
  exact Array.ext' h
theorem fileR_inv {v : Value} {f : Fi} {ps : List MemPlace} (h : fileR v = some (f.dat, ps)) : v = f.val := by
  unfold fileR at h
  split at h
  · rename_i n t x
    simp only [Fi.dat, Option.some.injEq, Prod.mk.injEq, DataW.agg.injEq, List.cons.injEq, DataW.lit.injEq, Lit.string.injEq, Lit.int.injEq, and_true, true_and] at h
    obtain ⟨⟨h1, h2, h3⟩, -⟩ := h
    have e1 := toList_inj h1
    have e2 := toList_inj h2
    unfold Fi.val
    rw [e1, e2, h3]
  · cases h
def zeroF : Fi := ⟨⟨#[]⟩, ⟨#[]⟩, 0⟩
def lk (s : ByteArray) : Lit := .string s.data.toList
theorem key_of (s : ByteArray) (hs : s.size ≤ maxLen) : keyOf Tryd.prog 9 (.string s) = some (lk s) := Go.WideMaps.keyOf_string_mk Tryd.underlying9 hs
theorem own_size {W : World} {R n : Nat} {D : DataW Unit} (h : W.ownsMap Tryd.prog 9 fileR R n D) : W.ownsMap Tryd.prog 9 fileR R (size D) D := by
  obtain ⟨es, clock, hb, F, _, rfl⟩ := h
  exact ⟨es, clock, hb, F, by simp [size, length_sorted], rfl⟩
/-- Files as a map of them reads. -/
def dat (L : List Fi) : DataW Unit := .map (L.map fun f => (lk f.n, f.dat))
def find (L : List Fi) (s : ByteArray) : Option Fi := L.find? fun f => (lk f.n).sameKey (lk s)
theorem size_dat (L : List Fi) : size (dat L) = L.length := by simp [dat, size]
theorem has_dat (L : List Fi) (s : ByteArray) : has (dat L) (lk s) = (find L s).isSome := by
  unfold dat find
  rw [has_eq]
  induction L with
  | nil => rfl
  | cons f L ih =>
    rw [List.map_cons, List.any_cons, List.find?_cons]
    cases h : (lk f.n).sameKey (lk s) with
    | true => simp
    | false => simpa using ih
theorem at_dat (L : List Fi) (s : ByteArray) : (dat L).atKey (lk s) zeroF.dat = ((find L s).getD zeroF).dat := by
  unfold dat find DataW.atKey
  simp only
  induction L with
  | nil => rfl
  | cons f L ih =>
    rw [List.map_cons, List.find?_cons, List.find?_cons]
    cases h : (lk f.n).sameKey (lk s) with
    | true => simp
    | false => simpa using ih
/-- Of what was there, the blocks of K hold what they held; the streams are as they were; no block has gone. -/
structure Kp (K : Nat → Prop) (w w' : World) : Prop where
  os : w'.os = w.os
  tape : w'.tape = w.tape
  output : w'.output = w.output
  size : w.heap.size ≤ w'.heap.size
  block : ∀ k, K k → k < w.heap.size → w'.heap[k]? = w.heap[k]?
theorem Kp.refl (K : Nat → Prop) (w : World) : Kp K w w := ⟨rfl, rfl, rfl, Nat.le_refl _, fun _ _ _ => rfl⟩
theorem Kp.trans {K : Nat → Prop} {a b c : World} (h : Kp K a b) (k : Kp K b c) : Kp K a c :=
  ⟨k.os.trans h.os, k.tape.trans h.tape, k.output.trans h.output, Nat.le_trans h.size k.size, fun i hi hl => (k.block i hi (Nat.lt_of_lt_of_le hl h.size)).trans (h.block i hi hl)⟩
theorem Kp.sub {K K' : Nat → Prop} {a b : World} (h : Kp K a b) (hK : ∀ k, K' k → k < a.heap.size → K k) : Kp K' a b := ⟨h.os, h.tape, h.output, h.size, fun i hi hl => h.block i (hK i hi hl) hl⟩
theorem Kp.drew {K : Nat → Prop} {a w : World} (h : Kp K a w) : Kp K a w.drew := ⟨h.os, h.tape, h.output, h.size, h.block⟩
theorem Kp.alloc {K : Nat → Prop} {a w : World} (h : Kp K a w) (o : Obj) : Kp K a (w.alloc o) :=
  h.trans ⟨rfl, rfl, rfl, by simp, fun k _ hl => Go.RowKit.Below.heap_alloc _ _ _ hl⟩
theorem Kp.setCell {K : Nat → Prop} {a w : World} (h : Kp K a w) {p : Addr} (hp : ¬ K p.block) (u : Value) : Kp K a (w.setCell p u) :=
  h.trans ⟨rfl, rfl, rfl, by simp [World.setCell], fun k hk _ => Go.RowKit.Below.heap_setCell _ _ _ _ (fun e => hp (e ▸ hk))⟩
theorem Kp.cell {K : Nat → Prop} {w w' : World} (h : Kp K w w') {p : Addr} (hp : K p.block) (hl : p.block < w.heap.size) : w'.cell? p = w.cell? p := World.cell?_of_block (w := w) (h.block p.block hp hl)
theorem Kp.frozen {K : Nat → Prop} {w w' : World} (h : Kp K w w') {p : Addr} (hp : K p.block) (hl : p.block < w.heap.size) : w'.frozen? p = w.frozen? p := World.frozen?_of_block (w := w) (h.block p.block hp hl)
theorem Kp.below {B : Nat} {w w' : World} (h : Kp (fun k => k < B) w w') (hB : B ≤ w.heap.size) : Go.RowKit.Below B w w' := ⟨h.os, h.tape, h.output, h.size, fun k hk => h.block k hk (Nat.lt_of_lt_of_le hk hB)⟩
theorem kp_of {K : Nat → Prop} {w w' : World} (h : Go.RowKit.Below w.heap.size w w') : Kp K w w' := ⟨h.os, h.tape, h.output, h.size, fun k _ hl => h.block k hl⟩
/-- The store at b, not among the blocks of B; its files are L, its revision is n. -/
structure St (W : World) (B : Nat → Prop) (b : Nat) (L : List Fi) (n : Int) : Prop where
  c0 : W.cell? ⟨b, 0, none⟩ = some (.int .i64 n)
  c1 : (W.cell? ⟨b, 1, none⟩ = some (.map none) ∧ L = []) ∨ ∃ R, W.cell? ⟨b, 1, none⟩ = some (.map (some R)) ∧ W.ownsMap Tryd.prog 9 fileR R L.length (dat L) ∧ ¬ B R ∧ R ≠ b
  fz : ∀ k, W.frozen? ⟨b, k, none⟩ = false
  ge : ¬ B b
theorem St.lt {W : World} {B : Nat → Prop} {b : Nat} {L : List Fi} {n : Int} (h : St W B b L n) : b < W.heap.size := World.block_lt_of_cell? _ _ h.c0
theorem own_below {W W' : World} {R n : Nat} {D : DataW Unit} (h : W.ownsMap Tryd.prog 9 fileR R n D) (hb : Below W.heap.size W W') : W'.ownsMap Tryd.prog 9 fileR R n D := by
  have hl := h.lt
  obtain ⟨es, clock, h1, F, hs, e⟩ := h
  exact ⟨es, clock, (hb.block R hl).trans h1, F, hs, e⟩
theorem St.later {W W' : World} {B : Nat → Prop} {b : Nat} {L : List Fi} {n : Int} (h : St W B b L n) (hb : Below W.heap.size W W') : St W' B b L n := by
  have hl := h.lt
  refine ⟨cell_later hb h.c0, ?_, fun k => (hb.frozen (p := ⟨b, k, none⟩) hl).trans (h.fz k), h.ge⟩
  rcases h.c1 with ⟨h1, h2⟩ | ⟨R, h1, h2, h3, h4⟩
  · exact .inl ⟨cell_later hb h1, h2⟩
  · exact .inr ⟨R, cell_later hb h1, own_below h2 hb, h3, h4⟩
theorem zeroFile (W : World) : (zeroValue 45).run Tryd.prog W = .ok (.agg #[.string ⟨#[]⟩, .string ⟨#[]⟩, .int .i64 0]) W := by kernel_rfl
/-- What a look-up of a name tells, the nil map's too. -/
theorem look_any {W : World} {B : Nat → Prop} {b : Nat} {L : List Fi} {n : Int} (h : St W B b L n) (s : ByteArray) (hs : s.size ≤ maxLen) :
    ∃ m : Option Nat, W.cell? ⟨b, 1, none⟩ = some (.map m) ∧ ∀ W', Below W.heap.size W W' → (Instr.lookup 50 (.map m) (.string s) true).run Tryd.prog W' = .ok (.tuple #[((find L s).getD zeroF).val, .bool (find L s).isSome]) W' := by
  rcases h.c1 with ⟨h1, rfl⟩ | ⟨R, h1, h2, _, _⟩
  · exact ⟨none, h1, fun W' _ => lookup_none W' _ _ _ _ _ Tryd.underlying50 Tryd.underlying9 (zeroFile W')⟩
  · refine ⟨some R, h1, fun W' hW => ?_⟩
    obtain ⟨v, ps, hrun, hv⟩ := (own_below h2 hW).look_ok (string_keyed Tryd.underlying9) Tryd.underlying50 (zeroFile W') (zd := zeroF.dat) (zp := []) rfl (key_of s hs)
    rw [at_dat] at hv
    rw [fileR_inv hv, has_dat] at hrun
    exact hrun
/-- How many files there are. -/
theorem len_any {W : World} {B : Nat → Prop} {b : Nat} {L : List Fi} {n : Int} (h : St W B b L n) : ∃ m : Option Nat, W.cell? ⟨b, 1, none⟩ = some (.map m) ∧ ∀ W', Below W.heap.size W W' → (Builtin.len_ #[50] 3 #[.map m]).run Tryd.prog W' = .ok (.int .i64 L.length) W' := by
  rcases h.c1 with ⟨h1, rfl⟩ | ⟨R, h1, h2, _, _⟩
  · refine ⟨none, h1, fun W' _ => ?_⟩
    simp [Builtin.len_, run_underlying Tryd.underlying50, goInt, Result.andThen]
  · refine ⟨some R, h1, fun W' hW => ?_⟩
    have h3 := (own_below h2 hW).len (e := 45) Tryd.underlying50 3
    rw [size_dat] at h3
    exact h3
end Go.Proofs.YtlgklkokadbpeaaDoor
