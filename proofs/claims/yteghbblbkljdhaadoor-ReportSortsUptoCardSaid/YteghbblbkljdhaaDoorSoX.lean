import Derived.Test.YteghbblbkljdhaaDoorSoR
import Derived.Test.YteghbblbkljdhaaDoorProg
import Derived.Maps.OwnSet
import Derived.StringKeys
import Derived.WalkKit
import Derived.WalkLawsBesides
import Derived.Handy
namespace Go.Proofs.YteghbblbkljdhaaDoor
open Go.RowKit Go.Maps Go.ChangeMaps
/-- A file: its name, its text, its version. -/
structure Fi where
  n : ByteArray
  t : ByteArray
  v : Int
def Fi.val (f : Fi) : Value := .agg #[.string f.n, .string f.t, .int .i64 f.v]
def Fi.dat (f : Fi) : DataW Unit := .agg [.lit (.string f.n.data.toList), .lit (.string f.t.data.toList), .lit (.int .i64 f.v)]
/-- How a file reads that lies in a map. -/
def fileR : Value → Option (DataW Unit × List MemPlace)
  | .agg ⟨[.string n, .string t, .int .i64 v]⟩ => some (Fi.dat ⟨n, t, v⟩, [])
  | _ => none
theorem fileR_val (f : Fi) : fileR f.val = some (f.dat, []) := rfl
theorem toList_inj {a b : ByteArray} (h : a.data.toList = b.data.toList) : a = b := by
  cases a; cases b
  simp only [ByteArray.mk.injEq]
  exact Array.ext' h
theorem fileR_inv {v : Value} {f : Fi} {ps : List MemPlace} (h : fileR v = some (f.dat, ps)) : v = f.val := by
  unfold fileR at h
  split at h
  · rename_i n t x
    simp only [Fi.dat, Option.some.injEq, Prod.mk.injEq, DataW.agg.injEq, List.cons.injEq, DataW.lit.injEq, Lit.string.injEq, Lit.int.injEq, and_true, true_and] at h
    obtain ⟨⟨h1, h2, h3⟩, -⟩ := h
    have e1 := toList_inj h1
    have e2 := toList_inj h2
    unfold Fi.val
    rw [e1, e2, h3]
  · cases h
def zeroF : Fi := ⟨⟨#[]⟩, ⟨#[]⟩, 0⟩
def lk (s : ByteArray) : Lit := .string s.data.toList
theorem key_of (s : ByteArray) (hs : s.size ≤ maxLen) : keyOf Tryd.prog 9 (.string s) = some (lk s) := Go.WideMaps.keyOf_string_mk Tryd.underlying9 hs
theorem own_size {W : World} {R n : Nat} {D : DataW Unit} (h : W.ownsMap Tryd.prog 9 fileR R n D) : W.ownsMap Tryd.prog 9 fileR R (size D) D := by
  obtain ⟨es, clock, hb, F, _, rfl⟩ := h
  exact ⟨es, clock, hb, F, by simp [size, length_sorted], rfl⟩
/-- Files as a map of them reads. -/
def dat (L : List Fi) : DataW Unit := .map (L.map fun f => (lk f.n, f.dat))
def find (L : List Fi) (s : ByteArray) : Option Fi := L.find? fun f => (lk f.n).sameKey (lk s)
theorem size_dat (L : List Fi) : size (dat L) = L.length := by simp [dat, size]
theorem has_dat (L : List Fi) (s : ByteArray) : has (dat L) (lk s) = (find L s).isSome := by
  unfold dat find
  rw [has_eq]
  induction L with
  | nil => rfl
  | cons f L ih =>
    rw [List.map_cons, List.any_cons, List.find?_cons]
    cases h : (lk f.n).sameKey (lk s) with
    | true => simp
    | false => simpa using ih
theorem at_dat (L : List Fi) (s : ByteArray) : (dat L).atKey (lk s) zeroF.dat = ((find L s).getD zeroF).dat := by
  unfold dat find DataW.atKey
  simp only
  induction L with
  | nil => rfl
  | cons f L ih =>
    rw [List.map_cons, List.find?_cons, List.find?_cons]
    cases h : (lk f.n).sameKey (lk s) with
    | true => simp
    | false => simpa using ih
/-- Files without a name. -/
def without (L : List Fi) (s : ByteArray) : List Fi := L.filter fun f => !(lk f.n).sameKey (lk s)
theorem del_dat (L : List Fi) (s : ByteArray) : (dat L).del (lk s) = dat (without L s) := by
  unfold dat without DataW.del
  simp only [DataW.map.injEq]
  induction L with
  | nil => rfl
  | cons f L ih =>
    rw [List.map_cons, List.filter_cons, List.filter_cons]
    cases h : (!(lk f.n).sameKey (lk s)) with
    | true => simpa using ih
    | false => simpa using ih
theorem without_len (L : List Fi) (s : ByteArray) : (without L s).length ≤ L.length := List.length_filter_le _ _
theorem sizes_eq {W : World} {R n : Nat} {L : List Fi} (h : W.ownsMap Tryd.prog 9 fileR R n (dat L)) : W.ownsMap Tryd.prog 9 fileR R L.length (dat L) := by
  have := own_size h
  rwa [size_dat] at this
/-- A file put among files that rise by their names. -/
def insF (f : Fi) : List Fi → List Fi
  | [] => [f]
  | g :: r => if (lk f.n).before (lk g.n) then f :: g :: r else g :: insF f r
def putL (L : List Fi) (f : Fi) : List Fi := insF f (without L f.n)
theorem ins_dat (f : Fi) : ∀ L : List Fi, DataW.insert (lk f.n, f.dat) (L.map fun f => (lk f.n, f.dat)) = (insF f L).map fun f => (lk f.n, f.dat)
  | [] => rfl
  | g :: r => by
    rw [List.map_cons, DataW.insert, insF]
    by_cases h : (lk f.n).before (lk g.n) = true
    · rw [if_pos h, if_pos h]; rfl
    · rw [if_neg h, if_neg h, ins_dat f r]; rfl
theorem put_dat (L : List Fi) (f : Fi) : (dat L).put (lk f.n) f.dat = dat (putL L f) := by
  have h := del_dat L f.n
  unfold dat DataW.del at h
  simp only [DataW.map.injEq] at h
  unfold dat DataW.put putL
  simp only [DataW.map.injEq]
  rw [h]
  exact ins_dat f _
theorem own_below {W W' : World} {R n : Nat} {D : DataW Unit} (h : W.ownsMap Tryd.prog 9 fileR R n D) (hb : Below W.heap.size W W') : W'.ownsMap Tryd.prog 9 fileR R n D := by
  have hl := h.lt
  obtain ⟨es, clock, h1, F, hs, e⟩ := h
  exact ⟨es, clock, (hb.block R hl).trans h1, F, hs, e⟩
theorem zeroFile (W : World) : (zeroValue 62).run Tryd.prog W = .ok (.agg #[.string ⟨#[]⟩, .string ⟨#[]⟩, .int .i64 0]) W := by kernel_rfl
/-- The map in block R holds the files L. -/
def Fm (W : World) (R : Nat) (L : List Fi) : Prop := W.ownsMap Tryd.prog 9 fileR R L.length (dat L)
theorem Fm.later {W W' : World} {R : Nat} {L : List Fi} (h : Fm W R L) (hb : Below W.heap.size W W') : Fm W' R L := own_below h hb
theorem Fm.ltS {W : World} {R : Nat} {L : List Fi} (h : Fm W R L) : R < W.heap.size := World.ownsMap.lt h
theorem Fm.nil (W : World) : Fm (W.alloc (.map #[] 0)) W.heap.size [] := World.ownsMap_made W Tryd.prog 9 fileR
/-- A look-up with a second value. -/
theorem Fm.look2 {W : World} {R : Nat} {L : List Fi} (h : Fm W R L) (s : ByteArray) (hs : s.size ≤ maxLen) : (Instr.lookup 100 (.map (some R)) (.string s) true).run Tryd.prog W = .ok (.tuple #[((find L s).getD zeroF).val, .bool (find L s).isSome]) W := by
  obtain ⟨v, ps, hrun, hv⟩ := World.ownsMap.look_ok h (string_keyed Tryd.underlying9) Tryd.underlying100 (zeroFile W) (zd := zeroF.dat) (zp := []) rfl (key_of s hs)
  rw [at_dat] at hv
  rw [fileR_inv hv, has_dat] at hrun
  exact hrun
/-- .. and without. -/
theorem Fm.look1 {W : World} {R : Nat} {L : List Fi} (h : Fm W R L) (s : ByteArray) (hs : s.size ≤ maxLen) : (Instr.lookup 100 (.map (some R)) (.string s) false).run Tryd.prog W = .ok ((find L s).getD zeroF).val W := by
  obtain ⟨v, ps, hrun, hv⟩ := World.ownsMap.lookup h (string_keyed Tryd.underlying9) Tryd.underlying100 (zeroFile W) (zd := zeroF.dat) (zp := []) rfl (key_of s hs)
  rw [at_dat] at hv
  rw [fileR_inv hv] at hrun
  exact hrun
theorem small_max : 1000 < maxLen := by decide
/-- A file is laid into the map. -/
theorem Fm.put {W : World} {R : Nat} {L : List Fi} (h : Fm W R L) (hL : L.length ≤ 1000) (s t : ByteArray) (v : Int) (hs : s.size ≤ maxLen) :
    ∃ w', (Instr.mapUpdate 100 (.map (some R)) (.string s) (.agg #[.string s, .string t, .int .i64 v])).run Tryd.prog W = .ok () w' ∧ Fm w' R (putL L ⟨s, t, v⟩) ∧ Kp (fun k => k ≠ R) W w' := by
  obtain ⟨w', hrun, ho, hg⟩ := World.ownsMap.update h (string_keyed Tryd.underlying9) Tryd.underlying100 (Nat.lt_of_le_of_lt hL small_max) (key_of s hs) (fileR_val ⟨s, t, v⟩)
  rw [put_dat L ⟨s, t, v⟩] at ho
  exact ⟨w', hrun, sizes_eq ho, ⟨hg.os, hg.tape, hg.output, hg.size, fun k hk hl => hg.block k hl (fun e => hk (Option.some.inj e))⟩⟩
theorem same_lk (a b : ByteArray) : (lk a).sameKey (lk b) = decide (a = b) := by
  unfold lk Lit.sameKey
  rw [Bool.eq_iff_iff]
  simp only [beq_iff_eq, decide_eq_true_eq]
  exact ⟨toList_inj, fun e => by rw [e]⟩
theorem find_nil (s : ByteArray) : find [] s = none := rfl
theorem find_cons (f : Fi) (L : List Fi) (s : ByteArray) : find (f :: L) s = if f.n = s then some f else find L s := by
  unfold find
  rw [List.find?_cons, same_lk]
  by_cases h : f.n = s <;> simp [h]
theorem without_none : ∀ {L : List Fi} {s : ByteArray}, find L s = none → without L s = L := by
  intro L s h
  unfold without
  rw [List.filter_eq_self]
  intro f hf
  unfold find at h
  rw [List.find?_eq_none] at h
  simpa using h f hf
theorem find_ins (f : Fi) (s : ByteArray) : ∀ L : List Fi, find L f.n = none → find (insF f L) s = if f.n = s then some f else find L s
  | [], _ => by rw [insF, find_cons]
  | g :: r, h => by
    rw [find_cons] at h
    by_cases hg : g.n = f.n
    · rw [if_pos hg] at h; cases h
    rw [if_neg hg] at h
    rw [insF]
    split
    · rw [find_cons]
    · rw [find_cons, find_ins f s r h, find_cons]
      by_cases h1 : g.n = s
      · rw [if_pos h1, if_pos h1, if_neg (fun e => hg (h1.trans e.symm))]
      · rw [if_neg h1, if_neg h1]
theorem find_put {L : List Fi} {f : Fi} (h : find L f.n = none) (s : ByteArray) : find (putL L f) s = if f.n = s then some f else find L s := by
  unfold putL
  rw [without_none h]
  exact find_ins f s L h
theorem ins_len (f : Fi) : ∀ L : List Fi, (insF f L).length = L.length + 1
  | [] => rfl
  | g :: r => by rw [insF]; split <;> simp [ins_len f r]
theorem put_len {L : List Fi} {f : Fi} (h : find L f.n = none) : (putL L f).length = L.length + 1 := by
  unfold putL
  rw [without_none h, ins_len]
end Go.Proofs.YteghbblbkljdhaaDoor
