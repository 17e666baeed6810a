import Derived.Maps.OwnSet
import Derived.StringKeys
import Derived.WalkKit
import Derived.Handy
import Derived.Below
import Derived.MapKept
namespace Go.Proofs.YtjcaeoacgoklmaaDoor
open Go.RowKit Go.Maps Go.ChangeMaps
theorem list_inj {a b : ByteArray} (h : a.data.toList = b.data.toList) : a = b := by
  cases a; cases b
  simp only [ByteArray.mk.injEq]
  exact Array.ext' h
/-- A kind of map with strings as keys, and how its elements read. -/
structure MK (P : Program) (α : Type) where
  T : TypeId
  S : TypeId
  E : TypeId
  val : α → Value
  dat : α → DataW Unit
  zero : α
  R : Value → Option (DataW Unit × List MemPlace)
  hR : ∀ a, R (val a) = some (dat a, [])
  inv : ∀ {v a ps}, R v = some (dat a, ps) → v = val a
  hS : P.underlying S = some .string
  hT : P.underlying T = some (.map S E)
  hz : ∀ W, (zeroValue E).run P W = .ok (val zero) W
def keyL (s : ByteArray) : Lit := .string s.data.toList
section
variable {P : Program} {α : Type}
theorem MK.key (M : MK P α) (s : ByteArray) (hs : s.size ≤ maxLen) : keyOf P M.S (.string s) = some (keyL s) := Go.WideMaps.keyOf_string_mk M.hS hs
def findL (L : List (ByteArray × α)) (s : ByteArray) : Option α := (L.find? fun f => (keyL f.1).sameKey (keyL s)).map (·.2)
def MK.datL (M : MK P α) (L : List (ByteArray × α)) : DataW Unit := .map (L.map fun f => (keyL f.1, M.dat f.2))
/-- The map in block b tells F, with at most n entries. -/
def MapIs (M : MK P α) (W : World) (b n : Nat) (F : ByteArray → Option α) : Prop := ∃ L : List (ByteArray × α), W.ownsMap P M.S M.R b L.length (M.datL L) ∧ L.length ≤ n ∧ ∀ s, findL L s = F s
theorem same_key (a b : ByteArray) : (keyL a).sameKey (keyL b) = decide (a = b) := by
  unfold keyL Lit.sameKey
  rw [Bool.eq_iff_iff]
  simp only [beq_iff_eq, decide_eq_true_eq]
  exact ⟨list_inj, fun e => by rw [e]⟩
theorem findL_nil (s : ByteArray) : findL ([] : List (ByteArray × α)) s = none := rfl
theorem findL_cons (f : ByteArray × α) (L : List (ByteArray × α)) (s : ByteArray) : findL (f :: L) s = if f.1 = s then some f.2 else findL L s := by
  unfold findL
  rw [List.find?_cons, same_key]
  by_cases h : f.1 = s <;> simp [h]
theorem has_datL (M : MK P α) (L : List (ByteArray × α)) (s : ByteArray) : has (M.datL L) (keyL s) = (findL L s).isSome := by
  unfold MK.datL findL
  rw [has_eq]
  induction L with
  | nil => rfl
  | cons f L ih =>
    rw [List.map_cons, List.any_cons, List.find?_cons]
    cases h : (keyL f.1).sameKey (keyL s) with
    | true => simp
    | false => simpa using ih
theorem at_datL (M : MK P α) (L : List (ByteArray × α)) (s : ByteArray) : (M.datL L).atKey (keyL s) (M.dat M.zero) = M.dat ((findL L s).getD M.zero) := by
  unfold MK.datL findL DataW.atKey
  simp only
  induction L with
  | nil => rfl
  | cons f L ih =>
    rw [List.map_cons, List.find?_cons, List.find?_cons]
    cases h : (keyL f.1).sameKey (keyL s) with
    | true => simp
    | false => simpa using ih
def lessL (L : List (ByteArray × α)) (s : ByteArray) : List (ByteArray × α) := L.filter fun f => !(keyL f.1).sameKey (keyL s)
theorem del_datL (M : MK P α) (L : List (ByteArray × α)) (s : ByteArray) : (M.datL L).del (keyL s) = M.datL (lessL L s) := by
  unfold MK.datL lessL DataW.del
  simp only [DataW.map.injEq]
  induction L with
  | nil => rfl
  | cons f L ih =>
    rw [List.map_cons, List.filter_cons, List.filter_cons]
    cases h : (!(keyL f.1).sameKey (keyL s)) with
    | true => simpa using ih
    | false => simpa using ih
def insL (f : ByteArray × α) : List (ByteArray × α) → List (ByteArray × α)
  | [] => [f]
  | g :: r => if (keyL f.1).before (keyL g.1) then f :: g :: r else g :: insL f r
theorem ins_datL (M : MK P α) (f : ByteArray × α) : ∀ L : List (ByteArray × α), DataW.insert (keyL f.1, M.dat f.2) (L.map fun f => (keyL f.1, M.dat f.2)) = (insL f L).map fun f => (keyL f.1, M.dat f.2)
  | [] => rfl
  | g :: r => by
    rw [List.map_cons, DataW.insert, insL]
    by_cases h : (keyL f.1).before (keyL g.1) = true
    · rw [if_pos h, if_pos h]; rfl
    · rw [if_neg h, if_neg h, ins_datL M f r]; rfl
theorem put_datL (M : MK P α) (L : List (ByteArray × α)) (f : ByteArray × α) : (M.datL L).put (keyL f.1) (M.dat f.2) = M.datL (insL f (lessL L f.1)) := by
  have h := del_datL M L f.1
  unfold MK.datL DataW.del at h
  simp only [DataW.map.injEq] at h
  unfold MK.datL DataW.put
  simp only [DataW.map.injEq]
  rw [h]
  exact ins_datL M f _
theorem find_less (L : List (ByteArray × α)) (k s : ByteArray) : findL (lessL L k) s = if k = s then none else findL L s := by
  induction L with
  | nil => simp [lessL, findL]
  | cons f L ih =>
    unfold lessL at ih ⊢
    rw [List.filter_cons, same_key]
    by_cases h : f.1 = k
    · simp only [h, decide_true, Bool.not_true, Bool.false_eq_true, if_false]
      rw [ih, findL_cons, h]
      split <;> rfl
    · simp only [h, decide_false, Bool.not_false, if_true]
      rw [findL_cons, ih, findL_cons]
      by_cases h1 : f.1 = s
      · rw [if_pos h1, if_pos h1, if_neg (fun e => h (h1.trans e.symm))]
      · rw [if_neg h1, if_neg h1]
theorem find_insL (f : ByteArray × α) (s : ByteArray) : ∀ L : List (ByteArray × α), findL L f.1 = none → findL (insL f L) s = if f.1 = s then some f.2 else findL L s
  | [], _ => by rw [insL, findL_cons]
  | g :: r, h => by
    rw [findL_cons] at h
    by_cases hg : g.1 = f.1
    · rw [if_pos hg] at h; cases h
    rw [if_neg hg] at h
    rw [insL]
    split
    · rw [findL_cons]
    · rw [findL_cons, find_insL f s r h, findL_cons]
      by_cases h1 : g.1 = s
      · rw [if_pos h1, if_pos h1, if_neg (fun e => hg (h1.trans e.symm))]
      · rw [if_neg h1, if_neg h1]
theorem insL_len (f : ByteArray × α) : ∀ L : List (ByteArray × α), (insL f L).length = L.length + 1
  | [] => rfl
  | g :: r => by rw [insL]; split <;> simp [insL_len f r]
theorem lessL_len (L : List (ByteArray × α)) (k : ByteArray) : (lessL L k).length ≤ L.length := List.length_filter_le _ _
theorem own_fit {W : World} {S : TypeId} {R : Value → Option (DataW Unit × List MemPlace)} {b n : Nat} {D : DataW Unit} (h : W.ownsMap P S R b n D) : W.ownsMap P S R b (size D) D := by
  obtain ⟨es, clock, hb, F, _, rfl⟩ := h
  exact ⟨es, clock, hb, F, by simp [size, length_sorted], rfl⟩
theorem size_datL (M : MK P α) (L : List (ByteArray × α)) : size (M.datL L) = L.length := by simp [MK.datL, size]
theorem MapIs.look1 {M : MK P α} {W : World} {b n : Nat} {F : ByteArray → Option α} (h : MapIs M W b n F) (s : ByteArray) (hs : s.size ≤ maxLen) : (Instr.lookup M.T (.map (some b)) (.string s) false).run P W = .ok (M.val ((F s).getD M.zero)) W := by
  obtain ⟨L, h, _, hF⟩ := h
  obtain ⟨v, ps, hrun, hv⟩ := World.ownsMap.lookup h (string_keyed M.hS) M.hT (M.hz W) (zd := M.dat M.zero) (zp := []) (M.hR _) (M.key s hs)
  rw [at_datL] at hv
  rw [M.inv hv, hF] at hrun
  exact hrun
theorem MapIs.look2 {M : MK P α} {W : World} {b n : Nat} {F : ByteArray → Option α} (h : MapIs M W b n F) (s : ByteArray) (hs : s.size ≤ maxLen) : (Instr.lookup M.T (.map (some b)) (.string s) true).run P W = .ok (.tuple #[M.val ((F s).getD M.zero), .bool (F s).isSome]) W := by
  obtain ⟨L, h, _, hF⟩ := h
  obtain ⟨v, ps, hrun, hv⟩ := World.ownsMap.look_ok h (string_keyed M.hS) M.hT (M.hz W) (zd := M.dat M.zero) (zp := []) (M.hR _) (M.key s hs)
  rw [at_datL] at hv
  rw [M.inv hv, has_datL, hF] at hrun
  exact hrun
def updF (F : ByteArray → Option α) (s : ByteArray) (a : α) : ByteArray → Option α := fun x => if s = x then some a else F x
theorem big_max : 1000000000 < maxLen := by decide
theorem MapIs.put {M : MK P α} {W : World} {b n : Nat} {F : ByteArray → Option α} (h : MapIs M W b n F) (hn : n ≤ 1000000000) (s : ByteArray) (hs : s.size ≤ maxLen) (a : α) :
    ∃ w', (Instr.mapUpdate M.T (.map (some b)) (.string s) (M.val a)).run P W = .ok () w' ∧ MapIs M w' b (n + 1) (updF F s a) ∧ W.grownBy w' (some b) := by
  obtain ⟨L, h, hL, hF⟩ := h
  obtain ⟨w', hrun, ho, hg⟩ := World.ownsMap.update h (string_keyed M.hS) M.hT (Nat.lt_of_le_of_lt (Nat.le_trans hL hn) big_max) (M.key s hs) (M.hR a)
  rw [put_datL M L (s, a)] at ho
  have ho2 := own_fit ho
  rw [size_datL] at ho2
  refine ⟨w', hrun, ⟨_, ho2, ?_, fun x => ?_⟩, hg⟩
  · rw [insL_len]
    have := lessL_len L s
    simp only
    omega
  · rw [find_insL (s, a) x _ (by rw [find_less]; simp)]
    unfold updF
    simp only
    by_cases e : s = x
    · rw [if_pos e, if_pos e]
    · rw [if_neg e, if_neg e, find_less, if_neg e, hF]
theorem MapIs.new (M : MK P α) (W : World) : MapIs M (W.alloc (.map #[] 0)) W.heap.size 0 (fun _ => none) := ⟨[], World.ownsMap_made W P M.S M.R, Nat.le_refl _, fun _ => rfl⟩
theorem MapIs.lt {M : MK P α} {W : World} {b n : Nat} {F : ByteArray → Option α} (h : MapIs M W b n F) : b < W.heap.size := by
  obtain ⟨L, h, _, _⟩ := h
  exact World.ownsMap.lt h
theorem MapIs.keep {M : MK P α} {W W' : World} {b n : Nat} {F : ByteArray → Option α} (h : MapIs M W b n F) (hb : W'.heap[b]? = W.heap[b]?) : MapIs M W' b n F := by
  obtain ⟨L, ⟨es, clock, h1, F', hs, e⟩, hL, hF⟩ := h
  exact ⟨L, ⟨es, clock, hb.trans h1, F', hs, e⟩, hL, hF⟩
theorem MapIs.later {M : MK P α} {W W' : World} {b n : Nat} {F : ByteArray → Option α} (h : MapIs M W b n F) (hb : Below W.heap.size W W') : MapIs M W' b n F := h.keep (hb.block b h.lt)
theorem MapIs.more {M : MK P α} {W : World} {b n n' : Nat} {F : ByteArray → Option α} (h : MapIs M W b n F) (hn : n ≤ n') : MapIs M W b n' F := by
  obtain ⟨L, h1, h2, h3⟩ := h
  exact ⟨L, h1, Nat.le_trans h2 hn, h3⟩
/-- A nil map holds nothing. -/
theorem MK.nil1 (M : MK P α) (w : World) (s : ByteArray) : (Instr.lookup M.T (.map none) (.string s) false).run P w = .ok (M.val M.zero) w := by
  have hf : Instr.findNow .string (.string s) ([] : List MapEntry) 0 = some none := rfl
  have hc : ∀ e, (Instr.checkKey e 10000 M.S (.string s)).run P w = .ok () w := fun e => MapKept.run_checkKey (k := .string s) M.hS (by simp [MapKept.IsKey]) e 9999
  simp [Instr.lookup, run_underlying M.hT, hc, MapKept.run_findKey M.hS hf, Result.andThen, M.hz]
theorem MK.nil2 (M : MK P α) (w : World) (s : ByteArray) : (Instr.lookup M.T (.map none) (.string s) true).run P w = .ok (.tuple #[M.val M.zero, .bool false]) w := by
  have hf : Instr.findNow .string (.string s) ([] : List MapEntry) 0 = some none := rfl
  have hc : ∀ e, (Instr.checkKey e 10000 M.S (.string s)).run P w = .ok () w := fun e => MapKept.run_checkKey (k := .string s) M.hS (by simp [MapKept.IsKey]) e 9999
  simp [Instr.lookup, run_underlying M.hT, hc, MapKept.run_findKey M.hS hf, Result.andThen, M.hz]
end
end Go.Proofs.YtjcaeoacgoklmaaDoor
