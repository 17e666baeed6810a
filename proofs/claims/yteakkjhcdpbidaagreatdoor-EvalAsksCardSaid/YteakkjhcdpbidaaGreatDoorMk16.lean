import Derived.Test.YteakkjhcdpbidaaGreatDoorMk10
import Derived.Test.YteakkjhcdpbidaaGreatDoorMk15
import Derived.Shelf.SlSortCmp.NoneTotal
namespace Go.Proofs.YteakkjhcdpbidaaGreatDoor
set_option maxRecDepth 100000
set_option maxHeartbeats 64000000
open Go.RowKit
theorem RowAt.both {K : Nat → Prop} {w : World} {A : Option Addr} {l c b o : Nat} (h : RowAt K A l c b o) (hb : 0 < l → b < w.heap.size) : RowAt (fun b => K b ∧ b < w.heap.size) A l c b o := ⟨h.le, h.big, h.none, fun hl => ⟨(h.some hl).1, (h.some hl).2, hb hl⟩⟩
theorem RepT.both {K : Nat → Prop} {w : World} (t : Ty) : ∀ cs, RepT K w t cs → RepT (fun b => K b ∧ b < w.heap.size) w t cs := by
 refine Ty.ind (C := fun t => ∀ cs, RepT K w t cs → RepT (fun b => K b ∧ b < w.heap.size) w t cs) ?_ t
 intro k t n ps fs vs ihp ihf ihv cs h
 obtain ⟨A, c, A', c', A'', c'', rfl, ht, ⟨pb, po, hA, hp⟩, ⟨fb, fo, hA', hf⟩, ⟨vb, vo, hA'', hv⟩⟩ := h.inv
 refine RepT.of ht ⟨pb, po, hA.both (fun hl => ?_), fun i h => ?_⟩ ⟨fb, fo, hA'.both (fun hl => World.block_lt_of_cell? _ _ (hf 0 hl).1), fun i h => ?_⟩ ⟨vb, vo, hA''.both (fun hl => ?_), fun i h => ?_⟩
 ·obtain ⟨cs, h1, h2⟩ := hp 0 hl
  have h6 := h2.six
  exact World.block_lt_of_cell? _ _ (h1 0 _ (List.getElem?_eq_getElem (by omega)))
 ·obtain ⟨cs, h1, h2⟩ := hp i h
  exact ⟨cs, h1, ihp _ (List.getElem_mem h) cs h2⟩
 ·obtain ⟨h1, h2, h3, cs, h4, h5⟩ := hf i h
  exact ⟨h1, h2, h3, cs, h4, ihf _ (List.getElem_mem h) cs h5⟩
 ·obtain ⟨B, d, h1, _⟩ := hv 0 hl
  exact World.block_lt_of_cell? _ _ h1
 ·obtain ⟨B, d, h1, h2, h3, ⟨b, o, h4, h5⟩⟩ := hv i h
  refine ⟨B, d, h1, h2, h3, ⟨b, o, h4.both (fun hl => ?_), fun j h' => ?_⟩⟩
  ·obtain ⟨cs, h6, h7⟩ := h5 0 hl
   have h8 := h7.six
   exact World.block_lt_of_cell? _ _ (h6 0 _ (List.getElem?_eq_getElem (by omega)))
  ·obtain ⟨cs, h6, h7⟩ := h5 j h'
   exact ⟨cs, h6, ihv _ (List.getElem_mem h) _ (List.getElem_mem h') cs h7⟩
theorem ListT.both {K : Nat → Prop} {w : World} {l : List Ty} {A : Option Addr} {c : Nat} (h : ListT K w l A c) : ListT (fun b => K b ∧ b < w.heap.size) w l A c := by
 obtain ⟨b, o, h1, h2⟩ := h
 refine ⟨b, o, h1.both fun hl => ?_, fun i hi => ?_⟩
 ·obtain ⟨cs, h3, h4⟩ := h2 0 hl
  have h6 := h4.six
  exact World.block_lt_of_cell? _ _ (h3 0 _ (List.getElem?_eq_getElem (by omega)))
 ·obtain ⟨cs, h3, h4⟩ := h2 i hi
  exact ⟨cs, h3, RepT.both _ _ h4⟩
theorem RepT.weak {K K' : Nat → Prop} {w : World} {t : Ty} {cs : List Value} (h : RepT K w t cs) (hk : ∀ b, K b → K' b) : RepT K' w t cs := RepT.keep hk (fun _ _ _ _ h => h) t cs h
theorem ListT.weak {K K' : Nat → Prop} {w : World} {l : List Ty} {A : Option Addr} {c : Nat} (h : ListT K w l A c) (hk : ∀ b, K b → K' b) : ListT K' w l A c := by
 obtain ⟨b, o, h1, h2⟩ := h
 exact ⟨b, o, h1.weak hk, fun i hi => by obtain ⟨cs, h3, h4⟩ := h2 i hi; exact ⟨cs, h3, h4.weak hk⟩⟩
theorem ret_box {K : Nat → Prop} {B g : Nat} {W : World} {t : Ty} {cs : List Value} (h : RepT (fun b => K b ∨ g < b) W t cs) (hlo : ∀ b, K b → b < g) (hg : B ≤ g) (y0 y1 y2 y3 y4 y5 : Value) :
  RepT (fun b => K b ∨ B ≤ b) ((((((W.setCell ⟨g, 0, none⟩ y0).setCell ⟨g, 1, none⟩ y1).setCell ⟨g, 2, none⟩ y2).setCell ⟨g, 3, none⟩ y3).setCell ⟨g, 4, none⟩ y4).setCell ⟨g, 5, none⟩ y5) t cs :=
 RepT.keep (fun b hb => hb.imp id (fun h => Nat.le_trans hg (Nat.le_of_lt h))) (fun b o v hk hc => by
  rw [six_other W y0 y1 y2 y3 y4 y5 (p := ⟨b, o, none⟩) (by
   rcases hk with hk | hk
   ·have := hlo b hk; show b ≠ _; omega
   ·show b ≠ _; omega)]
  exact hc) t cs h
theorem rep_k (K : Nat → Prop) (w : World) (k : Int) : RepT K w (tyK k) [.int .i64 k, .string ⟨#[]⟩, .int .i64 0, .slice none 0 0, .slice none 0 0, .slice none 0 0] :=
 RepT.of (by decide) ⟨⟨0, 0, ⟨by simp, by decide, fun _ => rfl, fun h => absurd h (by simp)⟩, fun i h => absurd h (by simp)⟩⟩ ⟨⟨0, 0, ⟨by simp, by decide, fun _ => rfl, fun h => absurd h (by simp)⟩, fun i h => absurd h (by simp)⟩⟩ ⟨⟨0, 0, ⟨by simp, by decide, fun _ => rfl, fun h => absurd h (by simp)⟩, fun i h => absurd h (by simp)⟩⟩
def UnionP : Prop := ∀ (K : Nat → Prop) (w : World) (l : List Ty) (A : Option Addr) (c : Nat), ListT K w l A c → (flatU l).length ≤ 1099511627776 → (∀ b, K b → b < w.heap.size) → Calls Tryz.prog 27 #[.slice A l.length c] w (TyPost K w (unionT l))
theorem union_own (hU : UnionP) {K : Nat → Prop} {w0 w : World} {v : Value} {ts : List Ty} (h : OutT K w0 w v ts) (hlo : ∀ b, K b → b < w0.heap.size) (hb : Below w0.heap.size w0 w) (hn : (flatU ts).length ≤ 1099511627776) (hl : ts.length ≤ 1000000000000000) :
  Calls Tryz.prog 27 #[v] w fun e w' => ∃ rs, e = .returned (.agg rs.toArray) ∧ RepT (fun b => K b ∨ w0.heap.size ≤ b) w' (unionT ts) rs ∧ Below w.heap.size w w' := by
 obtain ⟨A, c, rfl, hL⟩ := h.list hlo hb hl
 refine (hU _ w ts A c hL.both hn fun b h => h.2).mono ?_
 rintro e w' ⟨rs, rfl, hr, hb'⟩
 refine ⟨rs, rfl, hr.weak fun b h => ?_, hb'⟩
 rcases h with h | h
 ·exact h.1
 ·exact .inr (Nat.le_trans hb.size h)
theorem box_up {w w' : World} {b : Nat} {o : Obj} (hb : Below w.heap.size w w') (hlt : b < w.heap.size) (h : w.heap[b]? = some o) : w'.heap[b]? = some o := (hb.block b hlt).trans h
open Go.Shelf Go.RowKit Go.Lib Go.Sort
def TyC (K : Nat → Prop) (w0 : World) : Type := {p : Ty × List Value // RepT K w0 p.1 p.2}
instance (K : Nat → Prop) (w0 : World) : Inhabited (TyC K w0) := ⟨⟨(tyK 1, _), rep_never K w0⟩⟩
def encC {K : Nat → Prop} {w0 : World} (x : TyC K w0) : List Value := x.1.2
def cfC {K : Nat → Prop} {w0 : World} (x y : TyC K w0) : Int := ordT x.1.1 y.1.1
theorem encC_len {K : Nat → Prop} {w0 : World} (x : TyC K w0) : (encC x).length = 6 := x.2.six
theorem encC_one {K : Nat → Prop} {w0 : World} (x : TyC K w0) : ∀ v ∈ encC x, v.oneCell' = true := by
 obtain ⟨⟨⟨k, s, n, ps, fs, vs⟩, cs⟩, h⟩ := x
 obtain ⟨A, c, A', c', A'', c'', rfl, _⟩ := h.inv
 intro v hv
 simp only [encC, cells6T, List.mem_cons, List.not_mem_nil, or_false] at hv
 rcases hv with rfl | rfl | rfl | rfl | rfl | rfl <;> rfl
theorem ltC_t {K : Nat → Prop} {w0 : World} {x y : TyC K w0} : ltOf cfC x y = true ↔ ordT x.1.1 y.1.1 < 0 := by
 unfold ltOf
 exact decide_eq_true_iff
theorem ltC_f {K : Nat → Prop} {w0 : World} {x y : TyC K w0} : ltOf cfC x y = false ↔ 0 ≤ ordT x.1.1 y.1.1 := by
 unfold ltOf
 exact decide_eq_false_iff_not.trans Int.not_lt
theorem lt_trans {a b c : Ty} (h1 : ordT a b < 0) (h2 : ordT b c < 0) : ordT a c < 0 := by
 rcases ordT_bd a b with e | e | e
 ·rcases ordT_bd b c with e' | e' | e'
  ·rw [ordT_trans e e']; decide
  ·omega
  ·omega
 ·omega
 ·omega
theorem swoC (K : Nat → Prop) (w0 : World) : SWO (ltOf (cfC (K := K) (w0 := w0))) where
 irrefl x := ltC_f.2 (by rw [ordT_zero.2 rfl]; decide)
 trans x y z h1 h2 := ltC_t.2 (lt_trans (ltC_t.1 h1) (ltC_t.1 h2))
 ntrans x y z h1 h2 := ltC_f.2 (no_down (ltC_f.1 h1) (ltC_f.1 h2))
theorem cmpC {K : Nat → Prop} {w0 w : World} {g size : Nat} (hb : Below w0.heap.size w0 w) (hg : w0.heap.size ≤ g) : CmpLays Tryz.prog 51 #[] (encC (K := K) (w0 := w0)) 6 cfC g 0 size w := by
 intro m os dk _ x y
 have hk : ∀ b o v, K b → w0.cell? ⟨b, o, none⟩ = some v → (sortWorldK (encC (K := K) (w0 := w0)) 6 w g 0 m dk os).cell? ⟨b, o, none⟩ = some v := fun b o v _ hc => by
  have hlt : b < w0.heap.size := World.block_lt_of_cell? _ _ hc
  rw [cell?_sortWorldK_other _ _ _ _ _ _ _ _ ⟨b, o, none⟩ (by show b ≠ g; omega) (Nat.lt_of_lt_of_le hlt hb.size)]
  exact cell_stays hb hc
 exact Order_any (RepT.keep (fun _ h => h) hk _ _ x.2) (RepT.keep (fun _ h => h) hk _ _ y.2)
theorem heap_sort {α : Type} [Inhabited α] {enc : α → List Value} {w : World} {g m : Nat} {dk : Array α} {os : Array Obj} : (sortWorldK enc 6 w g 0 m dk os).heap = (w.heap.modify g (onCells (putCells id 0 (flatK enc 6 dk)))) ++ os := rfl
theorem blk_sort {α : Type} [Inhabited α] {enc : α → List Value} {w : World} {g m : Nat} {dk : Array α} {os : Array Obj} {cur : Array Value} {T : TypeId} (hb : w.heap[g]? = some (.cells cur T (0, 0))) : ∃ cur', (sortWorldK enc 6 w g 0 m dk os).heap[g]? = some (.cells cur' T (0, 0)) ∧ cur'.size = cur.size := by
 have hlt := (Array.getElem?_eq_some_iff.1 hb).1
 refine ⟨putCells id 0 (flatK enc 6 dk) cur, ?_, by simp [putCells]⟩
 rw [heap_sort, Array.getElem?_append_left (by simpa using hlt), Array.getElem?_modify, if_pos rfl, hb]
 rfl
theorem sort_below {α : Type} [Inhabited α] {enc : α → List Value} {w0 w : World} {g m : Nat} {dk : Array α} {os : Array Obj} (hb : RowKit.Below w0.heap.size w0 w) (hg : w0.heap.size ≤ g) : RowKit.Below w0.heap.size w0 (sortWorldK enc 6 w g 0 m dk os) := by
 have h1 := hb.size
 refine ⟨hb.os, hb.tape, hb.output, ?_, fun k hk => ?_⟩
 ·rw [heap_sort]
  simp
  omega
 ·rw [heap_sort, Array.getElem?_append_left (by simp; omega), Array.getElem?_modify, if_neg (by omega)]
  exact hb.block k hk
theorem formed_val {K : Nat → Prop} {w : World} {t : Ty} {cs : List Value} {r : Bool} (h : RepT K w t cs) (hf : FormIs t r) :
  Calls Tryz.prog 16 #[.agg cs.toArray] w fun e w' => e = .returned (.bool (decide (cntT t ≤ 4096) && r)) ∧ Below w.heap.size w w' := by
 have hb1 : Below w.heap.size w (w.alloc (.cells cs.toArray 26)) := (Below.refl _ _).alloc (Nat.le_refl _) _
 have KN := Hd (nodes_any (h.later hb1))
 have KF := Hd fun wx hx => hf K wx w.heap.size 0 ((AtT.box 26 h).later hx)
 have HB1 := Hd hb1
 have HC : Hid (decide (((capN (cntT t) : Nat) : Int) ≤ 4096) = decide (cntT t ≤ 4096)) := Hd (by unfold capN; congr 1; rw [eq_iff_iff]; omega)
 obtain ⟨k, s, n, ps, fs, vs⟩ := t
 obtain ⟨A, c, A', c', A'', c'', rfl, _⟩ := h.inv
 generalize capN (cntT (.mk k s n ps fs vs)) = q at KN HC
 generalize decide (cntT (.mk k s n ps fs vs) ≤ 4096) = d at HC ⊢
 simp only [cells6T] at KN KF HB1 ⊢
 clear h hf hb1
 cases d with
 | false =>
  have hq : ¬ ((q : Int) ≤ 4096) := by have h := HC.out; simpa using h
  have hq2 : ¬ (q ≤ 4096) := by omega
  go_enter Tryz.func16, Tryz.ntmps16
  go_wp2_with fail
  refine KN.out.mono ?_
  rintro e w1 ⟨rfl, hb1⟩
  have HB2 := Hd (below_then HB1.out hb1)
  clear hb1 KN
  go_wp2_with fail
  go_ret
  exact ⟨rfl, HB2.out⟩
 | true =>
  have hq : ((q : Int) ≤ 4096) := by have h := HC.out; simpa using h
  have hq2 : (q ≤ 4096) := by omega
  go_enter Tryz.func16, Tryz.ntmps16
  go_wp2_with fail
  refine KN.out.mono ?_
  rintro e w1 ⟨rfl, hb1⟩
  have HB2 := Hd (below_then HB1.out hb1)
  have KF2 := Hd (KF.out _ hb1)
  clear hb1 KN KF
  go_wp2_with fail
  refine KF2.out.mono ?_
  rintro e w2 ⟨rfl, hb2⟩
  have HB3 := Hd (below_then HB2.out hb2)
  clear hb2
  go_wp2_with fail
  go_ret
  exact ⟨rfl, HB3.out⟩
theorem self_15 (t : ByteArray) (n : Int) (ps : List Ty) (fs : FsT) (vs : VsT) : SelfIs (.mk 15 t n ps fs vs) (isUB ps) := by
 intro K w b o h
 obtain ⟨A, c, _, _, _, _, ⟨x0, -, -, x3, -, -⟩, -, hP, -⟩ := h.six
 have KU := Hd (isU_any hP)
 clear h hP
 generalize isUB ps = r at KU ⊢
 go_enter Tryz.func46, Tryz.ntmps46
 go_wp2_with fail
 refine KU.out.mono ?_
 rintro e w2 ⟨rfl, hb2⟩
 have HB2 := Hd hb2
 clear hb2
 go_wp2_with fail
 go_ret
 exact ⟨rfl, HB2.out⟩
def seenF (vs : VsT) (i : Nat) : ByteArray → Option Unit := fun s => if ((vs.take i).any fun x => decide (x.1 = s)) = true then some () else none
theorem seenF_next {vs : VsT} {i : Nat} (h : i < vs.length) : updF (seenF vs i) vs[i].1 () = seenF vs (i + 1) := by
 funext s
 unfold updF seenF
 rw [List.take_succ_eq_append_getElem h, List.any_append]
 by_cases e : vs[i].1 = s
 ·simp [e]
 ·have e2 : decide (vs[i].1 = s) = false := decide_eq_false e
  rw [if_neg e]
  simp only [List.any_cons, List.any_nil, e2, Bool.or_false]
theorem seenF_some {vs : VsT} {i : Nat} (s : ByteArray) : (seenF vs i s).isSome = (vs.take i).any fun x => decide (x.1 = s) := by
 unfold seenF
 split
 ·rename_i h; rw [h]; rfl
 ·rename_i h; rw [Bool.not_eq_true] at h; rw [h]; rfl
theorem okU_more {p : Nat → Bool} {i : Nat} (h : ∀ j, j < i → p j = true) (h2 : p i = true) : ∀ j, j < i + 1 → p j = true := fun j hj => by
 rcases Nat.lt_or_ge j i with h1 | h1
 ·exact h j h1
 ·rw [show j = i from by omega]; exact h2
structure VaR (w wr : World) (vs : VsT) (fv : Ty → Bool) (i : Nat) : Prop where
 le : i ≤ vs.length
 ok : ∀ j, j < i → okV (varsT vs fv) j = true
 map : MapIs setMK wr w.heap.size i (seenF vs i)
 below : Below w.heap.size w wr
theorem formedVars_any {K : Nat → Prop} {w : World} {vs : VsT} {A : Option Addr} {c : Nat} {fv : Ty → Bool} (hV : ListV K w vs A c) (hf : ∀ v ∈ vs, ∀ b ∈ v.2, FormIs b (fv b)) :
  Calls Tryz.prog 70 #[.slice A vs.length c] w fun e w' => e = .returned (.bool (varsB (varsT vs fv))) ∧ Below w.heap.size w w' := by
 have HV := Hd hV
 have HF := Hd hf
 have hlv : vs.length ≤ 1000000000000000 := by obtain ⟨_, _, hr, _⟩ := hV; exact hr.big
 have HST : Hid (VaR w (w.alloc (.map #[] 0)) vs fv 0) := Hd ⟨Nat.zero_le _, fun j hj => absurd hj (by omega), by
  have h := MapIs.new setMK w
  have e : seenF vs 0 = fun _ => none := by funext s; simp [seenF]
  rw [e]; exact h, (Below.refl _ _).alloc (Nat.le_refl _) _⟩
 have hmm := @run_makeMap Tryz.prog
 clear hV hf
 go_enter Tryz.func70, Tryz.ntmps70
 go_wp2_with fail
 clear hmm
 go_loopw [11] (fun v wr => ∃ i : Nat, v = .int .i64 (i : Int) ∧ VaR w wr vs fv i) (fun v _ => vs.length - (intOf v).toNat)
 case atStart => exact ⟨0, rfl, HST.out⟩
 case round =>
  obtain ⟨i, rfl, hr⟩ := hrel
  have HR := Hd hr
  have hle := hr.le
  by_cases hlt : i < vs.length
  ·have t1 : decide ((i : Int) < (vs.length : Int)) = true := by simp; omega
   have wr2 : wrap64 ((i : Int) + 1) = ((i + 1 : Nat) : Int) := wrap_one (by omega)
   have HM := Hd (measI hlt)
   obtain ⟨b, o, hA, _, hat⟩ := HV.out.at (by omega)
   subst hA
   obtain ⟨B, d, hc0, hc1, hsz, hLB⟩ := hat i hlt
   have hok := okV_at (fv := fv) hlt
   have hnx := seenF_next hlt
   have hFb : ∀ b ∈ vs[i].2, FormIs b (fv b) := HF.out _ (List.getElem_mem hlt)
   have hsm := seenF_some (vs := vs) (i := i) vs[i].1
   generalize hnm : vs[i].1 = nm at hc0 hok hnx hsz hsm
   generalize hl : vs[i].2 = l at hc1 hLB hok hFb
   have hcw0 := cell_stays (w := w) (w' := wr) hr.below hc0
   have hcw1 := cell_stays (w := w) (w' := wr) hr.below hc1
   have hbx : Below wr.heap.size wr (wr.alloc (.cells #[.string nm, .slice B l.length d] 44)) := (Below.refl _ _).alloc (Nat.le_refl _) _
   have hmx : nm.size ≤ maxLen := by unfold maxLen; omega
   have lk : (Instr.lookup 85 (.map (some w.heap.size)) (.string nm) true).run Tryz.prog (wr.alloc (.cells #[.string nm, .slice B l.length d] 44)) = .ok (.tuple #[.agg #[], .bool ((vs.take i).any fun x => decide (x.1 = nm))]) (wr.alloc (.cells #[.string nm, .slice B l.length d] 44)) := by
    rw [← hsm]; exact (hr.map.later hbx).look2 nm hmx
   generalize hseen : ((vs.take i).any fun x => decide (x.1 = nm)) = seen at lk hok
   clear hat hc0 hc1 hnm hl hsm hseen
   cases seen with
   | true =>
    have HNO : Hid (varsB (varsT vs fv) = false) := Hd (allB_no (by rw [varsT_len]; exact hlt) (by rw [hok]; simp))
    have HB9 := Hd hr.below
    clear hr hle hok hnx
    go_wp2_with fail
    go_ret
    exact ⟨by rw [HNO.out]; rfl, (HB9.out.alloc HB9.out.size _).alloc (by have := HB9.out.size; simp; omega) _⟩
   | false =>
    have HSZ : Hid (wr.heap.size ≤ ((wr.alloc (.cells #[.string nm, .slice B l.length d] 44)).alloc (.cells #[] 86)).heap.size) := Hd (by simp; omega)
    have hbw2 : Below wr.heap.size wr ((wr.alloc (.cells #[.string nm, .slice B l.length d] 44)).alloc (.cells #[] 86)) := hbx.alloc (by simp) _
    have HSZ2 : Hid (w.heap.size ≤ ((wr.alloc (.cells #[.string nm, .slice B l.length d] 44)).alloc (.cells #[] 86)).heap.size) := Hd (by have := hr.below.size; have := hbw2.size; omega)
    have HBW := Hd (hr.below.trans (hbw2.mono hr.below.size))
    have HMP := Hd (hr.map.later hbw2)
    have hbk : ((wr.alloc (.cells #[.string nm, .slice B l.length d] 44)).alloc (.cells #[] 86)).heap[wr.heap.size]? = some (.cells #[.string nm, .slice B l.length d] 44 (0, 0)) := by
     rw [((Below.refl (wr.alloc (.cells #[.string nm, .slice B l.length d] 44)).heap.size _).alloc (Nat.le_refl _) (.cells #[] 86)).block _ (by simp)]
     exact heap_alloc_new wr _
    have HX0 : Hid (((wr.alloc (.cells #[.string nm, .slice B l.length d] 44)).alloc (.cells #[] 86)).cell? ⟨wr.heap.size, 0, none⟩ = some (.string nm)) := Hd (cell_of_row _ _ 0 _ _ _ hbk)
    have HX1 : Hid (((wr.alloc (.cells #[.string nm, .slice B l.length d] 44)).alloc (.cells #[] 86)).cell? ⟨wr.heap.size, 1, none⟩ = some (.slice B l.length d)) := Hd (cell_of_row _ _ 1 _ _ _ hbk)
    have KN := Hd (name_prog nm ((wr.alloc (.cells #[.string nm, .slice B l.length d] 44)).alloc (.cells #[] 86)) hsz)
    have HGL : Hid (w.heap.size < wr.heap.size) := Hd hr.map.lt
    have HLT : Hid (i < maxLen) := Hd (by unfold maxLen; omega)
    have HMX := Hd hmx
    have HLE : Hid (i + 1 ≤ vs.length) := Hd hlt
    clear hbw2 hbk
    cases hq : nameT nm with
    | false =>
     rw [hq] at KN
     have HNO : Hid (varsB (varsT vs fv) = false) := Hd (allB_no (by rw [varsT_len]; exact hlt) (by rw [hok]; simp [hq]))
     clear hok hnx hr hle
     go_wp2_with fail
     refine KN.out.mono ?_
     rintro e w3 ⟨rfl, hb3⟩
     have HB3 := Hd (HBW.out.trans (hb3.mono HSZ2.out))
     clear hb3
     go_wp2_with fail
     go_ret
     exact ⟨by rw [HNO.out]; rfl, HB3.out⟩
    | true =>
     rw [hq] at KN
     match l, hLB, hFb with
     | [], hLB, hFb =>
      clear hLB hFb
      simp only [List.length_nil] at *
      clear hr hle
      go_wp2_with fail
      refine KN.out.mono ?_
      rintro e w3 ⟨rfl, hb3⟩
      have HB3 := Hd (HBW.out.trans (hb3.mono HSZ2.out))
      have y0 := cell_stays hb3 HX0.out
      have y1 := cell_stays hb3 HX1.out
      obtain ⟨w4, hup, hm4, hg4⟩ := (HMP.out.later hb3).putL HLT.out nm HMX.out ()
      have hup2 : (Instr.mapUpdate 85 (.map (some w.heap.size)) (.string nm) (.agg #[])).run Tryz.prog w3 = .ok () w4 := hup
      have hblk : w4.heap[wr.heap.size]? = w3.heap[wr.heap.size]? := hg4.block _ (World.block_lt_of_cell? _ _ y0) (by have := HGL.out; simp only [ne_eq, Option.some.injEq]; omega)
      have z0 := (World.cell?_of_block (a := ⟨wr.heap.size, 0, none⟩) hblk).trans y0
      have z1 := (World.cell?_of_block (a := ⟨wr.heap.size, 1, none⟩) hblk).trans y1
      have hB4 : Below w.heap.size w w4 := HB3.out.grown hg4 HB3.out.size (fun k hk => by simp only [Option.some.injEq] at hk; omega)
      rw [hnx] at hm4
      have HM4 := Hd hm4
      have HB4 := Hd hB4
      clear hb3 hup hm4 hg4 hblk hB4 hnx
      have HOK : Hid (okV (varsT vs fv) i = true) := Hd (by rw [hok]; simp [hq])
      clear hok
      go_wp2_with fail
      refine ⟨⟨i + 1, by first | rfl | rw [wr2], HLE.out, okU_more HR.out.ok HOK.out, HM4.out, HB4.out⟩, ?_⟩
      first | exact HM.out | (rw [wr2]; exact HM.out)
     | [x], hLB, hFb =>
      obtain ⟨bb, bo, rfl, -, hel0⟩ := hLB.at (by simp)
      have hel : AtT K w x bb bo := by have h := hel0 0 (by simp); simpa using h
      have hfx := hFb x (List.mem_singleton.2 rfl)
      clear hLB hFb hel0
      simp only [List.length_cons, List.length_nil, Nat.zero_add] at *
      clear hr hle
      go_wp2_with fail
      refine KN.out.mono ?_
      rintro e w3 ⟨rfl, hb3⟩
      have HB3 := Hd (HBW.out.trans (hb3.mono HSZ2.out))
      have y0 := cell_stays hb3 HX0.out
      have y1 := cell_stays hb3 HX1.out
      obtain ⟨w4, hup, hm4, hg4⟩ := (HMP.out.later hb3).putL HLT.out nm HMX.out ()
      have hup2 : (Instr.mapUpdate 85 (.map (some w.heap.size)) (.string nm) (.agg #[])).run Tryz.prog w3 = .ok () w4 := hup
      have hblk : w4.heap[wr.heap.size]? = w3.heap[wr.heap.size]? := hg4.block _ (World.block_lt_of_cell? _ _ y0) (by have := HGL.out; simp only [ne_eq, Option.some.injEq]; omega)
      have z0 := (World.cell?_of_block (a := ⟨wr.heap.size, 0, none⟩) hblk).trans y0
      have z1 := (World.cell?_of_block (a := ⟨wr.heap.size, 1, none⟩) hblk).trans y1
      have hB4 : Below w.heap.size w w4 := HB3.out.grown hg4 HB3.out.size (fun k hk => by simp only [Option.some.injEq] at hk; omega)
      rw [hnx] at hm4
      have HM4 := Hd hm4
      have HB4 := Hd hB4
      clear hb3 hup hm4 hg4 hblk hB4 hnx
      have KF := Hd (hfx K w4 bb bo (hel.later HB4.out))
      have HOKE : Hid (okV (varsT vs fv) i = fv x) := Hd (by rw [hok]; simp [hq])
      clear hok hel hfx
      generalize fv x = r at KF HOKE
      go_wp2_with fail
      refine KF.out.mono ?_
      rintro e w5 ⟨rfl, hb5⟩
      have HB5 := Hd (below_then HB4.out hb5)
      have HM5 := Hd (HM4.out.later hb5)
      clear hb5
      cases r with
      | false =>
       have HNO : Hid (varsB (varsT vs fv) = false) := Hd (allB_no (by rw [varsT_len]; exact HLE.out) HOKE.out)
       go_wp2_with fail
       go_ret
       exact ⟨by rw [HNO.out]; rfl, HB5.out⟩
      | true =>
       go_wp2_with fail
       refine ⟨⟨i + 1, by first | rfl | rw [wr2], HLE.out, okU_more HR.out.ok HOKE.out, HM5.out, HB5.out⟩, ?_⟩
       first | exact HM.out | (rw [wr2]; exact HM.out)
     | x :: y :: l, hLB, hFb =>
      clear hLB hFb
      have e2 : (x :: y :: l).length = l.length + 2 := rfl
      have t3 : 1 < l.length + 2 := by omega
      have t3b : decide ((1 : Int) < ((l.length + 2 : Nat) : Int)) = true := by simp; omega
      simp only [List.length_cons] at *
      have HNO : Hid (varsB (varsT vs fv) = false) := Hd (allB_no (by rw [varsT_len]; exact hlt) (by rw [hok]; simp [hq]))
      clear hok hnx hr hle
      go_wp2_with fail
      refine KN.out.mono ?_
      rintro e w3 ⟨rfl, hb3⟩
      have HB3 := Hd (HBW.out.trans (hb3.mono HSZ2.out))
      have y1 := cell_stays hb3 HX1.out
      clear hb3
      go_wp2_with fail
      go_ret
      exact ⟨by rw [HNO.out]; rfl, HB3.out⟩
  ·have t1 : decide ((i : Int) < (vs.length : Int)) = false := by simp; omega
   have HYES : Hid (varsB (varsT vs fv) = true) := Hd (range_all.2 fun j hj => hr.ok j (by rw [varsT_len] at hj; omega))
   have HB9 := Hd hr.below
   clear hr hle HR
   go_wp2_with fail
   go_ret
   exact ⟨by rw [HYES.out]; rfl, HB9.out⟩
open Go.Shelf Go.RowKit Go.Lib Go.Sort
theorem isAggTy : ∀ w, (isAgg (sortTy_ren.t 24)).run Tryz.prog w = .ok true w := fun _ => by kernel_rfl
theorem sizeOfTy : ∀ w, (Go.sizeOf (sortTy_ren.t 24)).run Tryz.prog w = .ok 6 w := fun _ => by kernel_rfl
theorem enterTy : ∀ args w, (callFunc 51 args).run Tryz.prog w = .ok (.enter 51 args) w := enters_of Tryz.func51 (by kernel_rfl) rfl
theorem sort_any : SortP := by
 intro K w0 w g c l h hb hg hbd
 classical
 have hex : ∀ i : Fin l.length, ∃ x : TyC K w0, x.1.1 = l[i] ∧ ∀ (j : Nat) (u : Value), (encC x)[j]? = some u → w.cell? ⟨g, i.1 * 6 + j, none⟩ = some u := fun i => by
  obtain ⟨cs, h1, h2⟩ := h.reps i.1 l[i] (List.getElem?_eq_getElem i.2)
  exact ⟨⟨(l[i], cs), h1⟩, rfl, h2⟩
 obtain ⟨f, hf⟩ : ∃ f : Fin l.length → TyC K w0, ∀ i, (f i).1.1 = l[i] ∧ ∀ (j : Nat) (u : Value), (encC (f i))[j]? = some u → w.cell? ⟨g, i.1 * 6 + j, none⟩ = some u := ⟨fun i => (hex i).choose, fun i => (hex i).choose_spec⟩
 obtain ⟨d, hd⟩ : ∃ d : Array (TyC K w0), d = Array.ofFn f := ⟨_, rfl⟩
 have hds : d.size = l.length := by rw [hd]; simp
 have hdi : ∀ i (hi : i < l.length), d[i]! = f ⟨i, hi⟩ := fun i hi => by rw [getElem!_pos d i (by omega)]; simp [hd]
 have hdl : d.toList.map (fun x => x.1.1) = l := by
  refine List.ext_getElem (by simpa using hds) fun i h1 h2 => ?_
  rw [List.getElem_map, Array.getElem_toList]
  have := hdi i h2
  rw [getElem!_pos d i (by omega)] at this
  rw [this, (hf ⟨i, h2⟩).1]
  rfl
 have hH : HoldsK encC 6 w g 0 d := by
  intro t ht
  have ht' : t < d.size * 6 := by simpa using ht
  have hi : t / 6 < l.length := by omega
  have hj : t % 6 < 6 := by omega
  have hlen := encC_len (f ⟨t / 6, hi⟩)
  refine ⟨?_, (h.there (j := 0 + t) (by have := h.le; omega)).2⟩
  rw [get_flatK _ _ _ _ ht', hdi _ hi]
  have h3 := (hf ⟨t / 6, hi⟩).2 (t % 6) _ (List.getElem?_eq_getElem (by omega))
  rw [show (⟨t / 6, hi⟩ : Fin l.length).1 * 6 + t % 6 = 0 + t from by show t / 6 * 6 + t % 6 = _; omega] at h3
  rw [h3, getElem!_pos _ _ (by omega)]
  rfl
 have main := AnyQ.slices_SortFunc sortTy 6 isAggTy sizeOfTy encC encC_len encC_one cfC (swoC K w0) 51 #[] g 0 c d w enterTy (cmpC hb hg) hH h.lt (by omega)
 rw [hds] at main
 refine main.mono ?_
 rintro e w' ⟨rfl, d', n, os, hp, hs, rfl⟩
 have hsz : d'.size = l.length := hp.1.trans hds
 have hperm : d'.toList.Perm d.toList := by
  have h3 := hp.2.2
  have e1 : (d'.extract 0 l.length).toList = d'.toList := by rw [← hsz]; simp
  have e2 : (d.extract 0 l.length).toList = d.toList := by rw [← hds]; simp
  rwa [e1, e2] at h3
 refine ⟨rfl, sort_below hb hg, d'.toList.map (fun x => x.1.1), ?_, ?_, by simpa using hsz, ?_⟩
 ·refine List.pairwise_map.2 (List.pairwise_iff_getElem.2 fun i j hi hj hij => ?_)
  have hi' : i < d'.size := by simpa using hi
  have hj' : j < d'.size := by simpa using hj
  have h4 := ltC_f.1 (hs i j (Nat.zero_le _) hij (by omega))
  rw [getElem!_pos d' i hi', getElem!_pos d' j hj', ordT_flip] at h4
  simp only [Array.getElem_toList]
  omega
 ·intro x
  rw [← hdl]
  exact (hperm.map _).mem_iff
 ·have hH' := holdsK_sortWorldK (encC (K := K) (w0 := w0)) 6 w g 0 n d d' os h.lt hH (hsz.trans hds.symm)
  obtain ⟨cur, hc1, hc2⟩ := h.blk
  obtain ⟨cur', hc3, hc4⟩ := blk_sort (enc := encC (K := K) (w0 := w0)) (m := n) (dk := d') (os := os) hc1
  refine ⟨by rw [List.length_map, Array.length_toList, hsz]; exact h.le, h.mx, ⟨cur', hc3, hc4.trans hc2⟩, fun i t hi => ?_⟩
  obtain ⟨hlt, rfl⟩ := List.getElem?_eq_some_iff.1 hi
  have hlt' : i < d'.size := by simpa using hlt
  refine ⟨encC d'[i], by rw [List.getElem_map, Array.getElem_toList]; exact d'[i].2, fun j u hj => ?_⟩
  obtain ⟨hj1, hj2⟩ := List.getElem?_eq_some_iff.1 hj
  have h6 := encC_len d'[i]
  have h7 := (hH'.cell (i := i) (c := j) hlt' (by omega)).1
  rw [Nat.zero_add, getElem!_pos d' i hlt', getElem!_pos _ j hj1, hj2] at h7
  exact h7
theorem eqf_any {K K' : Nat → Prop} {w : World} {t t' : Ty} {cs cs' : List Value} (h : RepT K w t cs) (h' : RepT K' w t' cs') :
  Calls Tryz.prog 53 #[.agg cs.toArray, .agg cs'.toArray] w fun e w' => e = .returned (.bool (ordT t t' == 0)) ∧ Gw w w' := by
 have hb1 : Gw w (w.alloc (.cells cs.toArray 26)) := (Gw.refl w).alloc _
 have hb2 : Gw w ((w.alloc (.cells cs.toArray 26)).alloc (.cells cs'.toArray 26)) := hb1.alloc _
 have a1 : AtT K ((w.alloc (.cells cs.toArray 26)).alloc (.cells cs'.toArray 26)) t w.heap.size 0 := (AtT.box _ h).later ((Below.refl _ _).alloc (Nat.le_refl _) _)
 have a2 : AtT K' ((w.alloc (.cells cs.toArray 26)).alloc (.cells cs'.toArray 26)) t' (w.heap.size + 1) 0 := by
  have := AtT.box (w := w.alloc (.cells cs.toArray 26)) 26 (h'.later hb1.below)
  rw [World.size_alloc] at this
  exact this
 have KO := Hd ((order_any t K K' t').ok _ _ _ _ _ a1 a2)
 have HB := Hd hb2
 obtain ⟨k, s, n, ps, fs, vs⟩ := t
 obtain ⟨k', s', n', ps', fs', vs'⟩ := t'
 obtain ⟨A, c, A', c', A'', c'', rfl, _⟩ := h.inv
 obtain ⟨B, d, B', d', B'', d'', rfl, _⟩ := h'.inv
 clear a1 a2 hb1 hb2 h h'
 generalize ordT (.mk k s n ps fs vs) (.mk k' s' n' ps' fs' vs') = r at KO ⊢
 simp only [cells6T] at KO HB ⊢
 go_enter Tryz.func53, Tryz.ntmps53
 go_wp2_with fail
 refine KO.out.mono ?_
 rintro e w1 ⟨rfl, hb⟩
 have HB1 := Hd (HB.out.trans hb)
 clear hb
 go_wp2_with fail
 go_ret
 exact ⟨rfl, HB1.out⟩
theorem comp_nil : CompN := by
 intro w
 go_enter Tryz.func52, Tryz.ntmps52
 go_wp2_with fail
 go_ret
 exact ⟨rfl, Below.refl _ _⟩
theorem comp_short {K : Nat → Prop} {w0 w : World} {g c : Nat} {s : List Ty} (h : InT K w0 w g c s) (hb : Below w0.heap.size w0 w) (hs : s.length < 2) :
  Calls Tryz.prog 52 #[.slice (some ⟨g, 0, none⟩) s.length c, .func (.func 53) #[] #[]] w fun e w' => e = .returned (.slice (some ⟨g, 0, none⟩) (dedupT s).length c) ∧ Below w0.heap.size w0 w' ∧ InT K w0 w' g c (dedupT s) := by
 have hd : dedupT s = s := by
  match s, hs with
  | [], _ => rfl
  | [_], _ => rfl
  | _ :: _ :: _, hs => exact absurd hs (by simp)
 rw [hd]
 have H := Hd (And.intro h hb)
 clear h hb hd
 have t2 : decide ((s.length : Int) < 2) = true := by simp; omega
 go_enter Tryz.func52, Tryz.ntmps52
 go_wp2_with fail
 go_ret
 exact ⟨rfl, H.out.2, H.out.1⟩
theorem dedup_cons2 (a b : Ty) (l : List Ty) : dedupT (a :: b :: l) = if ordT a b = 0 then dedupT (b :: l) else a :: dedupT (b :: l) := by rw [dedupT]
theorem dedup_snoc (a b : Ty) : ∀ l : List Ty, dedupT (l ++ [a, b]) = if ordT a b = 0 then dedupT (l ++ [a]) else dedupT (l ++ [a]) ++ [b]
 | [] => by
  simp only [List.nil_append]
  rw [dedup_cons2]
  by_cases h : ordT a b = 0
  ·rw [if_pos h, if_pos h, ordT_zero.1 h]
  ·rw [if_neg h, if_neg h]; rfl
 | [x] => by
  show dedupT (x :: a :: [b]) = if ordT a b = 0 then dedupT [x, a] else dedupT [x, a] ++ [b]
  have ih := dedup_snoc a b []
  simp only [List.nil_append] at ih
  rw [dedup_cons2, ih, dedup_cons2]
  by_cases h1 : ordT a b = 0
  ·simp only [if_pos h1]
  ·simp only [if_neg h1]
   split <;> rfl
 | x :: y :: l => by
  have ih := dedup_snoc a b (y :: l)
  show dedupT (x :: y :: (l ++ [a, b])) = if ordT a b = 0 then dedupT (x :: y :: (l ++ [a])) else dedupT (x :: y :: (l ++ [a])) ++ [b]
  have ih' : dedupT (y :: (l ++ [a, b])) = if ordT a b = 0 then dedupT (y :: (l ++ [a])) else dedupT (y :: (l ++ [a])) ++ [b] := ih
  rw [dedup_cons2, ih', dedup_cons2]
  by_cases h1 : ordT a b = 0
  ·simp only [if_pos h1]
  ·simp only [if_neg h1]
   split <;> rfl
theorem dedup_take {s : List Ty} {n : Nat} (h0 : 0 < n) (h : n < s.length) : dedupT (s.take (n + 1)) = if ordT s[n - 1] s[n] = 0 then dedupT (s.take n) else dedupT (s.take n) ++ [s[n]] := by
 obtain ⟨m, rfl⟩ : ∃ m, n = m + 1 := ⟨n - 1, by omega⟩
 have e1 : s.take (m + 1) = s.take m ++ [s[m]] := List.take_succ_eq_append_getElem (by omega)
 have e2 : s.take (m + 1 + 1) = s.take m ++ [s[m], s[m + 1]] := by rw [List.take_succ_eq_append_getElem h, e1, List.append_assoc]; rfl
 rw [e2, e1, dedup_snoc]
 rfl
theorem sort_nil : SortN := by
 intro w
 have h := AnyF.slices_SortFunc_none (P := Tryz.prog) (ρ := sortTy_ren) { sortTy with } none 0 (.func (.func 51) #[] #[]) w
 refine h.mono ?_
 rintro e w' ⟨rfl, rfl⟩
 exact ⟨rfl, Below.refl _ _⟩
end Go.Proofs.YteakkjhcdpbidaaGreatDoor
