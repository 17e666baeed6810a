import Derived.Test.YtgjblmlibhppiaaGreatDoorMy10
import Derived.Test.YtgjblmlibhppiaaGreatDoorMy12
namespace Go.Proofs.YtgjblmlibhppiaaGreatDoor
set_option maxRecDepth 100000
set_option maxHeartbeats 64000000
open Go.RowKit
theorem sgnZ (x y : Int) : sgn (decide (x < y)) (decide (y < x)) = cmpZ x y := by
 rcases cmpZ_cases x y with ⟨a, b, e⟩ | ⟨a, b, e⟩ | ⟨a, b, e⟩ <;> rw [e, sgn] <;> simp [a, b]
theorem sgnB (x y : ByteArray) : sgn (Op.bytesLess x.toList y.toList) (!Op.bytesLess x.toList y.toList && !(x.toList == y.toList)) = cmpB x y := by
 rcases cmpB_cases x y with ⟨a, b, e⟩ | ⟨a, b, e⟩ | ⟨a, b, e⟩ <;> rw [e, sgn, a, b] <;> rfl
theorem ordr_step (k : Int) (t : ByteArray) (n : Int) (ps : List Ty) (fs : FsT) (vs : VsT) (hp : ∀ p ∈ ps, OrdR p) (hf : ∀ f ∈ fs, OrdR f.2.2) (hv : ∀ v ∈ vs, ∀ b ∈ v.2, OrdR b) : OrdR (.mk k t n ps fs vs) := by
 intro K K' t' w cs cs' h h'
 obtain ⟨k', s', n', ps', fs', vs'⟩ := t'
 have hb2 : Gw w ((w.alloc (.cells cs.toArray 26)).alloc (.cells cs'.toArray 26)) := ((Gw.refl w).alloc _).alloc _
 have a1 := (AtT.box 26 h).later ((Below.refl _ _).alloc (Nat.le_refl _) (.cells cs'.toArray 26))
 have a2 : AtT K' ((w.alloc (.cells cs.toArray 26)).alloc (.cells cs'.toArray 26)) (.mk k' s' n' ps' fs' vs') (w.heap.size + 1) 0 := by
  have := AtT.box (w := w.alloc (.cells cs.toArray 26)) 26 (h'.later ((Below.refl _ _).alloc (Nat.le_refl _) _))
  rw [World.size_alloc] at this
  exact this
 have HB2 := Hd hb2
 obtain ⟨A, c, A2, c2, A3, c3, rfl, -⟩ := h.inv
 obtain ⟨B, d, B2, d2, B3, d3, rfl, -⟩ := h'.inv
 simp only [cells6T] at a1 a2 HB2 ⊢
 generalize hw2 : (w.alloc (.cells #[.int .i64 k, .string t, .int .i64 n, .slice A ps.length c, .slice A2 fs.length c2, .slice A3 vs.length c3] 26)).alloc (.cells #[.int .i64 k', .string s', .int .i64 n', .slice B ps'.length d, .slice B2 fs'.length d2, .slice B3 vs'.length d3] 26) = w2 at a1 a2 HB2
 have HE2 := Hd hw2
 obtain ⟨A', c', A2', c2', A3', c3', ⟨x0, x1, x2, x3, x4, x5⟩, -, hP, hF, hV⟩ := a1.six
 obtain ⟨B', d', B2', d2', B3', d3', ⟨y0, y1, y2, y3, y4, y5⟩, -, hP', hF', hV'⟩ := a2.six
 rw [Nat.zero_add] at x1 x2 x3 x4 x5 y1 y2 y3 y4 y5
 have HX : Hid (∀ wx, Gw w2 wx → (wx.cell? ⟨w.heap.size, 3, none⟩ = some (.slice A' ps.length c') ∧ wx.cell? ⟨w.heap.size, 4, none⟩ = some (.slice A2' fs.length c2') ∧ wx.cell? ⟨w.heap.size, 5, none⟩ = some (.slice A3' vs.length c3')) ∧ wx.cell? ⟨w.heap.size + 1, 3, none⟩ = some (.slice B' ps'.length d') ∧ wx.cell? ⟨w.heap.size + 1, 4, none⟩ = some (.slice B2' fs'.length d2') ∧ wx.cell? ⟨w.heap.size + 1, 5, none⟩ = some (.slice B3' vs'.length d3')) := Hd fun wx hx => ⟨⟨cell_stays hx.below x3, cell_stays hx.below x4, cell_stays hx.below x5⟩, cell_stays hx.below y3, cell_stays hx.below y4, cell_stays hx.below y5⟩
 have K3 : Hid (∀ wx, Gw w2 wx → Calls Tryz.prog 42 #[.slice A' ps.length c', .slice B' ps'.length d'] wx fun e w' => e = .returned (.int .i64 (lexC (flatL ps) (flatL ps'))) ∧ Gw wx w') := Hd fun wx hx => list_ref ps ps' hp (hP.later hx.below) (hP'.later hx.below)
 have K4 : Hid (∀ wx, Gw w2 wx → Calls Tryz.prog 43 #[.slice A2' fs.length c2', .slice B2' fs'.length d2'] wx fun e w' => e = .returned (.int .i64 (lexC (flatF fs) (flatF fs'))) ∧ Gw wx w') := Hd fun wx hx => fields_ref fs fs' hf (hF.later hx.below) (hF'.later hx.below)
 have K5 : Hid (∀ wx, Gw w2 wx → Calls Tryz.prog 44 #[.slice A3' vs.length c3', .slice B3' vs'.length d3'] wx fun e w' => e = .returned (.int .i64 (lexC (flatV vs) (flatV vs'))) ∧ Gw wx w') := Hd fun wx hx => vars_ref vs vs' hv (hV.later hx.below) (hV'.later hx.below)
 have HO := Hd (ord_steps k t n ps fs vs k' s' n' ps' fs' vs')
 have Z0 := Hd (sgnZ k k')
 have Z1 := Hd (sgnB t s')
 have Z2 := Hd (sgnZ n n')
 generalize ordT (.mk k t n ps fs vs) (.mk k' s' n' ps' fs' vs') = oo at HO ⊢
 generalize cmpZ k k' = q0 at HO Z0
 generalize cmpB t s' = q1 at HO Z1
 generalize cmpZ n n' = q2 at HO Z2
 generalize lexC (flatL ps) (flatL ps') = q3 at HO K3
 generalize lexC (flatF fs) (flatF fs') = q4 at HO K4
 generalize lexC (flatV vs) (flatV vs') = q5 at HO K5
 clear h h' hb2 a1 a2 hP hF hV hP' hF' hV' hp hf hv hw2 x3 x4 x5 y3 y4 y5
 go_enter Tryz.func21, Tryz.ntmps21
 go_wp2_with fail
 rw [HE2.out]
 refine (sign_any _ _ _).mono ?_
 rintro e w3 ⟨rfl, rfl⟩
 rw [Z0.out]
 by_cases z0 : q0 = 0
 ·have e0 : (q0 == 0) = true := by simpa using z0
  have Q0 := Hd z0
  clear z0
  go_wp2_with fail
  refine (sign_any _ _ _).mono ?_
  rintro e w3 ⟨rfl, rfl⟩
  rw [Z1.out]
  by_cases z1 : q1 = 0
  ·have e1 : (q1 == 0) = true := by simpa using z1
   have Q1 := Hd z1
   clear z1
   go_wp2_with fail
   refine (sign_any _ _ _).mono ?_
   rintro e w3 ⟨rfl, rfl⟩
   rw [Z2.out]
   by_cases z2 : q2 = 0
   ·have e2 : (q2 == 0) = true := by simpa using z2
    have Q2 := Hd z2
    clear z2
    obtain ⟨⟨x3, x4, x5⟩, y3, y4, y5⟩ := HX.out _ (Gw.refl _)
    go_wp2_with fail
    clear x3 x4 x5 y3 y4 y5
    refine (K3.out _ (Gw.refl _)).mono ?_
    rintro e w3 ⟨rfl, hg⟩
    have HG3 := Hd (hg)
    clear hg
    by_cases z3 : q3 = 0
    ·have e3 : (q3 == 0) = true := by simpa using z3
     have Q3 := Hd z3
     clear z3
     obtain ⟨⟨x3, x4, x5⟩, y3, y4, y5⟩ := HX.out _ HG3.out
     go_wp2_with fail
     clear x3 x4 x5 y3 y4 y5
     refine (K4.out _ HG3.out).mono ?_
     rintro e w4 ⟨rfl, hg⟩
     have HG4 := Hd (HG3.out.trans hg)
     clear hg
     by_cases z4 : q4 = 0
     ·have e4 : (q4 == 0) = true := by simpa using z4
      have Q4 := Hd z4
      clear z4
      obtain ⟨⟨x3, x4, x5⟩, y3, y4, y5⟩ := HX.out _ HG4.out
      go_wp2_with fail
      clear x3 x4 x5 y3 y4 y5
      refine (K5.out _ HG4.out).mono ?_
      rintro e w5 ⟨rfl, hg⟩
      have HG5 := Hd (HG4.out.trans hg)
      clear hg
      go_wp2_with fail
      go_ret
      exact ⟨by rw [HO.out, Q0.out, or2_zero, Q1.out, or2_zero, Q2.out, or2_zero, Q3.out, or2_zero, Q4.out, or2_zero]; rfl, HB2.out.trans HG5.out⟩
     ·have e4 : (q4 == 0) = false := by simpa using z4
      have Q4 := Hd z4
      clear z4
      go_wp2_with fail
      go_ret
      exact ⟨by rw [HO.out, Q0.out, or2_zero, Q1.out, or2_zero, Q2.out, or2_zero, Q3.out, or2_zero, or2_ne Q4.out]; rfl, HB2.out.trans HG4.out⟩
    ·have e3 : (q3 == 0) = false := by simpa using z3
     have Q3 := Hd z3
     clear z3
     go_wp2_with fail
     go_ret
     exact ⟨by rw [HO.out, Q0.out, or2_zero, Q1.out, or2_zero, Q2.out, or2_zero, or2_ne Q3.out]; rfl, HB2.out.trans HG3.out⟩
   ·have e2 : (q2 == 0) = false := by simpa using z2
    have Q2 := Hd z2
    clear z2
    go_wp2_with fail
    go_ret
    exact ⟨by rw [HO.out, Q0.out, or2_zero, Q1.out, or2_zero, or2_ne Q2.out]; rfl, HB2.out⟩
  ·have e1 : (q1 == 0) = false := by simpa using z1
   have Q1 := Hd z1
   clear z1
   go_wp2_with fail
   go_ret
   exact ⟨by rw [HO.out, Q0.out, or2_zero, or2_ne Q1.out]; rfl, HB2.out⟩
 ·have e0 : (q0 == 0) = false := by simpa using z0
  have Q0 := Hd z0
  clear z0
  go_wp2_with fail
  go_ret
  exact ⟨by rw [HO.out, or2_ne Q0.out]; rfl, HB2.out⟩
theorem order_ref (t : Ty) : OrdR t := Ty.ind (C := OrdR) (fun k t n ps fs vs hp hf hv => ordr_step k t n ps fs vs hp hf hv) t
def namesI : Ty → List ByteArray
 | .mk k t _ ps fs _ => if k = 22 then [t] else (ps.attach.mapIdx fun i ⟨p, _⟩ => if (k == 21 && i == 1) then [] else namesI p).flatten ++ (fs.attach.map fun ⟨f, _⟩ => namesI f.2.2).flatten
termination_by t => SizeOf.sizeOf t
decreasing_by
 ·exact ty_lt_p ‹_›
 ·exact ty_lt_f ‹_›
def namesP (k : Int) : Nat → List Ty → List ByteArray
 | _, [] => []
 | i, p :: l => (if (k == 21 && i == 1) then [] else namesI p) ++ namesP k (i + 1) l
def namesF (l : FsT) : List ByteArray := (l.map fun f => namesI f.2.2).flatten
theorem flat_mapIdx {α : Type} (k : Int) (g : α → Ty) : ∀ (l : List α) (j : Nat), (l.mapIdx fun i p => if (k == 21 && (i + j) == 1) then [] else namesI (g p)).flatten = namesP k j (l.map g)
 | [], _ => rfl
 | a :: l, j => by
  rw [List.mapIdx_cons, List.flatten_cons, List.map_cons, namesP, ← flat_mapIdx k g l (j + 1)]
  simp only [Nat.zero_add, Nat.add_assoc, Nat.add_comm 1 j]
theorem namesI_mk (k t n ps fs vs) : namesI (.mk k t n ps fs vs) = if k = 22 then [t] else namesP k 0 ps ++ namesF fs := by
 rw [namesI]
 have h := flat_mapIdx k (fun p : {x // x ∈ ps} => p.1) ps.attach 0
 simp only [Nat.add_zero] at h
 rw [h]
 unfold namesF
 simp only [List.map_attach_eq_pmap, List.pmap_eq_map, List.map_id']
theorem namesP_drop {k : Int} {ps : List Ty} {i : Nat} (h : i < ps.length) : namesP k i (ps.drop i) = (if (k == 21 && i == 1) then [] else namesI ps[i]) ++ namesP k (i + 1) (ps.drop (i + 1)) := by
 rw [List.drop_eq_getElem_cons h, namesP]
theorem namesF_drop {fs : FsT} {i : Nat} (h : i < fs.length) : namesF (fs.drop i) = namesI fs[i].2.2 ++ namesF (fs.drop (i + 1)) := by
 rw [List.drop_eq_getElem_cons h, namesF, List.map_cons, List.flatten_cons]; rfl
theorem infPs_names (k : Int) : ∀ (ps : List Ty) (i : Nat), (∀ p ∈ ps, (infT p = true ↔ namesI p ≠ [])) → (infPs k i ps = true ↔ namesP k i ps ≠ [])
 | [], _, _ => by simp [infPs, namesP]
 | p :: l, i, h => by
  rw [infPs, namesP, Bool.or_eq_true, infPs_names k l (i + 1) fun q hq => h q (List.mem_cons_of_mem _ hq), Bool.and_eq_true, h p List.mem_cons_self]
  cases hq : (k == 21 && i == 1) <;> simp only [Bool.not_false, Bool.not_true, Bool.false_eq_true, if_false, if_true, ne_eq, List.append_eq_nil_iff, List.nil_append, true_and, false_and, false_or, not_and] <;> (try by_cases e : namesI p = [] <;> simp [e])
theorem infT_names (t : Ty) : infT t = true ↔ namesI t ≠ [] := by
 refine Ty.ind (C := fun t => infT t = true ↔ namesI t ≠ []) (fun k t n ps fs vs hp hf _ => ?_) t
 rw [infT_mk, namesI_mk]
 by_cases hk : k = 22
 ·rw [if_pos hk, hk]; simp
 ·rw [if_neg hk]
  have e : (k == 22) = false := by simpa using hk
  rw [e, Bool.false_or, Bool.or_eq_true, infPs_names k ps 0 hp]
  have hF : infFs fs = true ↔ namesF fs ≠ [] := by
   unfold infFs namesF
   rw [List.any_eq_true, ne_eq, List.flatten_eq_nil_iff]
   constructor
   ·rintro ⟨f, hm, h⟩ hn
    exact (hf f hm).1 h (hn _ (List.mem_map_of_mem hm))
   ·intro h
    apply Classical.byContradiction
    intro hn
    refine h fun l hl => ?_
    obtain ⟨f, hm, rfl⟩ := List.mem_map.1 hl
    apply Classical.byContradiction
    intro hne
    exact hn ⟨f, hm, (hf f hm).2 hne⟩
  rw [hF, ne_eq, ne_eq, ne_eq, List.append_eq_nil_iff]
  by_cases e1 : namesP k 0 ps = [] <;> simp [e1]
structure InfSt (w0 : World) (w : World) (v : Value) (l N : List ByteArray) (v' : Value) (w' : World) (l' : List ByteArray) : Prop where
 own : OutS w0.heap.size w' v' l'
 asc : AscS l'
 mem : ∀ x, x ∈ l' ↔ x ∈ l ∨ x ∈ N
 len : l'.length ≤ l.length + N.length
 low : Below w0.heap.size w0 w'
 big : w.heap.size ≤ w'.heap.size
 fr : Fr v w v' w'
theorem InfSt.step {w0 w w1 w2 : World} {v v1 v2 : Value} {l N M l1 l2 : List ByteArray} (h : InfSt w0 w v l N v1 w1 l1) (h' : InfSt w0 w1 v1 l1 M v2 w2 l2) : InfSt w0 w v l (N ++ M) v2 w2 l2 := by
 refine ⟨h'.own, h'.asc, fun x => ?_, ?_, h'.low, Nat.le_trans h.big h'.big, h.fr.trans h'.fr h.big⟩
 ·rw [h'.mem, h.mem, List.mem_append, or_assoc]
 ·have := h.len; have := h'.len; rw [List.length_append]; omega
theorem InfSt.from {w0 wb w w' : World} {v v' : Value} {l N l' : List ByteArray} (h : InfSt w0 w v l N v' w' l') (hb : Below wb.heap.size wb w) : InfSt w0 wb v l N v' w' l' :=
 ⟨h.own, h.asc, h.mem, h.len, h.low, Nat.le_trans hb.size h.big, h.fr.world hb⟩
def InfR (t : Ty) : Prop := ∀ (K : Nat → Prop) (w0 w : World) (cs : List Value) (v : Value) (l : List ByteArray), RepT K w0 t cs → Below w0.heap.size w0 w → OutS w0.heap.size w v l → AscS l → l.length + (namesI t).length ≤ 1099511627776 →
 Calls Tryz.prog 62 #[.agg cs.toArray, v] w fun e w' => ∃ v' l', e = .returned v' ∧ InfSt w0 w v l (namesI t) v' w' l'
theorem infers_step (k : Int) (s : ByteArray) (n : Int) (ps : List Ty) (fs : FsT) (vs : VsT) (hp : ∀ p ∈ ps, InfR p) (hf : ∀ f ∈ fs, InfR f.2.2) : InfR (.mk k s n ps fs vs) := by
 intro K w0 w cs v l ht hb hO hA hbd
 obtain ⟨Ap, cp, Af, cf, Av, cv, rfl, -, hLp, hLf, -⟩ := ht.inv
 have hlp := hLp.short
 have hlf := hLf.shortF
 obtain ⟨As, c, rfl, -⟩ := hO.list (by omega)
 have HB1 := Hd (hb.alloc hb.size (.cells (cells6T k s n Ap ps.length cp Af fs.length cf Av vs.length cv).toArray 26))
 have HBW : Hid (Below w.heap.size w (w.alloc (.cells (cells6T k s n Ap ps.length cp Af fs.length cf Av vs.length cv).toArray 26))) := Hd ((Below.refl _ _).alloc (Nat.le_refl _) _)
 have HO1 := Hd (hO.later HBW.out)
 have HLT := Hd fun b (h : (Value.slice As l.length c).ownBlock = some b) => (hO.lt b h)
 have HC := Hd (cellsT_new w (cells6T k s n Ap ps.length cp Af fs.length cf Av vs.length cv) 26)
 have x0 : (w.alloc (.cells (cells6T k s n Ap ps.length cp Af fs.length cf Av vs.length cv).toArray 26)).cell? ⟨w.heap.size, 0, none⟩ = some (.int .i64 k) := HC.out 0 _ rfl
 have x1 : (w.alloc (.cells (cells6T k s n Ap ps.length cp Af fs.length cf Av vs.length cv).toArray 26)).cell? ⟨w.heap.size, 1, none⟩ = some (.string s) := HC.out 1 _ rfl
 have x3 : (w.alloc (.cells (cells6T k s n Ap ps.length cp Af fs.length cf Av vs.length cv).toArray 26)).cell? ⟨w.heap.size, 3, none⟩ = some (.slice Ap ps.length cp) := HC.out 3 _ rfl
 have x4 : (w.alloc (.cells (cells6T k s n Ap ps.length cp Af fs.length cf Av vs.length cv).toArray 26)).cell? ⟨w.heap.size, 4, none⟩ = some (.slice Af fs.length cf) := HC.out 4 _ rfl
 have HA := Hd hA
 have HN := Hd (namesI_mk k s n ps fs vs)
 have HBD := Hd hbd
 by_cases hk : k = 22
 ·subst hk
  have HN22 : Hid (namesI (.mk 22 s n ps fs vs) = [s]) := Hd (by rw [HN.out, if_pos rfl])
  have KA := Hd (add_ref (s := s) HO1.out hA HB1.out.size (by rw [HN.out, if_pos rfl] at hbd; simpa using hbd))
  clear ht hb hO hA hbd hLp hLf hp hf
  go_enter Tryz.func62, Tryz.ntmps62
  go_wp2_with fail
  refine KA.out.mono ?_
  rintro e w2 ⟨v2, l2, rfl, o2, a2, m2, n2, b2, f2⟩
  go_wp2_with fail
  go_ret
  refine ⟨_, _, rfl, InfSt.from ⟨o2, a2, fun x => ?_, ?_, HB1.out.trans b2, b2.size, f2⟩ HBW.out⟩
  ·rw [m2, HN22.out, List.mem_singleton, or_comm]
  ·rw [HN22.out]; exact n2
 ·have te : (k == 22) = false := by simpa using hk
  have HNN : Hid (namesI (.mk k s n ps fs vs) = namesP k 0 ps ++ namesF fs) := Hd (by rw [HN.out, if_neg hk])
  have HP := Hd hp
  have HF := Hd hf
  have HLP := Hd hLp
  have HLF := Hd hLf
  have HLV : Hid ((Value.slice As l.length c).ownBlock ≠ some w.heap.size) := Hd fun e => by have := (HLT.out _ e).2; omega
  have HX : Hid (∀ v2 w2, Fr (.slice As l.length c) (w.alloc (.cells (cells6T k s n Ap ps.length cp Af fs.length cf Av vs.length cv).toArray 26)) v2 w2 → w2.cell? ⟨w.heap.size, 0, none⟩ = some (.int .i64 k) ∧ w2.cell? ⟨w.heap.size, 3, none⟩ = some (.slice Ap ps.length cp) ∧ w2.cell? ⟨w.heap.size, 4, none⟩ = some (.slice Af fs.length cf)) := Hd fun v2 w2 h => by
   have e := h.keep w.heap.size (by simp) HLV.out
   exact ⟨(World.cell?_of_block e).trans x0, (World.cell?_of_block e).trans x3, (World.cell?_of_block e).trans x4⟩
  have HST0 : Hid (InfSt w0 (w.alloc (.cells (cells6T k s n Ap ps.length cp Af fs.length cf Av vs.length cv).toArray 26)) (.slice As l.length c) l [] (.slice As l.length c) (w.alloc (.cells (cells6T k s n Ap ps.length cp Af fs.length cf Av vs.length cv).toArray 26)) l) := Hd ⟨HO1.out, HA.out, fun x => by simp, by simp, HB1.out, Nat.le_refl _, Fr.refl _ _⟩
  clear ht hb hO hA hbd hLp hLf hp hf hk
  go_enter Tryz.func62, Tryz.ntmps62
  go_wp2_with fail
  have HW1 : Hid ((w.alloc (.cells (cells6T k s n Ap ps.length cp Af fs.length cf Av vs.length cv).toArray 26)).heap.size = w.heap.size + 1) := Hd (by simp)
  generalize (w.alloc (.cells (cells6T k s n Ap ps.length cp Af fs.length cf Av vs.length cv).toArray 26)) = w1 at *
  go_loopw [1, 5] (fun ov iv wr => ∃ (i : Nat) (N l1 : List ByteArray), i ≤ ps.length ∧ iv = .int .i64 i ∧ N ++ namesP k i (ps.drop i) = namesP k 0 ps ∧ InfSt w0 w1 (.slice As l.length c) l N ov wr l1) (fun _ v _ => ps.length - (intOf v).toNat)
  case atStart => exact ⟨0, [], l, by omega, rfl, by rw [List.drop_zero]; rfl, HST0.out⟩
  case round =>
   obtain ⟨i, N, l1, hi, rfl, he, hst⟩ := hrel
   have HST := Hd hst
   have HE := Hd he
   have HNL : Hid (N.length + (namesP k i (ps.drop i)).length = (namesP k 0 ps).length) := Hd (by rw [← he, List.length_append])
   obtain ⟨z0, z3, z4⟩ := HX.out _ _ hst.fr
   have HLN : Hid (l1.length + (namesP k i (ps.drop i)).length + (namesF fs).length ≤ 1099511627776) := Hd (by
    have h1 := hst.len
    have h2 := HBD.out
    rw [HNN.out, List.length_append] at h2
    have h3 := HNL.out
    omega)
   obtain ⟨A1, c1, rfl, -⟩ := hst.own.list (by have := HLN.out; omega)
   clear hst he
   by_cases hin : i < ps.length
   ·have t1 : decide ((i : Int) < (ps.length : Int)) = true := by simp; omega
    have wr2 : wrap64 ((i : Int) + 1) = ((i + 1 : Nat) : Int) := wrap_one (by omega)
    have HM := Hd (measI hin)
    obtain ⟨b, o, hAA, _, hat⟩ := HLP.out.at (by omega)
    have hti := hat i hin
    have hpi := HP.out _ (List.getElem_mem hin)
    have HSP0 := Hd (namesP_drop (k := k) hin)
    have HIn : Hid (i + 1 ≤ ps.length) := Hd hin
    subst hAA
    generalize ps[i] = t at hti hpi HSP0
    obtain ⟨cs, hcs, hrep⟩ := hti
    obtain ⟨k2, s2, n2, ps2, fs2, vs2⟩ := t
    have KI : Hid ((k == 21 && i == 1) = false → Calls Tryz.prog 62 #[.agg cs.toArray, .slice A1 l1.length c1] wr _) := Hd fun hq => hpi K w0 wr cs _ l1 hrep HST.out.low HST.out.own HST.out.asc (by
     have h1 := HLN.out
     rw [HSP0.out, hq, if_neg (by decide), List.length_append] at h1
     omega)
    obtain ⟨Aq, cq, Ag, cg, Ah, ch, rfl, -⟩ := hrep.inv
    have y0 := cell_stays HST.out.low (hcs 0 _ rfl)
    have y1 := cell_stays HST.out.low (hcs 1 _ rfl)
    have y2 := cell_stays HST.out.low (hcs 2 _ rfl)
    have y3 := cell_stays HST.out.low (hcs 3 _ rfl)
    have y4 := cell_stays HST.out.low (hcs 4 _ rfl)
    have y5 := cell_stays HST.out.low (hcs 5 _ rfl)
    rw [Nat.add_zero] at y0
    simp only [cells6T] at KI
    clear hi hat hpi hcs hrep
    by_cases h21 : k = 21
    ·have b21 : (k != 21) = false := by simpa using h21
     have E21 : Hid ((k == 21) = true) := Hd (by simpa using h21)
     clear h21
     by_cases h1 : i = 1
     ·have b1 : ((i : Int) != 1) = false := by subst h1; rfl
      have HQ : Hid ((k == 21 && i == 1) = true) := Hd (by rw [E21.out, h1]; rfl)
      clear KI h1
      go_wp2_with fail
      refine ⟨⟨i + 1, N, l1, HIn.out, by first | rfl | rw [wr2], ?p1, HST.out⟩, ?p3⟩
      case p1 => rw [← HE.out, HSP0.out, HQ.out, if_pos rfl]; rfl
      case p3 => first | exact HM.out | (rw [wr2]; exact HM.out)
     ·have b1 : ((i : Int) != 1) = true := by simp; omega
      have HQ : Hid ((k == 21 && i == 1) = false) := Hd (by rw [E21.out]; simpa using h1)
      have HSP : Hid (N ++ namesP k i (ps.drop i) = namesP k 0 ps) := HE
      rw [HSP0.out] at HSP
      replace KI := Hd (KI.out HQ.out)
      clear h1
      go_wp2_with fail
      refine (KI.out).mono ?_
      rintro e w2 ⟨v2, l2, rfl, h2⟩
      have HS2 := Hd (HST.out.step h2)
      have HF2 := Hd (HX.out _ _ HS2.out.fr)
      clear h2 KI y0 y1 y2 y3 y4 y5
      go_wp2_with fail
      refine ⟨⟨i + 1, _, l2, HIn.out, by first | rfl | rw [wr2], ?p1, HS2.out⟩, ?p3⟩
      case p1 => rw [← HSP.out, HQ.out, if_neg (by decide), List.append_assoc]
      case p3 => first | exact HM.out | (rw [wr2]; exact HM.out)
    ·have b21 : (k != 21) = true := by simpa using h21
     have HQ : Hid ((k == 21 && i == 1) = false) := Hd (by simp [h21])
     have HSP : Hid (N ++ namesP k i (ps.drop i) = namesP k 0 ps) := HE
     rw [HSP0.out] at HSP
     replace KI := Hd (KI.out HQ.out)
     clear h21
     go_wp2_with fail
     refine (KI.out).mono ?_
     rintro e w2 ⟨v2, l2, rfl, h2⟩
     have HS2 := Hd (HST.out.step h2)
     have HF2 := Hd (HX.out _ _ HS2.out.fr)
     clear h2 KI y0 y1 y2 y3 y4 y5
     go_wp2_with fail
     refine ⟨⟨i + 1, _, l2, HIn.out, by first | rfl | rw [wr2], ?p1, HS2.out⟩, ?p3⟩
     case p1 => rw [← HSP.out, HQ.out, if_neg (by decide), List.append_assoc]
     case p3 => first | exact HM.out | (rw [wr2]; exact HM.out)
   ·have t1 : decide ((i : Int) < (ps.length : Int)) = false := by simp; omega
    have HE1 : Hid (N = namesP k 0 ps) := Hd (by rw [← HE.out, List.drop_eq_nil_of_le (by omega), namesP, List.append_nil])
    clear hi
    go_wp2_with fail
    go_loopw [1, 6] (fun ov iv wx => ∃ (i : Nat) (N l1 : List ByteArray), i ≤ fs.length ∧ iv = .int .i64 i ∧ N ++ namesF (fs.drop i) = namesP k 0 ps ++ namesF fs ∧ InfSt w0 w1 (.slice As l.length c) l N ov wx l1) (fun _ v _ => fs.length - (intOf v).toNat)
    case atStart => exact ⟨0, N, l1, by omega, rfl, by rw [List.drop_zero, HE1.out], HST.out⟩
    case round =>
     clear z0 z3 z4 HST HLN
     obtain ⟨i, N, l1, hi, rfl, he, hst⟩ := hrel
     have HST := Hd hst
     have HE := Hd he
     obtain ⟨z0, z3, z4⟩ := HX.out _ _ hst.fr
     have HLN : Hid (l1.length + (namesF (fs.drop i)).length ≤ 1099511627776) := Hd (by
      have h1 := hst.len
      have h2 := HBD.out
      rw [HNN.out, ← he, List.length_append] at h2
      omega)
     obtain ⟨A1, c1, rfl, -⟩ := hst.own.list (by have := HLN.out; omega)
     clear hst he
     by_cases hin : i < fs.length
     ·have t1 : decide ((i : Int) < (fs.length : Int)) = true := by simp; omega
      have wr2 : wrap64 ((i : Int) + 1) = ((i + 1 : Nat) : Int) := wrap_one (by omega)
      have HM := Hd (measI hin)
      obtain ⟨b, o, hAA, _, hat⟩ := HLF.out.at (by omega)
      have hti := (hat i hin).2.2.2
      have hpi := HF.out _ (List.getElem_mem hin)
      have HSP0 := Hd (namesF_drop hin)
      have HIn : Hid (i + 1 ≤ fs.length) := Hd hin
      subst hAA
      generalize fs[i].2.2 = t at hti hpi HSP0
      obtain ⟨cs, hcs, hrep⟩ := hti
      obtain ⟨k2, s2, n2, ps2, fs2, vs2⟩ := t
      have KI := Hd (hpi K w0 _ cs _ l1 hrep HST.out.low HST.out.own HST.out.asc (by
       have h1 := HLN.out
       rw [HSP0.out, List.length_append] at h1
       omega))
      have HSP : Hid (N ++ namesF (fs.drop i) = namesP k 0 ps ++ namesF fs) := HE
      rw [HSP0.out] at HSP
      obtain ⟨Aq, cq, Ag, cg, Ah, ch, rfl, -⟩ := hrep.inv
      have y0 := cell_stays HST.out.low (hcs 0 _ rfl)
      have y1 := cell_stays HST.out.low (hcs 1 _ rfl)
      have y2 := cell_stays HST.out.low (hcs 2 _ rfl)
      have y3 := cell_stays HST.out.low (hcs 3 _ rfl)
      have y4 := cell_stays HST.out.low (hcs 4 _ rfl)
      have y5 := cell_stays HST.out.low (hcs 5 _ rfl)
      rw [Nat.add_zero] at y0
      simp only [cells6T] at KI
      clear hi hat hpi hcs hrep
      go_wp2_with fail
      refine (KI.out).mono ?_
      rintro e w2 ⟨v2, l2, rfl, h2⟩
      have HS2 := Hd (HST.out.step h2)
      have HF2 := Hd (HX.out _ _ HS2.out.fr)
      clear h2 KI y0 y1 y2 y3 y4 y5
      go_wp2_with fail
      refine ⟨⟨i + 1, _, l2, HIn.out, by first | rfl | rw [wr2], ?p1, HS2.out⟩, ?p3⟩
      case p1 => rw [← HSP.out, List.append_assoc]
      case p3 => first | exact HM.out | (rw [wr2]; exact HM.out)
     ·have t1 : decide ((i : Int) < (fs.length : Int)) = false := by simp; omega
      have HE1 : Hid (N = namesP k 0 ps ++ namesF fs) := Hd (by rw [← HE.out, List.drop_eq_nil_of_le (by omega)]; simp [namesF])
      clear hi
      go_wp2_with fail
      go_ret
      refine ⟨.slice A1 l1.length c1, l1, rfl, ?_⟩
      rw [HNN.out, ← HE1.out]
      exact InfSt.from HST.out HBW.out
theorem infers_ref (t : Ty) : InfR t := Ty.ind (C := InfR) (fun k s n ps fs vs hp hf _ => infers_step k s n ps fs vs hp hf) t
def overT (l : List Ty) : Bool := l.all fun t => t.k == 13
theorem over_ref {K : Nat → Prop} {w : World} {l : List Ty} {A : Option Addr} {c : Nat} (hL : ListT K w l A c) :
  Calls Tryz.prog 50 #[.slice A l.length c] w fun e w' => e = .returned (.bool (overT l)) ∧ w' = w := by
 have HL := Hd hL
 have hll := hL.short
 clear hL
 go_enter Tryz.func50, Tryz.ntmps50
 go_wp2_with fail
 go_loopw [3] (fun v wr => ∃ (i : Nat), i ≤ l.length ∧ v = .int .i64 i ∧ overT l = overT (l.drop i) ∧ wr = w) (fun v _ => l.length - (intOf v).toNat)
 case atStart => exact ⟨0, by omega, rfl, by rw [List.drop_zero], rfl⟩
 case round =>
  obtain ⟨i, hi, rfl, he, rfl⟩ := hrel
  have HE := Hd he
  clear he
  by_cases hin : i < l.length
  ·have t1 : decide ((i : Int) < (l.length : Int)) = true := by simp; omega
   have wr2 : wrap64 ((i : Int) + 1) = ((i + 1 : Nat) : Int) := wrap_one (by omega)
   obtain ⟨b, o, hA, _, hat⟩ := HL.out.at (by omega)
   subst hA
   obtain ⟨q, hq, hcq⟩ : ∃ q, (l[i]'hin).k = q ∧ wr.cell? ⟨b, o + i * 6, none⟩ = some (.int .i64 q) := by
    have h1 := hat i hin
    generalize l[i] = t at h1
    obtain ⟨k, s, n, ps, fs, vs⟩ := t
    obtain ⟨_, _, _, _, _, _, ⟨x0, _⟩, _⟩ := h1.six
    exact ⟨k, rfl, x0⟩
   have HS : Hid (overT (l.drop i) = ((l[i]'hin).k == 13 && overT (l.drop (i + 1)))) := Hd (by rw [List.drop_eq_getElem_cons hin]; rfl)
   have HM := Hd (measI hin)
   have HIn : Hid (i + 1 ≤ l.length) := Hd hin
   by_cases hk : q = 13
   ·have HK : Hid (((l[i]'hin).k == 13) = true) := Hd (by rw [hq]; simpa using hk)
    have e13 : (q != 13) = false := by simpa using hk
    clear hat hi hq hk
    go_wp2_with fail
    refine ⟨⟨i + 1, HIn.out, by first | rfl | rw [wr2], by rw [HE.out, HS.out, HK.out]; rfl, by first | rfl | trivial⟩, ?_⟩
    first | exact HM.out | (rw [wr2]; exact HM.out)
   ·have HK : Hid (((l[i]'hin).k == 13) = false) := Hd (by rw [hq]; simpa using hk)
    have e13 : (q != 13) = true := by simpa using hk
    clear hat hi hq hk
    go_wp2_with fail
    go_ret
    exact ⟨by rw [HE.out, HS.out, HK.out]; rfl, rfl⟩
  ·have t1 : decide ((i : Int) < (l.length : Int)) = false := by simp; omega
   have HE1 : Hid (overT l = true) := Hd (by rw [HE.out, List.drop_eq_nil_of_le (by omega)]; rfl)
   clear hi
   go_wp2_with fail
   go_ret
   exact ⟨by rw [HE1.out]; rfl, rfl⟩
theorem plain_ref {w : World} (k : Int) (s : ByteArray) (n : Int) (A : Option Addr) (a c : Nat) (A' : Option Addr) (a' c' : Nat) (A'' : Option Addr) (a'' c'' : Nat) :
  Calls Tryz.prog 46 #[.agg #[.int .i64 k, .string s, .int .i64 n, .slice A a c, .slice A' a' c', .slice A'' a'' c'']] w fun e w' => e = .returned (.bool (s.toList == [] && n == 0)) ∧ Below w.heap.size w w' := by
 have HBW : Hid (Below w.heap.size w (w.alloc (.cells #[.int .i64 k, .string s, .int .i64 n, .slice A a c, .slice A' a' c', .slice A'' a'' c''] 26))) := Hd ((Below.refl _ _).alloc (Nat.le_refl _) _)
 have HC := Hd (cellsT_new w [.int .i64 k, .string s, .int .i64 n, .slice A a c, .slice A' a' c', .slice A'' a'' c''] 26)
 have x1 : (w.alloc (.cells #[.int .i64 k, .string s, .int .i64 n, .slice A a c, .slice A' a' c', .slice A'' a'' c''] 26)).cell? ⟨w.heap.size, 1, none⟩ = some (.string s) := HC.out 1 _ rfl
 have x2 : (w.alloc (.cells #[.int .i64 k, .string s, .int .i64 n, .slice A a c, .slice A' a' c', .slice A'' a'' c''] 26)).cell? ⟨w.heap.size, 2, none⟩ = some (.int .i64 n) := HC.out 2 _ rfl
 cases h : (s.toList == []) with
 | true =>
  go_enter Tryz.func46, Tryz.ntmps46
  go_wp2_with fail
  go_ret
  exact ⟨by simp, HBW.out⟩
 | false =>
  go_enter Tryz.func46, Tryz.ntmps46
  go_wp2_with fail
  go_ret
  exact ⟨by simp, HBW.out⟩
end Go.Proofs.YtgjblmlibhppiaaGreatDoor
