import Derived.Test.YtfchnfnifpopnaaGreatDoorMa20
namespace Go.Proofs.YtfchnfnifpopnaaGreatDoor
open Go.RowKit
def namesI : Ty → List ByteArray
 | .mk k t _ ps fs _ => if k = 22 then [t] else (ps.attach.mapIdx fun i ⟨p, _⟩ => if (k == 21 && i == 1) then [] else namesI p).flatten ++ (fs.attach.map fun ⟨f, _⟩ => namesI f.2.2).flatten
termination_by t => SizeOf.sizeOf t
decreasing_by
 ·exact ty_lt_p ‹_›
 ·exact ty_lt_f ‹_›
def namesP (k : Int) : Nat → List Ty → List ByteArray
 | _, [] => []
 | i, p :: l => (if (k == 21 && i == 1) then [] else namesI p) ++ namesP k (i + 1) l
def namesF (l : List (ByteArray × Int × Ty)) : List ByteArray := (l.map fun f => namesI f.2.2).flatten
theorem flat_mapIdx {α : Type} (k : Int) (g : α → Ty) : ∀ (l : List α) (j : Nat), (l.mapIdx fun i p => if (k == 21 && (i + j) == 1) then [] else namesI (g p)).flatten = namesP k j (l.map g)
 | [], _ => rfl
 | a :: l, j => by
  rw [List.mapIdx_cons, List.flatten_cons, List.map_cons, namesP, ← flat_mapIdx k g l (j + 1)]
  simp only [Nat.zero_add, Nat.add_assoc, Nat.add_comm 1 j]
theorem namesI_mk (k t n ps fs vs) : namesI (.mk k t n ps fs vs) = if k = 22 then [t] else namesP k 0 ps ++ namesF fs := by
 rw [namesI]
 have h := flat_mapIdx k (fun p : {x // x ∈ ps} => p.1) ps.attach 0
 simp only [Nat.add_zero] at h
 rw [h]
 unfold namesF
 simp only [List.map_attach_eq_pmap, List.pmap_eq_map, List.map_id']
theorem namesP_drop {k : Int} {ps : List Ty} {i : Nat} (h : i < ps.length) : namesP k i (ps.drop i) = (if (k == 21 && i == 1) then [] else namesI ps[i]) ++ namesP k (i + 1) (ps.drop (i + 1)) := by
 rw [List.drop_eq_getElem_cons h, namesP]
theorem namesF_drop {fs : List (ByteArray × Int × Ty)} {i : Nat} (h : i < fs.length) : namesF (fs.drop i) = namesI fs[i].2.2 ++ namesF (fs.drop (i + 1)) := by
 rw [List.drop_eq_getElem_cons h, namesF, List.map_cons, List.flatten_cons]; rfl
theorem infPs_names (k : Int) : ∀ (ps : List Ty) (i : Nat), (∀ p ∈ ps, (infT p = true ↔ namesI p ≠ [])) → (infPs k i ps = true ↔ namesP k i ps ≠ [])
 | [], _, _ => by simp [infPs, namesP]
 | p :: l, i, h => by
  rw [infPs, namesP, Bool.or_eq_true, infPs_names k l (i + 1) fun q hq => h q (List.mem_cons_of_mem _ hq), Bool.and_eq_true, h p List.mem_cons_self]
  cases hq : (k == 21 && i == 1) <;> simp only [Bool.not_false, Bool.not_true, Bool.false_eq_true, if_false, if_true, ne_eq, List.append_eq_nil_iff, List.nil_append, true_and, false_and, false_or, not_and] <;> (try by_cases e : namesI p = [] <;> simp [e])
theorem infT_names (t : Ty) : infT t = true ↔ namesI t ≠ [] := by
 refine Ty.ind (C := fun t => infT t = true ↔ namesI t ≠ []) (fun k t n ps fs vs hp hf _ => ?_) t
 rw [infT_mk, namesI_mk]
 by_cases hk : k = 22
 ·rw [if_pos hk, hk]; simp
 ·rw [if_neg hk]
  have e : (k == 22) = false := by simpa using hk
  rw [e, Bool.false_or, Bool.or_eq_true, infPs_names k ps 0 hp]
  have hF : infFs fs = true ↔ namesF fs ≠ [] := by
   unfold infFs namesF
   rw [List.any_eq_true, ne_eq, List.flatten_eq_nil_iff]
   constructor
   ·rintro ⟨f, hm, h⟩ hn
    exact (hf f hm).1 h (hn _ (List.mem_map_of_mem hm))
   ·intro h
    apply Classical.byContradiction
    intro hn
    refine h fun l hl => ?_
    obtain ⟨f, hm, rfl⟩ := List.mem_map.1 hl
    apply Classical.byContradiction
    intro hne
    exact hn ⟨f, hm, (hf f hm).2 hne⟩
  rw [hF, ne_eq, ne_eq, ne_eq, List.append_eq_nil_iff]
  by_cases e1 : namesP k 0 ps = [] <;> simp [e1]
structure InfSt (w0 : World) (w : World) (v : Value) (l N : List ByteArray) (v' : Value) (w' : World) (l' : List ByteArray) : Prop where
 own : OutS w0.heap.size w' v' l'
 asc : AscS l'
 mem : ∀ x, x ∈ l' ↔ x ∈ l ∨ x ∈ N
 len : l'.length ≤ l.length + N.length
 low : Below w0.heap.size w0 w'
 big : w.heap.size ≤ w'.heap.size
 fr : Fr v w v' w'
theorem InfSt.step {w0 w w1 w2 : World} {v v1 v2 : Value} {l N M l1 l2 : List ByteArray} (h : InfSt w0 w v l N v1 w1 l1) (h' : InfSt w0 w1 v1 l1 M v2 w2 l2) : InfSt w0 w v l (N ++ M) v2 w2 l2 := by
 refine ⟨h'.own, h'.asc, fun x => ?_, ?_, h'.low, Nat.le_trans h.big h'.big, h.fr.trans h'.fr h.big⟩
 ·rw [h'.mem, h.mem, List.mem_append, or_assoc]
 ·have := h.len; have := h'.len; rw [List.length_append]; omega
theorem InfSt.from {w0 wb w w' : World} {v v' : Value} {l N l' : List ByteArray} (h : InfSt w0 w v l N v' w' l') (hb : Below wb.heap.size wb w) : InfSt w0 wb v l N v' w' l' :=
 ⟨h.own, h.asc, h.mem, h.len, h.low, Nat.le_trans hb.size h.big, h.fr.world hb⟩
def InfR (t : Ty) : Prop := ∀ (K : Nat → Prop) (w0 w : World) (cs : List Value) (v : Value) (l : List ByteArray), RepT K w0 t cs → Below w0.heap.size w0 w → OutS w0.heap.size w v l → AscS l → l.length + (namesI t).length ≤ 1099511627776 →
 Calls Tryz.prog 40 #[.agg cs.toArray, v] w fun e w' => ∃ v' l', e = .returned v' ∧ InfSt w0 w v l (namesI t) v' w' l'
set_option maxRecDepth 100000 in
set_option maxHeartbeats 16000000 in
theorem infers_step (k : Int) (s : ByteArray) (n : Int) (ps : List Ty) (fs : List (ByteArray × Int × Ty)) (vs : List (ByteArray × List Ty)) (hp : ∀ p ∈ ps, InfR p) (hf : ∀ f ∈ fs, InfR f.2.2) : InfR (.mk k s n ps fs vs) := by
 intro K w0 w cs v l ht hb hO hA hbd
 obtain ⟨Ap, cp, Af, cf, Av, cv, rfl, -, hLp, hLf, -⟩ := ht.inv
 have hlp := hLp.short
 have hlf := hLf.shortF
 obtain ⟨As, c, rfl, -⟩ := hO.list (by omega)
 have HB1 := Lib.hid (hb.alloc hb.size (.cells (cells6T k s n Ap ps.length cp Af fs.length cf Av vs.length cv).toArray 26))
 have HBW : Hid (Below w.heap.size w (w.alloc (.cells (cells6T k s n Ap ps.length cp Af fs.length cf Av vs.length cv).toArray 26))) := Lib.hid ((Below.refl _ _).alloc (Nat.le_refl _) _)
 have HO1 := Lib.hid (hO.later HBW.out)
 have HLT := Lib.hid fun b (h : (Value.slice As l.length c).ownBlock = some b) => (hO.lt b h)
 have HC := Lib.hid (cellsT_new w (cells6T k s n Ap ps.length cp Af fs.length cf Av vs.length cv) 26)
 have x0 : (w.alloc (.cells (cells6T k s n Ap ps.length cp Af fs.length cf Av vs.length cv).toArray 26)).cell? ⟨w.heap.size, 0, none⟩ = some (.int .i64 k) := HC.out 0 _ rfl
 have x1 : (w.alloc (.cells (cells6T k s n Ap ps.length cp Af fs.length cf Av vs.length cv).toArray 26)).cell? ⟨w.heap.size, 1, none⟩ = some (.string s) := HC.out 1 _ rfl
 have x3 : (w.alloc (.cells (cells6T k s n Ap ps.length cp Af fs.length cf Av vs.length cv).toArray 26)).cell? ⟨w.heap.size, 3, none⟩ = some (.slice Ap ps.length cp) := HC.out 3 _ rfl
 have x4 : (w.alloc (.cells (cells6T k s n Ap ps.length cp Af fs.length cf Av vs.length cv).toArray 26)).cell? ⟨w.heap.size, 4, none⟩ = some (.slice Af fs.length cf) := HC.out 4 _ rfl
 have HA := Lib.hid hA
 have HN := Lib.hid (namesI_mk k s n ps fs vs)
 have HBD := Lib.hid hbd
 by_cases hk : k = 22
 ·subst hk
  have HN22 : Hid (namesI (.mk 22 s n ps fs vs) = [s]) := Lib.hid (by rw [HN.out, if_pos rfl])
  have KA := Lib.hid (add_ref (s := s) HO1.out hA HB1.out.size (by rw [HN.out, if_pos rfl] at hbd; simpa using hbd))
  clear ht hb hO hA hbd hLp hLf hp hf
  go_enter Tryz.func40, Tryz.ntmps40
  go_wp2_with fail
  refine KA.out.mono ?_
  rintro e w2 ⟨v2, l2, rfl, o2, a2, m2, n2, b2, f2⟩
  go_wp2_with fail
  go_ret
  refine ⟨_, _, rfl, InfSt.from ⟨o2, a2, fun x => ?_, ?_, HB1.out.trans b2, b2.size, f2⟩ HBW.out⟩
  ·rw [m2, HN22.out, List.mem_singleton, or_comm]
  ·rw [HN22.out]; exact n2
 ·have te : (k == 22) = false := by simpa using hk
  have HNN : Hid (namesI (.mk k s n ps fs vs) = namesP k 0 ps ++ namesF fs) := Lib.hid (by rw [HN.out, if_neg hk])
  have HP := Lib.hid hp
  have HF := Lib.hid hf
  have HLP := Lib.hid hLp
  have HLF := Lib.hid hLf
  have HLV : Hid ((Value.slice As l.length c).ownBlock ≠ some w.heap.size) := Lib.hid fun e => by have := (HLT.out _ e).2; omega
  have HX : Hid (∀ v2 w2, Fr (.slice As l.length c) (w.alloc (.cells (cells6T k s n Ap ps.length cp Af fs.length cf Av vs.length cv).toArray 26)) v2 w2 → w2.cell? ⟨w.heap.size, 0, none⟩ = some (.int .i64 k) ∧ w2.cell? ⟨w.heap.size, 3, none⟩ = some (.slice Ap ps.length cp) ∧ w2.cell? ⟨w.heap.size, 4, none⟩ = some (.slice Af fs.length cf)) := Lib.hid fun v2 w2 h => by
   have e := h.keep w.heap.size (by simp) HLV.out
   exact ⟨(World.cell?_of_block e).trans x0, (World.cell?_of_block e).trans x3, (World.cell?_of_block e).trans x4⟩
  have HST0 : Hid (InfSt w0 (w.alloc (.cells (cells6T k s n Ap ps.length cp Af fs.length cf Av vs.length cv).toArray 26)) (.slice As l.length c) l [] (.slice As l.length c) (w.alloc (.cells (cells6T k s n Ap ps.length cp Af fs.length cf Av vs.length cv).toArray 26)) l) := Lib.hid ⟨HO1.out, HA.out, fun x => by simp, by simp, HB1.out, Nat.le_refl _, Fr.refl _ _⟩
  clear ht hb hO hA hbd hLp hLf hp hf hk
  go_enter Tryz.func40, Tryz.ntmps40
  go_wp2_with fail
  have HW1 : Hid ((w.alloc (.cells (cells6T k s n Ap ps.length cp Af fs.length cf Av vs.length cv).toArray 26)).heap.size = w.heap.size + 1) := Lib.hid (by simp)
  generalize (w.alloc (.cells (cells6T k s n Ap ps.length cp Af fs.length cf Av vs.length cv).toArray 26)) = w1 at *
  go_loopw [1, 5] (fun ov iv wr => ∃ (i : Nat) (N l1 : List ByteArray), i ≤ ps.length ∧ iv = .int .i64 i ∧ N ++ namesP k i (ps.drop i) = namesP k 0 ps ∧ InfSt w0 w1 (.slice As l.length c) l N ov wr l1) (fun _ v _ => ps.length - (intOf v).toNat)
  case atStart => exact ⟨0, [], l, by omega, rfl, by rw [List.drop_zero]; rfl, HST0.out⟩
  case round =>
   obtain ⟨i, N, l1, hi, rfl, he, hst⟩ := hrel
   have HST := Lib.hid hst
   have HE := Lib.hid he
   have HNL : Hid (N.length + (namesP k i (ps.drop i)).length = (namesP k 0 ps).length) := Lib.hid (by rw [← he, List.length_append])
   obtain ⟨z0, z3, z4⟩ := HX.out _ _ hst.fr
   have HLN : Hid (l1.length + (namesP k i (ps.drop i)).length + (namesF fs).length ≤ 1099511627776) := Lib.hid (by
    have h1 := hst.len
    have h2 := HBD.out
    rw [HNN.out, List.length_append] at h2
    have h3 := HNL.out
    omega)
   obtain ⟨A1, c1, rfl, -⟩ := hst.own.list (by have := HLN.out; omega)
   clear hst he
   by_cases hin : i < ps.length
   ·have t1 : decide ((i : Int) < (ps.length : Int)) = true := by simp; omega
    have wr2 : wrap64 ((i : Int) + 1) = ((i + 1 : Nat) : Int) := wrap_one (by omega)
    have HM := Lib.hid (measI hin)
    obtain ⟨b, o, hAA, _, hat⟩ := HLP.out.at (by omega)
    have hti := hat i hin
    have hpi := HP.out _ (List.getElem_mem hin)
    have HSP0 := Lib.hid (namesP_drop (k := k) hin)
    have HIn : Hid (i + 1 ≤ ps.length) := Lib.hid hin
    subst hAA
    generalize ps[i] = t at hti hpi HSP0
    obtain ⟨cs, hcs, hrep⟩ := hti
    obtain ⟨k2, s2, n2, ps2, fs2, vs2⟩ := t
    have KI : Hid ((k == 21 && i == 1) = false → Calls Tryz.prog 40 #[.agg cs.toArray, .slice A1 l1.length c1] wr _) := Lib.hid fun hq => hpi K w0 wr cs _ l1 hrep HST.out.low HST.out.own HST.out.asc (by
     have h1 := HLN.out
     rw [HSP0.out, hq, if_neg (by decide), List.length_append] at h1
     omega)
    obtain ⟨Aq, cq, Ag, cg, Ah, ch, rfl, -⟩ := hrep.inv
    have y0 := cell_stays HST.out.low (hcs 0 _ rfl)
    have y1 := cell_stays HST.out.low (hcs 1 _ rfl)
    have y2 := cell_stays HST.out.low (hcs 2 _ rfl)
    have y3 := cell_stays HST.out.low (hcs 3 _ rfl)
    have y4 := cell_stays HST.out.low (hcs 4 _ rfl)
    have y5 := cell_stays HST.out.low (hcs 5 _ rfl)
    rw [Nat.add_zero] at y0
    simp only [cells6T] at KI
    clear hi hat hpi hcs hrep
    by_cases h21 : k = 21
    ·have b21 : (k != 21) = false := by simpa using h21
     have E21 : Hid ((k == 21) = true) := Lib.hid (by simpa using h21)
     clear h21
     by_cases h1 : i = 1
     ·have b1 : ((i : Int) != 1) = false := by subst h1; rfl
      have HQ : Hid ((k == 21 && i == 1) = true) := Lib.hid (by rw [E21.out, h1]; rfl)
      clear KI h1
      go_wp2_with fail
      refine ⟨⟨i + 1, N, l1, HIn.out, by first | rfl | rw [wr2], ?p1, HST.out⟩, ?p3⟩
      case p1 => rw [← HE.out, HSP0.out, HQ.out, if_pos rfl]; rfl
      case p3 => first | exact HM.out | (rw [wr2]; exact HM.out)
     ·have b1 : ((i : Int) != 1) = true := by simp; omega
      have HQ : Hid ((k == 21 && i == 1) = false) := Lib.hid (by rw [E21.out]; simpa using h1)
      have HSP : Hid (N ++ namesP k i (ps.drop i) = namesP k 0 ps) := HE
      rw [HSP0.out] at HSP
      replace KI := Lib.hid (KI.out HQ.out)
      clear h1
      go_wp2_with fail
      refine (KI.out).mono ?_
      rintro e w2 ⟨v2, l2, rfl, h2⟩
      have HS2 := Lib.hid (HST.out.step h2)
      have HF2 := Lib.hid (HX.out _ _ HS2.out.fr)
      clear h2 KI y0 y1 y2 y3 y4 y5
      go_wp2_with fail
      refine ⟨⟨i + 1, _, l2, HIn.out, by first | rfl | rw [wr2], ?p1, HS2.out⟩, ?p3⟩
      case p1 => rw [← HSP.out, HQ.out, if_neg (by decide), List.append_assoc]
      case p3 => first | exact HM.out | (rw [wr2]; exact HM.out)
    ·have b21 : (k != 21) = true := by simpa using h21
     have HQ : Hid ((k == 21 && i == 1) = false) := Lib.hid (by simp [h21])
     have HSP : Hid (N ++ namesP k i (ps.drop i) = namesP k 0 ps) := HE
     rw [HSP0.out] at HSP
     replace KI := Lib.hid (KI.out HQ.out)
     clear h21
     go_wp2_with fail
     refine (KI.out).mono ?_
     rintro e w2 ⟨v2, l2, rfl, h2⟩
     have HS2 := Lib.hid (HST.out.step h2)
     have HF2 := Lib.hid (HX.out _ _ HS2.out.fr)
     clear h2 KI y0 y1 y2 y3 y4 y5
     go_wp2_with fail
     refine ⟨⟨i + 1, _, l2, HIn.out, by first | rfl | rw [wr2], ?p1, HS2.out⟩, ?p3⟩
     case p1 => rw [← HSP.out, HQ.out, if_neg (by decide), List.append_assoc]
     case p3 => first | exact HM.out | (rw [wr2]; exact HM.out)
   ·have t1 : decide ((i : Int) < (ps.length : Int)) = false := by simp; omega
    have HE1 : Hid (N = namesP k 0 ps) := Lib.hid (by rw [← HE.out, List.drop_eq_nil_of_le (by omega), namesP, List.append_nil])
    clear hi
    go_wp2_with fail
    go_loopw [1, 6] (fun ov iv wx => ∃ (i : Nat) (N l1 : List ByteArray), i ≤ fs.length ∧ iv = .int .i64 i ∧ N ++ namesF (fs.drop i) = namesP k 0 ps ++ namesF fs ∧ InfSt w0 w1 (.slice As l.length c) l N ov wx l1) (fun _ v _ => fs.length - (intOf v).toNat)
    case atStart => exact ⟨0, N, l1, by omega, rfl, by rw [List.drop_zero, HE1.out], HST.out⟩
    case round =>
     clear z0 z3 z4 HST HLN
     obtain ⟨i, N, l1, hi, rfl, he, hst⟩ := hrel
     have HST := Lib.hid hst
     have HE := Lib.hid he
     obtain ⟨z0, z3, z4⟩ := HX.out _ _ hst.fr
     have HLN : Hid (l1.length + (namesF (fs.drop i)).length ≤ 1099511627776) := Lib.hid (by
      have h1 := hst.len
      have h2 := HBD.out
      rw [HNN.out, ← he, List.length_append] at h2
      omega)
     obtain ⟨A1, c1, rfl, -⟩ := hst.own.list (by have := HLN.out; omega)
     clear hst he
     by_cases hin : i < fs.length
     ·have t1 : decide ((i : Int) < (fs.length : Int)) = true := by simp; omega
      have wr2 : wrap64 ((i : Int) + 1) = ((i + 1 : Nat) : Int) := wrap_one (by omega)
      have HM := Lib.hid (measI hin)
      obtain ⟨b, o, hAA, _, hat⟩ := HLF.out.at (by omega)
      have hti := (hat i hin).2.2.2
      have hpi := HF.out _ (List.getElem_mem hin)
      have HSP0 := Lib.hid (namesF_drop hin)
      have HIn : Hid (i + 1 ≤ fs.length) := Lib.hid hin
      subst hAA
      generalize fs[i].2.2 = t at hti hpi HSP0
      obtain ⟨cs, hcs, hrep⟩ := hti
      obtain ⟨k2, s2, n2, ps2, fs2, vs2⟩ := t
      have KI := Lib.hid (hpi K w0 _ cs _ l1 hrep HST.out.low HST.out.own HST.out.asc (by
       have h1 := HLN.out
       rw [HSP0.out, List.length_append] at h1
       omega))
      have HSP : Hid (N ++ namesF (fs.drop i) = namesP k 0 ps ++ namesF fs) := HE
      rw [HSP0.out] at HSP
      obtain ⟨Aq, cq, Ag, cg, Ah, ch, rfl, -⟩ := hrep.inv
      have y0 := cell_stays HST.out.low (hcs 0 _ rfl)
      have y1 := cell_stays HST.out.low (hcs 1 _ rfl)
      have y2 := cell_stays HST.out.low (hcs 2 _ rfl)
      have y3 := cell_stays HST.out.low (hcs 3 _ rfl)
      have y4 := cell_stays HST.out.low (hcs 4 _ rfl)
      have y5 := cell_stays HST.out.low (hcs 5 _ rfl)
      rw [Nat.add_zero] at y0
      simp only [cells6T] at KI
      clear hi hat hpi hcs hrep
      go_wp2_with fail
      refine (KI.out).mono ?_
      rintro e w2 ⟨v2, l2, rfl, h2⟩
      have HS2 := Lib.hid (HST.out.step h2)
      have HF2 := Lib.hid (HX.out _ _ HS2.out.fr)
      clear h2 KI y0 y1 y2 y3 y4 y5
      go_wp2_with fail
      refine ⟨⟨i + 1, _, l2, HIn.out, by first | rfl | rw [wr2], ?p1, HS2.out⟩, ?p3⟩
      case p1 => rw [← HSP.out, List.append_assoc]
      case p3 => first | exact HM.out | (rw [wr2]; exact HM.out)
     ·have t1 : decide ((i : Int) < (fs.length : Int)) = false := by simp; omega
      have HE1 : Hid (N = namesP k 0 ps ++ namesF fs) := Lib.hid (by rw [← HE.out, List.drop_eq_nil_of_le (by omega)]; simp [namesF])
      clear hi
      go_wp2_with fail
      go_ret
      refine ⟨.slice A1 l1.length c1, l1, rfl, ?_⟩
      rw [HNN.out, ← HE1.out]
      exact InfSt.from HST.out HBW.out
theorem infers_ref (t : Ty) : InfR t := Ty.ind (C := InfR) (fun k s n ps fs vs hp hf _ => infers_step k s n ps fs vs hp hf) t
def besT (k : Int) (l : List Ty) : List Ty := tyK k :: l.filter fun t => !(t.k == k) && infT t
theorem besT_take {k : Int} {l : List Ty} {i : Nat} (h : i < l.length) : besT k (l.take (i + 1)) = besT k (l.take i) ++ (if !(l[i].k == k) && infT l[i] then [l[i]] else []) := by
 unfold besT
 rw [List.take_succ_eq_append_getElem h, List.filter_append, List.cons_append]
 congr 2
 simp only [List.filter_cons, List.filter_nil]
theorem besT_len (k : Int) (l : List Ty) : (besT k l).length ≤ l.length + 1 := by
 unfold besT
 have := List.length_filter_le (fun t => !(t.k == k) && infT t) l
 simp only [List.length_cons]; omega
structure SrcT (K : Nat → Prop) (w0 w : World) (A : Option Addr) (l : List Ty) : Prop where
 ex : ∃ b, (0 < l.length → A = some ⟨b, 0, none⟩) ∧ l.length ≤ 1099511627776 ∧ ∀ i (h : i < l.length), ∃ cs, RepT K w0 l[i] cs ∧ ∀ j u, cs[j]? = some u → w.cell? ⟨b, i * 6 + j, none⟩ = some u
theorem OutT.src {K : Nat → Prop} {w0 w : World} {v : Value} {l : List Ty} (h : OutT K w0 w v l) (hl : l.length ≤ 1099511627776) : ∃ A c, v = .slice A l.length c ∧ SrcT K w0 w A l := by
 rcases InT.of_out h with ⟨rfl, rfl⟩ | ⟨g, c, rfl, -, hi⟩
 ·exact ⟨none, 0, rfl, ⟨0, fun h => absurd h (by simp), by simp, fun i h => absurd h (by simp)⟩⟩
 ·exact ⟨_, _, rfl, ⟨g, fun _ => rfl, hl, fun i h => hi.reps i _ (List.getElem?_eq_getElem h)⟩⟩
theorem OutT.back {K : Nat → Prop} {w0 w w' : World} {v : Value} {l : List Ty} (hK : ∀ b, K b → b < w0.heap.size) (hb : Below w0.heap.size w0 w) (h : OutT K w w' v l) : OutT K w0 w' v l := by
 obtain ⟨vs, h1, h2⟩ := h
 refine ⟨vs, ⟨h1.1, ?_⟩, fun i hi => ?_⟩
 ·rcases h1.2 with h3 | ⟨g, cap, cur, hv, hg, r⟩
  ·exact .inl h3
  ·exact .inr ⟨g, cap, cur, hv, Nat.le_trans hb.size hg, r⟩
 ·obtain ⟨cs, h3, h4⟩ := h2 i hi
  exact ⟨cs, RepT.keep (fun _ h => h) (fun b o v hb2 hc => (hb.cell (hK b hb2)).symm.trans hc) _ cs h3, h4⟩
theorem rep_kind (K : Nat → Prop) (w : World) (k : Int) : RepT K w (tyK k) [.int .i64 k, .string ⟨#[]⟩, .int .i64 0, .slice none 0 0, .slice none 0 0, .slice none 0 0] :=
 RepT.of (ps := []) (fs := []) (vs := []) (by show (0 : Nat) ≤ _; omega) ⟨0, 0, ⟨Nat.le_refl _, Nat.zero_le _, fun _ => rfl, fun h => absurd h (Nat.lt_irrefl 0)⟩, fun i h => absurd h (Nat.not_lt_zero i)⟩ ⟨0, 0, ⟨Nat.le_refl _, Nat.zero_le _, fun _ => rfl, fun h => absurd h (Nat.lt_irrefl 0)⟩, fun i h => absurd h (Nat.not_lt_zero i)⟩ ⟨0, 0, ⟨Nat.le_refl _, Nat.zero_le _, fun _ => rfl, fun h => absurd h (Nat.lt_irrefl 0)⟩, fun i h => absurd h (Nat.not_lt_zero i)⟩
theorem OutT.one {K : Nat → Prop} {w0 w : World} (k : Int) (hb : w0.heap.size ≤ w.heap.size) : OutT K w0 (w.alloc (.cells #[.int .i64 k, .string ⟨#[]⟩, .int .i64 0, .slice none 0 0, .slice none 0 0, .slice none 0 0] 26)) (.slice (some ⟨w.heap.size, 0, none⟩) 1 1) [tyK k] := by
 refine InT.out (ts := [tyK k]) ⟨Nat.le_refl _, by decide, ⟨_, heap_alloc_new w _, rfl⟩, fun i t hi => ?_⟩ hb
 rcases i with _ | i
 ·injection hi with hi
  subst hi
  refine ⟨_, rep_kind K w0 k, fun j u hj => ?_⟩
  rw [cell_of_row _ _ _ _ _ _ (heap_alloc_new w _)]
  simpa using hj
 ·exact absurd hi (by simp)
theorem OutT.later {K : Nat → Prop} {w0 w w' : World} {v : Value} {l : List Ty} (h : OutT K w0 w v l) (hb : Below w.heap.size w w') : OutT K w0 w' v l :=
 h.keep fun b hv => hb.block b (by obtain ⟨vs, h1, -⟩ := h; exact (h1.lt b hv).2)
theorem OutS.nil (B : Nat) (w : World) : OutS B w (.slice none 0 0) [] := World.ownsRow_nil _ _ _ _
set_option maxRecDepth 100000 in
set_option maxHeartbeats 16000000 in
theorem beside_ref {K : Nat → Prop} {w0 w : World} {l : List Ty} {A : Option Addr} {c : Nat} (k : Int) (hK : ∀ b, K b → b < w0.heap.size) (hb : Below w0.heap.size w0 w) (hS : SrcT K w0 w A l) (hn : ∀ t ∈ l, (namesI t).length ≤ 1099511627776) (hl : l.length + 1 ≤ 1099511627776) :
  Calls Tryz.prog 22 #[.slice A l.length c, .int .i64 k] w fun e w' => ∃ v', e = .returned v' ∧ OutT K w0 w' v' (besT k l) ∧ Below w.heap.size w w' := by
 obtain ⟨b, hA, _, hat⟩ := hS
 have HAT := Lib.hid hat
 have HAA := Lib.hid hA
 have HN := Lib.hid hn
 have HB := Lib.hid hb
 have HL := Lib.hid hl
 have HK := Lib.hid hK
 clear hat hA hn hb hK
 go_enter Tryz.func22, Tryz.ntmps22
 go_wp2_with fail
 have HST0 := Lib.hid (OutT.one (K := K) (w := w) (w0 := w) k (Nat.le_refl _))
 have HBW : Hid (Below w.heap.size w (w.alloc (.cells #[.int .i64 k, .string ⟨#[]⟩, .int .i64 0, .slice none 0 0, .slice none 0 0, .slice none 0 0] 26))) := Lib.hid ((Below.refl _ _).alloc (Nat.le_refl _) _)
 obtain ⟨i0, hi0, hz0, hz1, hz2⟩ := partsT infoTy
 generalize w.alloc (.cells #[.int .i64 k, .string ⟨#[]⟩, .int .i64 0, .slice none 0 0, .slice none 0 0, .slice none 0 0] 26) = w1 at *
 go_loopw [5, 6] (fun ov iv wr => ∃ (i : Nat) (acc : List Ty), i ≤ l.length ∧ iv = .int .i64 i ∧ acc = besT k (l.take i) ∧ OutT K w wr ov acc ∧ Below w.heap.size w wr) (fun _ v _ => l.length - (intOf v).toNat)
 case atStart => exact ⟨0, [tyK k], by omega, rfl, by simp [besT], HST0.out, HBW.out⟩
 case round =>
  obtain ⟨i, acc, hi, rfl, hacc, ho, hb⟩ := hrel
  have HAcc := Lib.hid hacc
  have HAL : Hid (acc.length ≤ i + 1) := Lib.hid (by rw [hacc]; exact Nat.le_trans (besT_len _ _) (by simp; omega))
  clear hacc
  have HR := Lib.hid (And.intro ho hb)
  obtain ⟨vs, hvs, -⟩ := ho
  obtain ⟨A1, c1, rfl, -⟩ := sliceT hvs
  clear hvs hb
  by_cases hin : i < l.length
  ·have t1 : decide ((i : Int) < (l.length : Int)) = true := by simp; omega
   have wr2 : wrap64 ((i : Int) + 1) = ((i + 1 : Nat) : Int) := wrap_one (by omega)
   have HM := Lib.hid (measI hin)
   have hA2 := HAA.out (by omega)
   obtain ⟨cs, hrep, hcs⟩ := HAT.out i hin
   have HBT := Lib.hid (besT_take (k := k) hin)
   have hnt := HN.out _ (List.getElem_mem hin)
   subst hA2
   generalize l[i] = t at hrep HBT hnt
   have HIN := Lib.hid (infT_names t)
   obtain ⟨k2, s2, n2, ps2, fs2, vs2⟩ := t
   have KI := Lib.hid (infers_ref (.mk k2 s2 n2 ps2 fs2 vs2) K wr wr cs (.slice none 0 0) [] ((hrep.later HB.out).later HR.out.2) (Below.refl _ _) (OutS.nil _ _) List.Pairwise.nil (by simpa using hnt))
   have HREP := Lib.hid (hrep.later HB.out)
   obtain ⟨Aq, cq, Ag, cg, Ah, ch, rfl, -⟩ := hrep.inv
   have HIn : Hid (i + 1 ≤ l.length) := Lib.hid hin
   have HY : Hid (∀ wx, Below w.heap.size w wx → wx.cell? ⟨b, i * 6, none⟩ = some (.int .i64 k2) ∧ wx.cell? ⟨b, i * 6 + 1, none⟩ = some (.string s2) ∧ wx.cell? ⟨b, i * 6 + 2, none⟩ = some (.int .i64 n2) ∧ wx.cell? ⟨b, i * 6 + 3, none⟩ = some (.slice Aq ps2.length cq) ∧ wx.cell? ⟨b, i * 6 + 4, none⟩ = some (.slice Ag fs2.length cg) ∧ wx.cell? ⟨b, i * 6 + 5, none⟩ = some (.slice Ah vs2.length ch)) := Lib.hid fun wx hx =>
    ⟨cell_stays hx (hcs 0 _ rfl), cell_stays hx (hcs 1 _ rfl), cell_stays hx (hcs 2 _ rfl), cell_stays hx (hcs 3 _ rfl), cell_stays hx (hcs 4 _ rfl), cell_stays hx (hcs 5 _ rfl)⟩
   obtain ⟨y0, y1, y2, y3, y4, y5⟩ := HY.out _ HR.out.2
   simp only [cells6T] at KI HREP
   have HNT := Lib.hid hnt
   clear hi hcs hrep hnt
   by_cases hk : k2 = k
   ·have tk : (k2 != k) = false := by simpa using hk
    have HF : Hid ((!(Ty.k (.mk k2 s2 n2 ps2 fs2 vs2) == k) && infT (.mk k2 s2 n2 ps2 fs2 vs2)) = false) := Lib.hid (by simp [Ty.k, hk])
    clear hk KI
    go_wp2_with fail
    refine ⟨⟨i + 1, acc, HIn.out, by first | rfl | rw [wr2], ?p1, HR.out.1, HR.out.2⟩, ?p3⟩
    case p1 => rw [HBT.out, HF.out, HAcc.out]; simp
    case p3 => first | exact HM.out | (rw [wr2]; exact HM.out)
   ·have tk : (k2 != k) = true := by simpa using hk
    have HKK : Hid ((Ty.k (.mk k2 s2 n2 ps2 fs2 vs2) == k) = false) := Lib.hid (by simpa [Ty.k] using hk)
    clear hk
    go_wp2_with fail
    refine KI.out.mono ?_
    rintro e w2 ⟨v2, l2, rfl, h2⟩
    have HB2 := Lib.hid (HR.out.2.trans (h2.low.mono HR.out.2.size))
    have HO2 := Lib.hid (HR.out.1.later h2.low)
    have HL2 : Hid (infT (.mk k2 s2 n2 ps2 fs2 vs2) = decide (0 < l2.length)) := Lib.hid (by
     rw [Bool.eq_iff_iff, HIN.out, decide_eq_true_iff]
     constructor
     ·intro h
      obtain ⟨x, hx⟩ := List.exists_mem_of_ne_nil _ h
      exact List.length_pos_of_mem ((h2.mem x).2 (.inr hx))
     ·intro h e
      obtain ⟨x, hx⟩ := List.exists_mem_of_length_pos h
      rcases (h2.mem x).1 hx with h | h
      ·exact absurd h (by simp)
      ·rw [e] at h; exact absurd h (by simp))
    obtain ⟨A2, c2, rfl, -⟩ := h2.own.list (by have h3 := h2.len; have := HN.out; have h4 := HL.out; simp only [List.length_nil, Nat.zero_add] at h3; have := HNT.out; omega)
    obtain ⟨z0, z1, z2, z3, z4, z5⟩ := HY.out _ HB2.out
    clear h2 KI y0 y1 y2 y3 y4 y5
    by_cases hl2 : 0 < l2.length
    ·have t2 : decide (0 < l2.length) = true := decide_eq_true hl2
     have HF : Hid ((!(Ty.k (.mk k2 s2 n2 ps2 fs2 vs2) == k) && infT (.mk k2 s2 n2 ps2 fs2 vs2)) = true) := Lib.hid (by rw [HKK.out, HL2.out, decide_eq_true hl2]; rfl)
     obtain ⟨vs, hvs, hrs⟩ := HO2.out
     have HOw := Lib.hid (And.intro hvs hrs)
     have HC2 := Lib.hid (cellsT_new w2 [.int .i64 k2, .string s2, .int .i64 n2, .slice Aq ps2.length cq, .slice Ag fs2.length cg, .slice Ah vs2.length ch] 26)
     have HL1 : Hid (acc.length + 1 ≤ 1099511627776) := Lib.hid (by have := HAL.out; have := HIn.out; omega)
     clear hl2 hvs hrs
     go_wp2_with (at_builtin; refine wpList_plain rfl fun K' hK => ?_; go_loud (refine wp_append_own_at _ _ 22 rfl w.heap.size 26 i0 (.agg #[.int .i64 0, .string ⟨#[]⟩, .int .i64 0, .slice none 0 0, .slice none 0 0, .slice none 0 0]) 6 104 Tryz.underlying22 hi0 hz0 hz1 hz2 rfl (by decide) _ _ _ rfl (HOw.out.1.alloc _) ⟨w2.heap.size, 0, none⟩ 1 1 [.int .i64 k2, .string s2, .int .i64 n2, .slice Aq ps2.length cq, .slice Ag fs2.length cg, .slice Ah vs2.length ch] rfl rfl ?a0 ?a1 ?a2 ?a3 ?a4 ?_))
     case a0 => exact HC2.out
     case a1 =>
      intro u hu
      simp only [List.mem_cons, List.not_mem_nil, or_false] at hu
      rcases hu with rfl | rfl | rfl | rfl | rfl | rfl <;> rfl
     case a2 => have := HL1.out; unfold maxLen; omega
     case a3 => have := HL1.out; omega
     case a4 => have := HB2.out.size; simp only [World.size_alloc]; omega
     intro v5 w5 hown5 hg5 _ _
     refine hK _ _ ?_
     clear hK K'
     have HR5 := Lib.hid (out_push2 HB2.out HOw.out.1 HOw.out.2 HREP.out hown5 hg5)
     clear hown5 hg5 z0 z1 z2 z3 z4 z5
     go_wp2_with fail
     refine ⟨⟨i + 1, _, HIn.out, by first | rfl | rw [wr2], ?p1, HR5.out.1, HR5.out.2⟩, ?p3⟩
     case p1 => rw [HBT.out, HF.out, if_pos rfl, HAcc.out]
     case p3 => first | exact HM.out | (rw [wr2]; exact HM.out)
    ·have t2 : decide (0 < l2.length) = false := decide_eq_false hl2
     have HF : Hid ((!(Ty.k (.mk k2 s2 n2 ps2 fs2 vs2) == k) && infT (.mk k2 s2 n2 ps2 fs2 vs2)) = false) := Lib.hid (by rw [HKK.out, HL2.out, decide_eq_false hl2]; rfl)
     clear hl2
     go_wp2_with fail
     refine ⟨⟨i + 1, acc, HIn.out, by first | rfl | rw [wr2], ?p1, HO2.out, HB2.out⟩, ?p3⟩
     case p1 => rw [HBT.out, HF.out, HAcc.out]; simp
     case p3 => first | exact HM.out | (rw [wr2]; exact HM.out)
  ·have t1 : decide ((i : Int) < (l.length : Int)) = false := by simp; omega
   have HE : Hid (l.take i = l) := Lib.hid (List.take_of_length_le (by omega))
   clear hi
   go_wp2_with fail
   go_ret
   have h2 := HAcc.out
   rw [HE.out] at h2
   rw [← h2]
   exact ⟨.slice A1 acc.length c1, rfl, OutT.back HK.out HB.out HR.out.1, HR.out.2⟩
def allR (l : List Ty) : List Ty := if hasK 3 (nonN l) then besT 3 (nonN l) else if hasK 2 (nonN l) then besT 2 (nonN l) else nonN l
def dropR (n s : Bool) (t : Ty) : Bool := t.k == 9 && n || t.k == 10 && s
def keptR (l : List Ty) : List Ty := (allR l).filter fun t => !dropR (hasK 7 (allR l)) (hasK 8 (allR l)) t
theorem hasK_iff {k : Int} {l : List Ty} : hasK k l = true ↔ ∃ t ∈ l, t.k = k := by
 unfold hasK; rw [List.any_eq_true]
 exact ⟨fun ⟨t, h, e⟩ => ⟨t, h, by simpa using e⟩, fun ⟨t, h, e⟩ => ⟨t, h, by simpa using e⟩⟩
theorem mem_nonN {l : List Ty} {t : Ty} : t ∈ nonN l ↔ t ∈ flatU l ∧ t.k ≠ 1 := by
 unfold nonN; rw [List.mem_filter]; simp
theorem hasK_nonN {l : List Ty} {k : Int} (hk : k ≠ 1) : hasK k (nonN l) = hasK k (flatU l) := by
 rw [Bool.eq_iff_iff, hasK_iff, hasK_iff]
 exact ⟨fun ⟨t, h, e⟩ => ⟨t, (mem_nonN.1 h).1, e⟩, fun ⟨t, h, e⟩ => ⟨t, mem_nonN.2 ⟨h, by rw [e]; exact hk⟩, e⟩⟩
theorem mem_besT {k : Int} {l : List Ty} {t : Ty} : t ∈ besT k l ↔ t = tyK k ∨ (t ∈ l ∧ t.k ≠ k ∧ infT t = true) := by
 unfold besT; rw [List.mem_cons, List.mem_filter]; simp
def PlainK (l : List Ty) : Prop := ∀ t ∈ l, (t.k = 3 → t = tyK 3) ∧ (t.k = 2 → t = tyK 2) ∧ (t.k = 7 ∨ t.k = 8 ∨ t.k = 9 ∨ t.k = 10 → infT t = false)
theorem tyK_k (k : Int) : (tyK k).k = k := rfl
theorem has_of {l : List Ty} {t : Ty} (h : t ∈ l) : hasK t.k l = true := hasK_iff.2 ⟨t, h, rfl⟩
theorem keptR_mem {l : List Ty} (hP : PlainK (flatU l)) (t : Ty) : t ∈ keptR l ↔ t ∈ keptU l := by
 unfold keptR keptU
 rw [List.mem_filter, List.mem_filter]
 have n3 : hasK 3 (nonN l) = hasK 3 (flatU l) := hasK_nonN (by decide)
 have n2 : hasK 2 (nonN l) = hasK 2 (flatU l) := hasK_nonN (by decide)
 have hno : ∀ k, (k = 7 ∨ k = 8) → ∀ q, (q = 3 ∨ q = 2) → hasK k (besT q (nonN l)) = false := by
  intro k hk q hq
  rw [← Bool.not_eq_true, hasK_iff]
  rintro ⟨x, hx, e⟩
  rcases mem_besT.1 hx with rfl | ⟨h1, -, h3⟩
  ·rw [tyK_k] at e; omega
  ·rw [(hP x (mem_nonN.1 h1).1).2.2 (by omega)] at h3; exact absurd h3 (by simp)
 unfold allR
 rw [n3, n2]
 cases h3 : hasK 3 (flatU l) with
 | true =>
  simp only [if_true]
  rw [hno 7 (.inl rfl) 3 (.inl rfl), hno 8 (.inr rfl) 3 (.inl rfl), mem_besT, mem_nonN]
  obtain ⟨x, hx, ex⟩ := hasK_iff.1 h3
  have hx3 := (hP x hx).1 ex
  subst hx3
  simp only [dropR, Bool.and_false, Bool.or_false, Bool.not_false, and_true]
  unfold keepT kindsOf
  rw [h3]
  constructor
  ·rintro (rfl | ⟨⟨h1, h4⟩, h5, h6⟩)
   ·exact ⟨hx, by rw [tyK_k]; rfl⟩
   ·refine ⟨h1, ?_⟩
    rw [if_neg h4, if_neg h5]
    simp [h6]
  ·rintro ⟨h1, h2⟩
   by_cases e1 : t.k = 1
   ·rw [if_pos e1] at h2; exact absurd h2 (by simp)
   by_cases e3 : t.k = 3
   ·exact .inl ((hP t h1).1 e3)
   ·rw [if_neg e1, if_neg e3] at h2
    simp at h2
    exact .inr ⟨⟨h1, e1⟩, e3, h2⟩
 | false =>
  simp only [Bool.false_eq_true, if_false]
  have e3 : t ∈ flatU l → t.k ≠ 3 := fun h e => by have := has_of h; rw [e, h3] at this; exact absurd this (by simp)
  cases h2 : hasK 2 (flatU l) with
  | true =>
   simp only [if_true]
   rw [hno 7 (.inl rfl) 2 (.inr rfl), hno 8 (.inr rfl) 2 (.inr rfl), mem_besT, mem_nonN]
   obtain ⟨x, hx, ex⟩ := hasK_iff.1 h2
   have hx2 := (hP x hx).2.1 ex
   subst hx2
   simp only [dropR, Bool.and_false, Bool.or_false, Bool.not_false, and_true]
   unfold keepT kindsOf
   rw [h3, h2]
   constructor
   ·rintro (rfl | ⟨⟨h1, h4⟩, h5, h6⟩)
    ·exact ⟨hx, by rw [tyK_k]; rfl⟩
    ·refine ⟨h1, ?_⟩
     rw [if_neg h4, if_neg (e3 h1)]
     simp [h5, h6]
   ·rintro ⟨h1, hk⟩
    by_cases e1 : t.k = 1
    ·rw [if_pos e1] at hk; exact absurd hk (by simp)
    by_cases e2 : t.k = 2
    ·exact .inl ((hP t h1).2.1 e2)
    ·rw [if_neg e1, if_neg (e3 h1)] at hk
     simp [e2] at hk
     exact .inr ⟨⟨h1, e1⟩, e2, hk⟩
  | false =>
   simp only [Bool.false_eq_true, if_false]
   have e2 : t ∈ flatU l → t.k ≠ 2 := fun h e => by have := has_of h; rw [e, h2] at this; exact absurd this (by simp)
   rw [hasK_nonN (by decide), hasK_nonN (by decide), mem_nonN]
   unfold keepT kindsOf dropR
   rw [h3, h2]
   constructor
   ·rintro ⟨⟨h1, h4⟩, h5⟩
    refine ⟨h1, ?_⟩
    rw [if_neg h4, if_neg (e3 h1), if_neg (by simp [e2 h1])]
    by_cases k9 : t.k = 9 <;> by_cases k10 : t.k = 10 <;> simp_all
   ·rintro ⟨h1, hk⟩
    by_cases e1 : t.k = 1
    ·rw [if_pos e1] at hk; exact absurd hk (by simp)
    rw [if_neg e1, if_neg (e3 h1), if_neg (by simp [e2 h1])] at hk
    refine ⟨⟨h1, e1⟩, ?_⟩
    by_cases k9 : t.k = 9 <;> by_cases k10 : t.k = 10 <;> simp_all
theorem unionR {l : List Ty} (hP : PlainK (flatU l)) : shutU (sortT (keptR l)) = unionT l := by
 unfold unionT
 rw [sortT_of (asc_sortT (keptU l)) fun x => by rw [mem_sortT, keptR_mem hP]]
set_option maxRecDepth 100000 in
set_option maxHeartbeats 8000000 in
theorem has_src {K : Nat → Prop} {w0 w : World} {l : List Ty} {A : Option Addr} {c : Nat} (hL : SrcT K w0 w A l) (k : Int) :
  Calls Tryz.prog 21 #[.slice A l.length c, .int .i64 k] w fun e w' => e = .returned (.bool (hasK k l)) ∧ w' = w := by
 obtain ⟨b, hAA, hll, hat0⟩ := hL
 have HAA := Lib.hid hAA
 have HAT := Lib.hid hat0
 clear hAA hat0
 go_enter Tryz.func21, Tryz.ntmps21
 go_wp2_with fail
 go_loopw [5] (fun v wr => ∃ (i : Nat), i ≤ l.length ∧ v = .int .i64 i ∧ hasK k l = hasK k (l.drop i) ∧ wr = w) (fun v _ => l.length - (intOf v).toNat)
 case atStart => exact ⟨0, by omega, rfl, by rw [List.drop_zero], rfl⟩
 case round =>
  obtain ⟨i, hi, rfl, he, rfl⟩ := hrel
  have HE := Lib.hid he
  clear he
  by_cases hin : i < l.length
  ·have t1 : decide ((i : Int) < (l.length : Int)) = true := by simp; omega
   have wr2 : wrap64 ((i : Int) + 1) = ((i + 1 : Nat) : Int) := wrap_one (by omega)
   have hA := HAA.out (by omega)
   subst hA
   obtain ⟨q, hq, hcq⟩ : ∃ q, (l[i]'hin).k = q ∧ wr.cell? ⟨b, i * 6, none⟩ = some (.int .i64 q) := by
    obtain ⟨cs, h1, h2⟩ := HAT.out i hin
    generalize l[i] = t at h1
    obtain ⟨k, s, n, ps, fs, vs⟩ := t
    obtain ⟨_, _, _, _, _, _, rfl, -⟩ := h1.inv
    exact ⟨k, rfl, h2 0 _ rfl⟩
   have HS : Hid (hasK k (l.drop i) = ((l[i]'hin).k == k || hasK k (l.drop (i + 1)))) := Lib.hid (by rw [List.drop_eq_getElem_cons hin]; rfl)
   have HM := Lib.hid (measI hin)
   have HIn : Hid (i + 1 ≤ l.length) := Lib.hid hin
   by_cases hk : q = k
   ·have HK : Hid (((l[i]'hin).k == k) = true) := Lib.hid (by rw [hq]; simpa using hk)
    have e13 : (q == k) = true := by simpa using hk
    clear hi hq hk
    go_wp2_with fail
    go_ret
    exact ⟨by rw [HE.out, HS.out, HK.out]; rfl, rfl⟩
   ·have HK : Hid (((l[i]'hin).k == k) = false) := Lib.hid (by rw [hq]; simpa using hk)
    have e13 : (q == k) = false := by simpa using hk
    clear hi hq hk
    go_wp2_with fail
    refine ⟨⟨i + 1, HIn.out, by first | rfl | rw [wr2], by rw [HE.out, HS.out, HK.out]; rfl, by first | rfl | trivial⟩, ?_⟩
    first | exact HM.out | (rw [wr2]; exact HM.out)
  ·have t1 : decide ((i : Int) < (l.length : Int)) = false := by simp; omega
   have HE1 : Hid (hasK k l = false) := Lib.hid (by rw [HE.out, List.drop_eq_nil_of_le (by omega)]; rfl)
   clear hi
   go_wp2_with fail
   go_ret
   exact ⟨by rw [HE1.out]; rfl, rfl⟩
end Go.Proofs.YtfchnfnifpopnaaGreatDoor
