import Derived.Test.YtgjblmlibhppiaaGreatDoorMy9
namespace Go.Proofs.YtgjblmlibhppiaaGreatDoor
set_option maxRecDepth 100000
set_option maxHeartbeats 64000000
open Go.RowKit
theorem each_fit {K K' : Nat → Prop} {w : World} {la lb : List Ty} {A A' : Option Addr} {c c' b : Nat} {fuel lo rows : Int} {m1 m2 : Option Nat} {asked : Value} (P : Ty → Ty → Prop) (hL : ListT K w la A c) (hM : ListT K' w lb A' c') (hlen : la.length ≤ lb.length) (hK : ∀ x, K x → x < w.heap.size ∧ x ≠ b) (hK' : ∀ x, K' x → x < w.heap.size ∧ x ≠ b) (hI : RunI b fuel lo m1 m2 asked rows w w)
  (KF : ∀ (i : Nat) (p q : Ty), la[i]? = some p → lb[i]? = some q → ∀ wx cs ds, RunI b fuel lo m1 m2 asked rows w wx → RepT K wx p cs → RepT K' wx q ds → Calls Tryz.prog 28 #[.pointer (some ⟨b, 0, none⟩), .agg cs.toArray, .agg ds.toArray] wx (FitPost b fuel lo m1 m2 asked rows wx True (P p q))) :
  Calls Tryz.prog 134 #[.pointer (some ⟨b, 0, none⟩), .slice A la.length c, .slice A' lb.length c'] w (FitPost b fuel lo m1 m2 asked rows w (la ≠ []) (∀ (i : Nat) (p q : Ty), la[i]? = some p → lb[i]? = some q → P p q)) := by
 obtain ⟨PO, hPO⟩ : ∃ PO : Ending → World → Prop, PO = FitPost b fuel lo m1 m2 asked rows w (la ≠ []) (∀ (i : Nat) (p q : Ty), la[i]? = some p → lb[i]? = some q → P p q) := ⟨_, rfl⟩
 have HYES : Hid (∀ (r : Bool) w', (r = true ↔ (∀ (i : Nat) (p q : Ty), la[i]? = some p → lb[i]? = some q → P p q)) → RunI b fuel lo m1 m2 asked rows w w' → PO (.returned (.bool r)) w') := Hd fun r w' h1 h2 => by rw [hPO]; exact .inl ⟨r, rfl, h1, h2⟩
 have HNO : Hid (∀ w', la ≠ [] → ButG (fun x => x = b) w w' → PO (.panicked [{ v := stopV, recovered := false }]) w') := Hd fun w' h1 h2 => by rw [hPO]; exact .inr ⟨rfl, h1, h2⟩
 rw [← hPO]
 have HL := Hd hL
 have HM := Hd hM
 have HLE := Hd hlen
 have HK := Hd hK
 have HK' := Hd hK'
 have HI := Hd hI
 have HF := Hd KF
 have HLN : Hid (la.length ≤ 1000000000000000) := Hd (by obtain ⟨_, _, r1, -⟩ := hL; exact r1.big)
 clear hPO hL hM hlen hK hK' hI KF
 go_enter Tryz.func134, Tryz.ntmps134
 go_wp2_with fail
 go_loopw [7, 10] (fun u v wr => ∃ i : Nat, i ≤ la.length ∧ v = .int .i64 i ∧ RunI b fuel lo m1 m2 asked rows w wr ∧ ∀ (j : Nat) (p q : Ty), j < i → la[j]? = some p → lb[j]? = some q → P p q) (fun _ v _ => la.length - (intOf v).toNat)
 case atStart => exact ⟨0, Nat.zero_le _, rfl, HI.out, fun j p q hj => absurd hj (by omega)⟩
 case round =>
  obtain ⟨i, hi, rfl, hu, hno⟩ := hrel
  have hln := HLN.out
  have HU := Hd hu
  by_cases hin : i < la.length
  ·have hin2 : i < lb.length := Nat.lt_of_lt_of_le hin HLE.out
   have t1 : decide ((i : Int) < (la.length : Int)) = true := by simp; omega
   have wr2 : wrap64 ((i : Int) + 1) = ((i + 1 : Nat) : Int) := wrap_one (by omega)
   have HMI := Hd (measI hin)
   have HIn : Hid (i + 1 ≤ la.length) := Hd hin
   have hbw : ButG (fun x => x = b) w wr := by obtain ⟨_, _, _, _, h⟩ := hu; exact h
   obtain ⟨tb, tq, hA, hKb, hat⟩ := HL.out.at (Nat.lt_of_le_of_lt (Nat.zero_le i) hin)
   subst hA
   obtain ⟨sb, sq, hA, hKb2, hat2⟩ := HM.out.at (Nat.lt_of_le_of_lt (Nat.zero_le i) hin2)
   subst hA
   obtain ⟨ds, hds, hrq⟩ := hat i hin
   obtain ⟨es, hes, hrp⟩ := hat2 i hin2
   have HKF := Hd (HF.out i _ _ (List.getElem?_eq_getElem hin) (List.getElem?_eq_getElem hin2))
   have HNE : Hid (la ≠ []) := Hd (by intro e; rw [e] at hin; simp at hin)
   have HNX : Hid (P (la[i]'hin) (lb[i]'hin2) → ∀ (j : Nat) (p q : Ty), j < i + 1 → la[j]? = some p → lb[j]? = some q → P p q) := Hd fun h j p q hj hp hq => by
    rcases Nat.lt_or_eq_of_le (Nat.le_of_lt_succ hj) with h1 | h1
    ·exact hno j p q h1 hp hq
    ·subst h1
     rw [List.getElem?_eq_getElem hin] at hp
     rw [List.getElem?_eq_getElem hin2] at hq
     injection hp with hp
     injection hq with hq
     rw [← hp, ← hq]
     exact h
   have HST : Hid (¬ P (la[i]'hin) (lb[i]'hin2) → ¬ (∀ (i : Nat) (p q : Ty), la[i]? = some p → lb[i]? = some q → P p q)) := Hd fun h hall => h (hall i _ _ (List.getElem?_eq_getElem hin) (List.getElem?_eq_getElem hin2))
   have i1 : (0 : Int) ≤ (i : Int) := by omega
   have i2 : (i : Int) < (la.length : Int) := by omega
   have i3 : (i : Int) < (lb.length : Int) := by omega
   generalize la[i]'hin = q1 at hrq HKF HNX HST
   generalize lb[i]'hin2 = q2 at hrp HKF HNX HST
   obtain ⟨k3, s3, n3, ps3, fs3, vs3⟩ := q1
   obtain ⟨A3, c3, B3, d3, C3, e3, rfl, -⟩ := hrq.inv
   obtain ⟨k4, s4, n4, ps4, fs4, vs4⟩ := q2
   obtain ⟨A4, c4, B4, d4, C4, e4, rfl, -⟩ := hrp.inv
   simp only [cells6T] at hds hrq hes hrp
   have HC : Hid (∀ wx, ButG (fun x => x = b) wr wx → (wx.cell? ⟨tb, tq + i * 6, none⟩ = some (.int .i64 k3) ∧ wx.cell? ⟨tb, tq + i * 6 + 1, none⟩ = some (.string s3) ∧ wx.cell? ⟨tb, tq + i * 6 + 2, none⟩ = some (.int .i64 n3) ∧ wx.cell? ⟨tb, tq + i * 6 + 3, none⟩ = some (.slice A3 ps3.length c3) ∧ wx.cell? ⟨tb, tq + i * 6 + 4, none⟩ = some (.slice B3 fs3.length d3) ∧ wx.cell? ⟨tb, tq + i * 6 + 5, none⟩ = some (.slice C3 vs3.length e3)) ∧ (wx.cell? ⟨sb, sq + i * 6, none⟩ = some (.int .i64 k4) ∧ wx.cell? ⟨sb, sq + i * 6 + 1, none⟩ = some (.string s4) ∧ wx.cell? ⟨sb, sq + i * 6 + 2, none⟩ = some (.int .i64 n4) ∧ wx.cell? ⟨sb, sq + i * 6 + 3, none⟩ = some (.slice A4 ps4.length c4) ∧ wx.cell? ⟨sb, sq + i * 6 + 4, none⟩ = some (.slice B4 fs4.length d4) ∧ wx.cell? ⟨sb, sq + i * 6 + 5, none⟩ = some (.slice C4 vs4.length e4))) := Hd fun wx hx => by
    have hbx := hbw.same hx
    have h1 : ∀ j v, [.int .i64 k3, .string s3, .int .i64 n3, .slice A3 ps3.length c3, .slice B3 fs3.length d3, .slice C3 vs3.length e3][j]? = some v → wx.cell? ⟨tb, tq + i * 6 + j, none⟩ = some v := fun j v h => hbx.cell (HK.out tb hKb).2 (hds j v h)
    have h2 : ∀ j v, [.int .i64 k4, .string s4, .int .i64 n4, .slice A4 ps4.length c4, .slice B4 fs4.length d4, .slice C4 vs4.length e4][j]? = some v → wx.cell? ⟨sb, sq + i * 6 + j, none⟩ = some v := fun j v h => hbx.cell (HK'.out sb hKb2).2 (hes j v h)
    exact ⟨⟨h1 0 _ rfl, h1 1 _ rfl, h1 2 _ rfl, h1 3 _ rfl, h1 4 _ rfl, h1 5 _ rfl⟩, h2 0 _ rfl, h2 1 _ rfl, h2 2 _ rfl, h2 3 _ rfl, h2 4 _ rfl, h2 5 _ rfl⟩
   have HBD : Hid (ButG (fun x => x = b) wr wr.drew) := Hd (ButG.of_below (Below.refl _ _).drew)
   have KC := Hd (HKF.out wr.drew _ _ (hu.below (Below.refl _ _).drew) (hrq.but (hbw.same HBD.out) fun x hx => ⟨(HK.out x hx).2, hx⟩) (hrp.but (hbw.same HBD.out) fun x hx => ⟨(HK'.out x hx).2, hx⟩))
   have HBW := Hd hbw
   have HKB := Hd (And.intro hKb hKb2)
   clear hi hu hno hln hat hat2 hds hes hrq hrp hbw hKb hKb2 HKF
   go_upto_region 4 with fail
   refine wp_region_held_drew (S := (fun w' => (w'.cell? ⟨tb, tq + i * 6, none⟩ = some (.int .i64 k3) ∧ w'.cell? ⟨tb, tq + i * 6 + 1, none⟩ = some (.string s3) ∧ w'.cell? ⟨tb, tq + i * 6 + 2, none⟩ = some (.int .i64 n3) ∧ w'.cell? ⟨tb, tq + i * 6 + 3, none⟩ = some (.slice A3 ps3.length c3) ∧ w'.cell? ⟨tb, tq + i * 6 + 4, none⟩ = some (.slice B3 fs3.length d3) ∧ w'.cell? ⟨tb, tq + i * 6 + 5, none⟩ = some (.slice C3 vs3.length e3)) ∧ (w'.cell? ⟨sb, sq + i * 6, none⟩ = some (.int .i64 k4) ∧ w'.cell? ⟨sb, sq + i * 6 + 1, none⟩ = some (.string s4) ∧ w'.cell? ⟨sb, sq + i * 6 + 2, none⟩ = some (.int .i64 n4) ∧ w'.cell? ⟨sb, sq + i * 6 + 3, none⟩ = some (.slice A4 ps4.length c4) ∧ w'.cell? ⟨sb, sq + i * 6 + 4, none⟩ = some (.slice B4 fs4.length d4) ∧ w'.cell? ⟨sb, sq + i * 6 + 5, none⟩ = some (.slice C4 vs4.length e4)))) (by kernel_rfl) (HC.out _ HBD.out) (fun hHeld => ?_)
   refine Plan.start [0, 1, 2, 3, 4, 5, 6, 7, 8] ?_
   iterate 9 (refine Plan.tk (so rfl) hHeld ?_; try simp only [Act.put, pz1, pz2, pz3])
   refine Plan.done ?_
   refine wpAnyH_ready (rs := [9]) (by kernel_rfl) (by simp) ?_
   refine AllReadyH.cons (sd (some 22) rfl) (fun Kx hK => ?_) AllReadyH.nil
   go_simp
   refine KC.out.mono ?_
   rintro e5 w5 (⟨r, rfl, hr5, hu5⟩ | ⟨rfl, -, hb5⟩)
   ·have HU5 : Hid (RunI b fuel lo m1 m2 asked rows w w5) := Hd (RunI.trans (HBW.out.same HBD.out) hu5 (Int.le_refl _))
    have HR5 := Hd hr5
    have HB5 : Hid (ButG (fun x => x = b) wr w5) := Hd (HBD.out.same (by obtain ⟨_, _, _, _, h⟩ := hu5; exact h))
    clear hr5 hu5 KC
    go_wp2_with fail
    refine hK.out _ _ (HC.out _ HB5.out) (fun hHeld => ?_)
    clear hK Kx
    try simp only [Act.put, pz1, pz2, pz3]
    refine Plan.start [10] ?_
    refine Plan.tk (so rfl) hHeld ?_
    try simp only [Act.put, pz1, pz2, pz3]
    refine Plan.done ?_
    refine wpAnyH_done (by kernel_rfl) ?_ _
    clear hHeld
    cases r with
    | false =>
     go_wp2_with fail
     exact HYES.out _ _ (iff_of_false (by decide) (HST.out fun h => absurd (HR5.out.2 h) (by decide))) HU5.out
    | true =>
     go_wp2_with fail
     refine ⟨⟨i + 1, HIn.out, by first | rfl | rw [wr2], HU5.out, HNX.out (HR5.out.1 (by trivial))⟩, ?_⟩
     first | exact HMI.out | (rw [wr2]; exact HMI.out)
   ·have HFIN : Hid (PO (.panicked [{ v := stopV, recovered := false }]) w5) := Hd (HNO.out _ HNE.out ((HBW.out.same HBD.out).same hb5))
    clear hb5
    go_wp2_with fail
    first | exact HFIN.out | (simp only [bodyPost]; exact ⟨trivial, HFIN.out⟩)
  ·have t1 : decide ((i : Int) < (la.length : Int)) = false := by simp; omega
   have HNL : Hid (∀ (i : Nat) (p q : Ty), la[i]? = some p → lb[i]? = some q → P p q) := Hd fun j p q hp hq => hno j p q (by have := (List.getElem?_eq_some_iff.1 hp).1; omega) hp hq
   clear hi hu hno hln
   go_wp2_with fail
   exact HYES.out _ _ (iff_of_true rfl HNL.out) HU.out
def okV (l : List (ByteArray × List Bool)) (i : Nat) : Bool := match l[i]? with
 | none => true
 | some v => nameT v.1 && decide (v.2.length ≤ 1) && v.2.all id && !((l.take i).any fun x => decide (x.1 = v.1))
def varsB (l : List (ByteArray × List Bool)) : Bool := (List.range l.length).all (okV l)
def okF (l : List (ByteArray × Int × Bool)) (i : Nat) : Bool := match l[i]? with
 | none => true
 | some f => nameT f.1 && decide (0 ≤ f.2.1) && decide (f.2.1 ≤ 3) && f.2.2 && (match i with | 0 => true | j + 1 => match l[j]? with | none => true | some p => Go.Op.bytesLess p.1.toList f.1.toList)
def fieldsB (l : List (ByteArray × Int × Bool)) : Bool := (List.range l.length).all (okF l)
def selfB (k : Int) (t : ByteArray) (n : Int) (ps : List Ty) (fo vo : Bool) : Bool :=
 if k = 9 then decide (0 ≤ n) else if k = 16 ∨ k = 22 ∨ k = 17 then nameT t else if k = 13 then vo else if k = 14 then fo else if k = 15 then isUB ps
 else if k = 20 then nameT t && decide (0 ≤ n) && decide (n ≤ 3) else if k = 21 then (n == 0 && t.toList == []) || (n == 1 && nameT t) else if k = 23 then ps.all fun p => p.k == 13 else true
def formT : Ty → Bool
 | .mk k t n ps fs vs => (shapeK k).known && fitsB (shapeK k) t n ps.length fs.length vs.length && selfB k t n ps (fieldsB (fs.attach.map fun ⟨f, _⟩ => (f.1, f.2.1, formT f.2.2))) (varsB (vs.attach.map fun ⟨v, _⟩ => (v.1, v.2.attach.map fun ⟨b, _⟩ => formT b))) && (ps.attach.map fun ⟨p, _⟩ => formT p).all id
termination_by t => SizeOf.sizeOf t
decreasing_by
 ·exact ty_lt_f ‹_›
 ·exact ty_lt_v ‹_› ‹_›
 ·exact ty_lt_p ‹_›
def fieldsT (fs : FsT) (fv : Ty → Bool) : List (ByteArray × Int × Bool) := fs.map fun f => (f.1, f.2.1, fv f.2.2)
def varsT (vs : VsT) (fv : Ty → Bool) : List (ByteArray × List Bool) := vs.map fun v => (v.1, v.2.map fv)
theorem formT_mk (k t n ps fs vs) : formT (.mk k t n ps fs vs) = ((shapeK k).known && fitsB (shapeK k) t n ps.length fs.length vs.length && selfB k t n ps (fieldsB (fieldsT fs formT)) (varsB (varsT vs formT)) && ps.all formT) := by
 rw [formT]
 unfold fieldsT varsT
 simp only [List.map_attach_eq_pmap, List.pmap_eq_map, List.all_map, Function.comp_def, id_eq]
theorem okV_at {vs : VsT} {fv : Ty → Bool} {i : Nat} (h : i < vs.length) : okV (varsT vs fv) i = (nameT vs[i].1 && decide (vs[i].2.length ≤ 1) && vs[i].2.all fv && !((vs.take i).any fun x => decide (x.1 = vs[i].1))) := by
 unfold okV varsT
 rw [List.getElem?_map, List.getElem?_eq_getElem h]
 simp only [Option.map_some, List.length_map, List.all_map, ← List.map_take, List.any_map, Function.comp_def, id_eq]
theorem okF_zero {fs : FsT} {fv : Ty → Bool} (h : 0 < fs.length) : okF (fieldsT fs fv) 0 = (nameT fs[0].1 && decide (0 ≤ fs[0].2.1) && decide (fs[0].2.1 ≤ 3) && fv fs[0].2.2) := by
 unfold okF fieldsT
 rw [List.getElem?_map, List.getElem?_eq_getElem h]
 simp
theorem okF_succ {fs : FsT} {fv : Ty → Bool} {i : Nat} (h : i + 1 < fs.length) : okF (fieldsT fs fv) (i + 1) = (nameT fs[i + 1].1 && decide (0 ≤ fs[i + 1].2.1) && decide (fs[i + 1].2.1 ≤ 3) && fv fs[i + 1].2.2 && Go.Op.bytesLess (fs[i]'(by omega)).1.toList fs[i + 1].1.toList) := by
 unfold okF fieldsT
 rw [List.getElem?_map, List.getElem?_eq_getElem h]
 have e : (fs.map fun f => (f.1, f.2.1, fv f.2.2))[i]? = some ((fs[i]'(by omega)).1, (fs[i]'(by omega)).2.1, fv (fs[i]'(by omega)).2.2) := by rw [List.getElem?_map, List.getElem?_eq_getElem (by omega : i < fs.length)]; rfl
 simp [e]
theorem varsT_len (vs : VsT) (fv : Ty → Bool) : (varsT vs fv).length = vs.length := by simp [varsT]
theorem fieldsT_len (fs : FsT) (fv : Ty → Bool) : (fieldsT fs fv).length = fs.length := by simp [fieldsT]
theorem allB_no {n i : Nat} {p : Nat → Bool} (hi : i < n) (h : p i = false) : (List.range n).all p = false :=
 Bool.eq_false_iff.2 fun h2 => by have := range_all.1 h2 i hi; rw [h] at this; cases this
def nonN (l : List Ty) : List Ty := (flatU l).filter fun t => !(t.k == 1)
theorem nonN_take {l : List Ty} {i : Nat} (h : i < l.length) : nonN (l.take (i + 1)) = nonN (l.take i) ++ (parts1 l[i]).filter fun t => !(t.k == 1) := by
 unfold nonN
 rw [flatU_take h, List.filter_append]
theorem out_push2 {K : Nat → Prop} {w0 w2 w5 : World} {v v5 : Value} {os : List Ty} {t : Ty} {cs vs : List Value} (hb : Below w0.heap.size w0 w2) (ho : w2.ownsRow w0.heap.size 26 6 v os.length vs) (hr : ∀ i (h : i < os.length), ∃ cs, RepT K w0 os[i] cs ∧ ∀ j u, cs[j]? = some u → vs[i * 6 + j]? = some u)
  (ht : RepT K w0 t cs) (hown : w5.ownsRow w0.heap.size 26 6 v5 (os.length + 1) (vs ++ cs)) (hg : (w2.alloc (.cells cs.toArray 26)).grownBy w5 v.ownBlock) :
  OutT K w0 w5 v5 (os ++ [t]) ∧ Below w0.heap.size w0 w5 := by
 have hl1 : w2.heap.size ≤ (w2.alloc (.cells cs.toArray 26)).heap.size := by simp
 exact ⟨OutT.snoc (ho.1) hr ht hown, (hb.alloc hb.size _).grown hg (Nat.le_trans hb.size hl1) fun k hk => (ho.lt k hk).1⟩
def FlatR (l : List Ty) : Prop := ∀ (K : Nat → Prop) (w0 w : World) (A : Option Addr) (c : Nat) (v : Value) (os : List Ty), ListT K w0 l A c → Below w0.heap.size w0 w → OutT K w0 w v os → os.length + (flatU l).length ≤ 1099511627776 →
 Calls Tryz.prog 29 #[.slice A l.length c, v] w fun e w' => ∃ v', e = .returned v' ∧ OutT K w0 w' v' (os ++ nonN l) ∧ Below w0.heap.size w0 w'
theorem nonN_len (l : List Ty) : (nonN l).length ≤ (flatU l).length := List.length_filter_le _ _
theorem flatr_list (l : List Ty) (hp : ∀ p ∈ l, FlatR p.ps) : FlatR l := by
 intro K w0 w A c v os hL hb hO hbd
 have hll := hL.short
 have HL := Hd hL
 have HP := Hd hp
 have HBD := Hd hbd
 have HS0 : Hid (OutT K w0 w v os ∧ Below w0.heap.size w0 w) := Hd ⟨hO, hb⟩
 obtain ⟨i0, hi0, hz0, hz1, hz2⟩ := partsT infoTy
 obtain ⟨vs0, hvs0, -⟩ := hO
 obtain ⟨A0, c0, rfl, -⟩ := sliceT hvs0
 obtain ⟨n0, hn0⟩ : ∃ n0, n0 = os.length := ⟨_, rfl⟩
 rw [← hn0] at HS0 hvs0 ⊢
 have HN0 := Hd hn0
 clear hL hp hbd hb hvs0 hn0
 go_enter Tryz.func29, Tryz.ntmps29
 go_wp2_with fail
 go_loopw [1, 5] (fun ov v wr => ∃ (i : Nat) (acc : List Ty), i ≤ l.length ∧ v = .int .i64 i ∧ acc = os ++ nonN (l.take i) ∧ OutT K w0 wr ov acc ∧ Below w0.heap.size w0 wr) (fun _ v _ => l.length - (intOf v).toNat)
 case atStart => exact ⟨0, os, by omega, rfl, by simp [nonN, flatU], HS0.out.1, HS0.out.2⟩
 case round =>
  obtain ⟨i, acc, hi, rfl, hacc, ho, hb⟩ := hrel
  have HAcc := Hd hacc
  clear hacc
  have HR := Hd (And.intro ho hb)
  obtain ⟨vs, hvs, hrs⟩ := ho
  obtain ⟨A1, c1, rfl, -⟩ := sliceT hvs
  by_cases hin : i < l.length
  ·have t1 : decide ((i : Int) < (l.length : Int)) = true := by simp; omega
   have wr2 : wrap64 ((i : Int) + 1) = ((i + 1 : Nat) : Int) := wrap_one (by omega)
   have HM := Hd (measI hin)
   obtain ⟨b, o, hA, _, hat⟩ := HL.out.at (by omega)
   have hti := hat i hin
   have hpi := HP.out _ (List.getElem_mem hin)
   have htk := nonN_take hin
   have hft := flatU_take hin
   have hsp := flatU_split l (i + 1)
   have hle := nonN_len (l.take i)
   subst hA
   generalize l[i] = t at hti hpi htk hft
   obtain ⟨k, s, n, ps, fs, ws⟩ := t
   obtain ⟨cs, hcs, hrep⟩ := hti
   obtain ⟨Ap, cp, Af, cf, Av, cv, rfl, -, hLp, -, -⟩ := hrep.inv
   have HREP := Hd hrep
   have x0 : wr.cell? ⟨b, o + i * 6, none⟩ = some (.int .i64 k) := cell_stays hb (hcs 0 _ rfl)
   have x1 := cell_stays hb (hcs 1 _ rfl)
   have x2 := cell_stays hb (hcs 2 _ rfl)
   have x3 := cell_stays hb (hcs 3 _ rfl)
   have x4 := cell_stays hb (hcs 4 _ rfl)
   have x5 := cell_stays hb (hcs 5 _ rfl)
   have HIn : Hid (i + 1 ≤ l.length) := Hd hin
   have HTk := Hd htk
   have HOw := Hd (And.intro hvs hrs)
   have HLen : Hid (acc.length + (parts1 (.mk k s n ps fs ws)).length ≤ 1099511627776) := Hd (by
    have h1 := HBD.out
    rw [hsp, hft] at h1
    rw [HAcc.out]
    simp only [List.length_append] at h1 ⊢
    omega)
   by_cases h15 : k = 15
   ·subst h15
    have KF := Hd (hpi K w0 wr Ap cp _ _ hLp hb HR.out.1 (by have := HLen.out; rw [parts1_mk, if_pos rfl] at this; exact this))
    simp only [Ty.ps] at KF
    clear hpi htk hft hle hsp hcs hrep hLp hvs hrs hb hi x1 x2 x4 x5
    go_wp2_with fail
    refine KF.out.mono ?_
    rintro e w2 ⟨v2, rfl, ho2, hb2⟩
    have HR2 := Hd (And.intro ho2 hb2)
    clear ho2 hb2 KF
    go_wp2_with fail
    refine ⟨⟨i + 1, _, HIn.out, by first | rfl | rw [wr2], ?p1, HR2.out.1, HR2.out.2⟩, ?p3⟩
    case p1 => rw [HTk.out, HAcc.out, parts1_mk, if_pos rfl, List.append_assoc]; rfl
    case p3 => first | exact HM.out | (rw [wr2]; exact HM.out)
   ·have t15 : (k == 15) = false := by simpa using h15
    by_cases h1 : k = 1
    ·subst h1
     clear hpi htk hft hle hsp hcs hrep hLp hvs hrs hb hi
     go_wp2_with fail
     refine ⟨⟨i + 1, acc, HIn.out, by first | rfl | rw [wr2], ?p1, HR.out.1, HR.out.2⟩, ?p3⟩
     case p1 =>
      rw [HTk.out, HAcc.out, parts1_mk, if_neg (by decide)]
      have e : ([Ty.mk 1 s n ps fs ws].filter fun t => !(t.k == 1)) = [] := rfl
      rw [e, List.append_nil]
     case p3 => first | exact HM.out | (rw [wr2]; exact HM.out)
    ·have tn1 : (k != 1) = true := by simpa using h1
     have hkp : (k == 1) = false := by simpa using h1
     have HKP := Hd hkp
     have HC2 := Hd (cellsT_new wr [.int .i64 k, .string s, .int .i64 n, .slice Ap ps.length cp, .slice Af fs.length cf, .slice Av ws.length cv] 26)
     have HL1 : Hid (acc.length + 1 ≤ 1099511627776) := Hd (by have := HLen.out; rw [parts1_mk, if_neg h15] at this; simpa using this)
     have HB := Hd hb
     clear hpi htk hft hle hsp hcs hrep hLp hvs hrs hi hb hkp
     go_wp2_with (at_builtin; refine wpList_plain rfl fun K hK => ?_; go_loud (refine wp_append_own_at _ _ 22 rfl w0.heap.size 26 i0 (.agg #[.int .i64 0, .string ⟨#[]⟩, .int .i64 0, .slice none 0 0, .slice none 0 0, .slice none 0 0]) 6 104 Tryz.underlying22 hi0 hz0 hz1 hz2 rfl (by decide) _ _ _ rfl (HOw.out.1.alloc _) ⟨wr.heap.size, 0, none⟩ 1 1 [.int .i64 k, .string s, .int .i64 n, .slice Ap ps.length cp, .slice Af fs.length cf, .slice Av ws.length cv] rfl rfl ?a0 ?a1 ?a2 ?a3 ?a4 ?_))
     case a0 => exact HC2.out
     case a1 =>
      intro u hu
      simp only [List.mem_cons, List.not_mem_nil, or_false] at hu
      rcases hu with rfl | rfl | rfl | rfl | rfl | rfl <;> rfl
     case a2 => have := HL1.out; unfold maxLen; omega
     case a3 => have := HL1.out; omega
     case a4 => have := HB.out.size; simp only [World.size_alloc]; omega
     intro v5 w5 hown5 hg5 _ _
     refine hK _ _ ?_
     clear hK K
     have HR5 := Hd (out_push2 HB.out HOw.out.1 HOw.out.2 HREP.out hown5 hg5)
     clear hown5 hg5 x0 x1 x2 x3 x4 x5
     go_wp2_with fail
     refine ⟨⟨i + 1, _, HIn.out, by first | rfl | rw [wr2], ?p1, HR5.out.1, HR5.out.2⟩, ?p3⟩
     case p1 =>
      rw [HTk.out, HAcc.out, parts1_mk, if_neg h15, List.append_assoc]
      have e : ([Ty.mk k s n ps fs ws].filter fun t => !(t.k == 1)) = [Ty.mk k s n ps fs ws] := by simp [Ty.k, HKP.out]
      rw [e]
     case p3 => first | exact HM.out | (rw [wr2]; exact HM.out)
  ·have t1 : decide ((i : Int) < (l.length : Int)) = false := by simp; omega
   have HE : Hid (l.take i = l) := Hd (List.take_of_length_le (by omega))
   clear hi hvs hrs hb
   go_wp2_with fail
   go_ret
   have h1 := HR.out
   have h2 := HAcc.out
   rw [HE.out] at h2
   rw [← h2]
   exact ⟨.slice A1 acc.length c1, rfl, h1.1, h1.2⟩
theorem flatr_any (l : List Ty) : FlatR l := flatr_list l fun p _ => Ty.ind (C := fun t => FlatR t.ps) (fun _ _ _ ps _ _ hp _ _ => flatr_list ps hp) p
theorem eqT (x s : ByteArray) : (x.toList == s.toList) = decide (x = s) := by
 rw [Bool.eq_iff_iff, beq_iff_eq, decide_eq_true_iff, ByteArray.toList_eq, ByteArray.toList_eq]
 exact ⟨fun h => bytes_ext h, fun h => by rw [h]⟩
structure ListS (w : World) (l : List ByteArray) (A : Option Addr) : Prop where
 ex : ∃ b o, (0 < l.length → A = some ⟨b, o, none⟩) ∧ l.length ≤ 1000000000000000 ∧ ∀ i (h : i < l.length), w.cell? ⟨b, o + i, none⟩ = some (.string l[i])
def inB (l : List ByteArray) (s : ByteArray) : Bool := l.any fun x => decide (x = s)
theorem inB_drop {l : List ByteArray} {i : Nat} (h : i < l.length) (s : ByteArray) : inB (l.drop i) s = (decide (l[i] = s) || inB (l.drop (i + 1)) s) := by rw [List.drop_eq_getElem_cons h]; rfl
theorem in_ref {w : World} {l : List ByteArray} {A : Option Addr} {c : Nat} (hL : ListS w l A) (s : ByteArray) :
  Calls Tryz.prog 137 #[.slice A l.length c, .string s] w fun e w' => e = .returned (.bool (inB l s)) ∧ w' = w := by
 obtain ⟨b, o, hA, hll, hat⟩ := hL
 have HAT := Hd hat
 have HAA := Hd hA
 clear hat hA
 go_enter Tryz.func137, Tryz.ntmps137
 go_wp2_with fail
 go_loopw [5] (fun v wr => ∃ (i : Nat), i ≤ l.length ∧ v = .int .i64 i ∧ inB l s = inB (l.drop i) s ∧ wr = w) (fun v _ => l.length - (intOf v).toNat)
 case atStart => exact ⟨0, by omega, rfl, by rw [List.drop_zero], rfl⟩
 case round =>
  obtain ⟨i, hi, rfl, he, rfl⟩ := hrel
  have HE := Hd he
  clear he
  by_cases hin : i < l.length
  ·have t1 : decide ((i : Int) < (l.length : Int)) = true := by simp; omega
   have wr2 : wrap64 ((i : Int) + 1) = ((i + 1 : Nat) : Int) := wrap_one (by omega)
   have hA2 := HAA.out (by omega)
   subst hA2
   have hc := HAT.out i hin
   have hd := inB_drop hin s
   generalize l[i] = x at hc hd
   have HS := Hd hd
   have HM := Hd (measI hin)
   have HIn : Hid (i + 1 ≤ l.length) := Hd hin
   by_cases hk : x = s
   ·have HK : Hid (decide (x = s) = true) := Hd (decide_eq_true hk)
    have e13 : (x.toList == s.toList) = true := by rw [eqT]; exact decide_eq_true hk
    clear hi hd hk
    go_wp2_with fail
    go_ret
    exact ⟨by rw [HE.out, HS.out, HK.out]; rfl, rfl⟩
   ·have HK : Hid (decide (x = s) = false) := Hd (decide_eq_false hk)
    have e13 : (x.toList == s.toList) = false := by rw [eqT]; exact decide_eq_false hk
    clear hi hd hk
    go_wp2_with fail
    refine ⟨⟨i + 1, HIn.out, by first | rfl | rw [wr2], by rw [HE.out, HS.out, HK.out]; rfl, by first | rfl | trivial⟩, ?_⟩
    first | exact HM.out | (rw [wr2]; exact HM.out)
  ·have t1 : decide ((i : Int) < (l.length : Int)) = false := by simp; omega
   have HE1 : Hid (inB l s = false) := Hd (by rw [HE.out, List.drop_eq_nil_of_le (by omega)]; rfl)
   clear hi
   go_wp2_with fail
   go_ret
   exact ⟨by rw [HE1.out]; rfl, rfl⟩
structure StrI (w : World) (g c : Nat) (l : List ByteArray) : Prop where
 le : l.length ≤ c
 mx : c ≤ maxLen
 blk : ∃ cur, w.heap[g]? = some (.cells cur 9 (0, 0)) ∧ cur.size = c
 reps : ∀ (i : Nat) (s : ByteArray), l[i]? = some s → w.cell? ⟨g, i, none⟩ = some (.string s)
theorem StrI.lt {w : World} {g c : Nat} {l : List ByteArray} (h : StrI w g c l) : g < w.heap.size := by
 obtain ⟨cur, h1, _⟩ := h.blk
 exact (Array.getElem?_eq_some_iff.1 h1).1
theorem StrI.keep {w w' : World} {g c : Nat} {l : List ByteArray} (h : StrI w g c l) (hk : w'.heap[g]? = w.heap[g]?) : StrI w' g c l :=
 ⟨h.le, h.mx, by rw [hk]; exact h.blk, fun i t hi => (World.cell?_of_block (a := ⟨g, i, none⟩) hk).trans (h.reps i t hi)⟩
theorem StrI.later {w w' : World} {g c : Nat} {l : List ByteArray} (h : StrI w g c l) (hb : Below w.heap.size w w') : StrI w' g c l := h.keep (hb.block g h.lt)
theorem StrI.set {w : World} {g c : Nat} {a b : List ByteArray} {x s : ByteArray} (h : StrI w g c (a ++ x :: b)) : StrI (w.setCell ⟨g, a.length, none⟩ (.string s)) g c (a ++ s :: b) := by
 obtain ⟨cur, h1, h2⟩ := h.blk
 refine ⟨by have := h.le; simpa using this, h.mx, ⟨_, Go.heap_setCell_same w g _ _ _ _ h1, by rw [Array.size_setIfInBounds]; exact h2⟩, fun i t hi => ?_⟩
 by_cases he : i = a.length
 ·subst he
  rw [List.getElem?_append_right (Nat.le_refl _), Nat.sub_self] at hi
  have ht : s = t := by injection hi
  rw [← ht]
  exact World.cell?_setCell_same _ _ _ (h.reps a.length x (by rw [List.getElem?_append_right (Nat.le_refl _), Nat.sub_self]; rfl))
 ·have hi2 : (a ++ x :: b)[i]? = some t := by
   rcases Nat.lt_or_ge i a.length with h3 | h3
   ·rw [List.getElem?_append_left h3] at hi ⊢; exact hi
   ·obtain ⟨m, hm⟩ : ∃ m, i - a.length = m + 1 := ⟨i - a.length - 1, by omega⟩
    rw [List.getElem?_append_right h3, hm] at hi ⊢
    exact hi
  rw [World.cell?_setCell_other _ _ _ _ (fun e => he (by injection e with _ e2; exact e2.symm))]
  exact h.reps i t hi2
def OutS (B : Nat) (w : World) (v : Value) (l : List ByteArray) : Prop := w.ownsRow B 9 1 v l.length (l.map .string)
theorem OutS.of {B : Nat} {w : World} {v : Value} {l : List ByteArray} (h : OutS B w v l) : (v = .slice none 0 0 ∧ l = []) ∨ ∃ g c, v = .slice (some ⟨g, 0, none⟩) l.length c ∧ B ≤ g ∧ StrI w g c l := by
 obtain ⟨h1, h2⟩ := h
 rcases h2 with ⟨hv, hn⟩ | ⟨g, cap, cur, hv, hg, hh, hc, hm, hs, ht⟩
 ·exact .inl ⟨hv, List.eq_nil_of_length_eq_zero hn⟩
 ·refine .inr ⟨g, cap, hv, hg, hc, hm, ⟨cur, hh, by omega⟩, fun i s hi => ?_⟩
  rw [cell_of_row _ _ _ _ _ _ hh]
  have h6 : (l.map Value.string)[i]? = some (.string s) := by rw [List.getElem?_map, hi]; rfl
  rw [← ht, List.getElem?_take] at h6
  split at h6
  ·simpa using h6
  ·cases h6
theorem StrI.out {B : Nat} {w : World} {g c : Nat} {l : List ByteArray} (h : StrI w g c l) (hg : B ≤ g) : OutS B w (.slice (some ⟨g, 0, none⟩) l.length c) l := by
 obtain ⟨cur, h1, h2⟩ := h.blk
 have hle := h.le
 refine ⟨by simp, .inr ⟨g, c, cur, rfl, hg, h1, hle, h.mx, by omega, ?_⟩⟩
 apply List.ext_getElem?
 intro i
 rw [List.getElem?_take, List.getElem?_map, Nat.mul_one]
 split
 ·rename_i hi
  have h5 := h.reps i l[i] (List.getElem?_eq_getElem hi)
  rw [cell_of_row _ _ _ _ _ _ h1] at h5
  rw [List.getElem?_eq_getElem hi]
  simpa using h5
 ·rename_i hi
  rw [List.getElem?_eq_none (by omega)]; rfl
theorem StrI.list {w : World} {g c : Nat} {l : List ByteArray} (h : StrI w g c l) (hl : l.length ≤ 1000000000000000) : ListS w l (some ⟨g, 0, none⟩) := ⟨g, 0, fun _ => rfl, hl, fun i hi => by rw [Nat.zero_add]; exact h.reps i _ (List.getElem?_eq_getElem hi)⟩
theorem OutS.later {B : Nat} {w w' : World} {v : Value} {l : List ByteArray} (h : OutS B w v l) (hb : Below w.heap.size w w') : OutS B w' v l := by
 rcases h.of with ⟨rfl, rfl⟩ | ⟨g, c, rfl, hg, hs⟩
 ·exact World.ownsRow_nil _ _ _ _
 ·exact (hs.later hb).out hg
def seenF (vs : VsT) (i : Nat) : ByteArray → Option Unit := fun s => if ((vs.take i).any fun x => decide (x.1 = s)) = true then some () else none
theorem seenF_next {vs : VsT} {i : Nat} (h : i < vs.length) : updF (seenF vs i) vs[i].1 () = seenF vs (i + 1) := by
 funext s
 unfold updF seenF
 rw [List.take_succ_eq_append_getElem h, List.any_append]
 by_cases e : vs[i].1 = s
 ·simp [e]
 ·have e2 : decide (vs[i].1 = s) = false := decide_eq_false e
  rw [if_neg e]
  simp only [List.any_cons, List.any_nil, e2, Bool.or_false]
theorem seenF_some {vs : VsT} {i : Nat} (s : ByteArray) : (seenF vs i s).isSome = (vs.take i).any fun x => decide (x.1 = s) := by
 unfold seenF
 split
 ·rename_i h; rw [h]; rfl
 ·rename_i h; rw [Bool.not_eq_true] at h; rw [h]; rfl
theorem okU_more {p : Nat → Bool} {i : Nat} (h : ∀ j, j < i → p j = true) (h2 : p i = true) : ∀ j, j < i + 1 → p j = true := fun j hj => by
 rcases Nat.lt_or_ge j i with h1 | h1
 ·exact h j h1
 ·rw [show j = i from by omega]; exact h2
structure VaR (w wr : World) (vs : VsT) (fv : Ty → Bool) (i : Nat) : Prop where
 le : i ≤ vs.length
 ok : ∀ j, j < i → okV (varsT vs fv) j = true
 map : MapIs setMK wr w.heap.size i (seenF vs i)
 below : Below w.heap.size w wr
theorem formedVars_any {K : Nat → Prop} {w : World} {vs : VsT} {A : Option Addr} {c : Nat} {fv : Ty → Bool} (hV : ListV K w vs A c) (hf : ∀ v ∈ vs, ∀ b ∈ v.2, FormIs b (fv b)) :
  Calls Tryz.prog 116 #[.slice A vs.length c] w fun e w' => e = .returned (.bool (varsB (varsT vs fv))) ∧ Below w.heap.size w w' := by
 have HV := Hd hV
 have HF := Hd hf
 have hlv : vs.length ≤ 1000000000000000 := by obtain ⟨_, _, hr, _⟩ := hV; exact hr.big
 have HST : Hid (VaR w (w.alloc (.map #[] 0)) vs fv 0) := Hd ⟨Nat.zero_le _, fun j hj => absurd hj (by omega), by
  have h := MapIs.new setMK w
  have e : seenF vs 0 = fun _ => none := by funext s; simp [seenF]
  rw [e]; exact h, (Below.refl _ _).alloc (Nat.le_refl _) _⟩
 have hmm := @run_makeMap Tryz.prog
 clear hV hf
 go_enter Tryz.func116, Tryz.ntmps116
 go_wp2_with fail
 clear hmm
 go_loopw [11] (fun v wr => ∃ i : Nat, v = .int .i64 (i : Int) ∧ VaR w wr vs fv i) (fun v _ => vs.length - (intOf v).toNat)
 case atStart => exact ⟨0, rfl, HST.out⟩
 case round =>
  obtain ⟨i, rfl, hr⟩ := hrel
  have HR := Hd hr
  have hle := hr.le
  by_cases hlt : i < vs.length
  ·have t1 : decide ((i : Int) < (vs.length : Int)) = true := by simp; omega
   have wr2 : wrap64 ((i : Int) + 1) = ((i + 1 : Nat) : Int) := wrap_one (by omega)
   have HM := Hd (measI hlt)
   obtain ⟨b, o, hA, _, hat⟩ := HV.out.at (by omega)
   subst hA
   obtain ⟨B, d, hc0, hc1, hsz, hLB⟩ := hat i hlt
   have hok := okV_at (fv := fv) hlt
   have hnx := seenF_next hlt
   have hFb : ∀ b ∈ vs[i].2, FormIs b (fv b) := HF.out _ (List.getElem_mem hlt)
   have hsm := seenF_some (vs := vs) (i := i) vs[i].1
   generalize hnm : vs[i].1 = nm at hc0 hok hnx hsz hsm
   generalize hl : vs[i].2 = l at hc1 hLB hok hFb
   have hcw0 := cell_stays (w := w) (w' := wr) hr.below hc0
   have hcw1 := cell_stays (w := w) (w' := wr) hr.below hc1
   have hbx : Below wr.heap.size wr (wr.alloc (.cells #[.string nm, .slice B l.length d] 59)) := (Below.refl _ _).alloc (Nat.le_refl _) _
   have hmx : nm.size ≤ maxLen := by unfold maxLen; omega
   have lk : (Instr.lookup 120 (.map (some w.heap.size)) (.string nm) true).run Tryz.prog (wr.alloc (.cells #[.string nm, .slice B l.length d] 59)) = .ok (.tuple #[.agg #[], .bool ((vs.take i).any fun x => decide (x.1 = nm))]) (wr.alloc (.cells #[.string nm, .slice B l.length d] 59)) := by
    rw [← hsm]; exact (hr.map.later hbx).look2 nm hmx
   generalize hseen : ((vs.take i).any fun x => decide (x.1 = nm)) = seen at lk hok
   clear hat hc0 hc1 hnm hl hsm hseen
   cases seen with
   | true =>
    have HNO : Hid (varsB (varsT vs fv) = false) := Hd (allB_no (by rw [varsT_len]; exact hlt) (by rw [hok]; simp))
    have HB9 := Hd hr.below
    clear hr hle hok hnx
    go_wp2_with fail
    go_ret
    exact ⟨by rw [HNO.out]; rfl, (HB9.out.alloc HB9.out.size _).alloc (by have := HB9.out.size; simp; omega) _⟩
   | false =>
    have HSZ : Hid (wr.heap.size ≤ ((wr.alloc (.cells #[.string nm, .slice B l.length d] 59)).alloc (.cells #[] 121)).heap.size) := Hd (by simp; omega)
    have hbw2 : Below wr.heap.size wr ((wr.alloc (.cells #[.string nm, .slice B l.length d] 59)).alloc (.cells #[] 121)) := hbx.alloc (by simp) _
    have HSZ2 : Hid (w.heap.size ≤ ((wr.alloc (.cells #[.string nm, .slice B l.length d] 59)).alloc (.cells #[] 121)).heap.size) := Hd (by have := hr.below.size; have := hbw2.size; omega)
    have HBW := Hd (hr.below.trans (hbw2.mono hr.below.size))
    have HMP := Hd (hr.map.later hbw2)
    have hbk : ((wr.alloc (.cells #[.string nm, .slice B l.length d] 59)).alloc (.cells #[] 121)).heap[wr.heap.size]? = some (.cells #[.string nm, .slice B l.length d] 59 (0, 0)) := by
     rw [((Below.refl (wr.alloc (.cells #[.string nm, .slice B l.length d] 59)).heap.size _).alloc (Nat.le_refl _) (.cells #[] 121)).block _ (by simp)]
     exact heap_alloc_new wr _
    have HX0 : Hid (((wr.alloc (.cells #[.string nm, .slice B l.length d] 59)).alloc (.cells #[] 121)).cell? ⟨wr.heap.size, 0, none⟩ = some (.string nm)) := Hd (cell_of_row _ _ 0 _ _ _ hbk)
    have HX1 : Hid (((wr.alloc (.cells #[.string nm, .slice B l.length d] 59)).alloc (.cells #[] 121)).cell? ⟨wr.heap.size, 1, none⟩ = some (.slice B l.length d)) := Hd (cell_of_row _ _ 1 _ _ _ hbk)
    have KN := Hd (name_prog nm ((wr.alloc (.cells #[.string nm, .slice B l.length d] 59)).alloc (.cells #[] 121)) hsz)
    have HGL : Hid (w.heap.size < wr.heap.size) := Hd hr.map.lt
    have HLT : Hid (i < maxLen) := Hd (by unfold maxLen; omega)
    have HMX := Hd hmx
    have HLE : Hid (i + 1 ≤ vs.length) := Hd hlt
    clear hbw2 hbk
    cases hq : nameT nm with
    | false =>
     rw [hq] at KN
     have HNO : Hid (varsB (varsT vs fv) = false) := Hd (allB_no (by rw [varsT_len]; exact hlt) (by rw [hok]; simp [hq]))
     clear hok hnx hr hle
     go_wp2_with fail
     refine KN.out.mono ?_
     rintro e w3 ⟨rfl, hb3⟩
     have HB3 := Hd (HBW.out.trans (hb3.mono HSZ2.out))
     clear hb3
     go_wp2_with fail
     go_ret
     exact ⟨by rw [HNO.out]; rfl, HB3.out⟩
    | true =>
     rw [hq] at KN
     match l, hLB, hFb with
     | [], hLB, hFb =>
      clear hLB hFb
      simp only [List.length_nil] at *
      clear hr hle
      go_wp2_with fail
      refine KN.out.mono ?_
      rintro e w3 ⟨rfl, hb3⟩
      have HB3 := Hd (HBW.out.trans (hb3.mono HSZ2.out))
      have y0 := cell_stays hb3 HX0.out
      have y1 := cell_stays hb3 HX1.out
      obtain ⟨w4, hup, hm4, hg4⟩ := (HMP.out.later hb3).putL HLT.out nm HMX.out ()
      have hup2 : (Instr.mapUpdate 120 (.map (some w.heap.size)) (.string nm) (.agg #[])).run Tryz.prog w3 = .ok () w4 := hup
      have hblk : w4.heap[wr.heap.size]? = w3.heap[wr.heap.size]? := hg4.block _ (World.block_lt_of_cell? _ _ y0) (by have := HGL.out; simp only [ne_eq, Option.some.injEq]; omega)
      have z0 := (World.cell?_of_block (a := ⟨wr.heap.size, 0, none⟩) hblk).trans y0
      have z1 := (World.cell?_of_block (a := ⟨wr.heap.size, 1, none⟩) hblk).trans y1
      have hB4 : Below w.heap.size w w4 := HB3.out.grown hg4 HB3.out.size (fun k hk => by simp only [Option.some.injEq] at hk; omega)
      rw [hnx] at hm4
      have HM4 := Hd hm4
      have HB4 := Hd hB4
      clear hb3 hup hm4 hg4 hblk hB4 hnx
      have HOK : Hid (okV (varsT vs fv) i = true) := Hd (by rw [hok]; simp [hq])
      clear hok
      go_wp2_with fail
      refine ⟨⟨i + 1, by first | rfl | rw [wr2], HLE.out, okU_more HR.out.ok HOK.out, HM4.out, HB4.out⟩, ?_⟩
      first | exact HM.out | (rw [wr2]; exact HM.out)
     | [x], hLB, hFb =>
      obtain ⟨bb, bo, rfl, -, hel0⟩ := hLB.at (by simp)
      have hel : AtT K w x bb bo := by have h := hel0 0 (by simp); simpa using h
      have hfx := hFb x (List.mem_singleton.2 rfl)
      clear hLB hFb hel0
      simp only [List.length_cons, List.length_nil, Nat.zero_add] at *
      clear hr hle
      go_wp2_with fail
      refine KN.out.mono ?_
      rintro e w3 ⟨rfl, hb3⟩
      have HB3 := Hd (HBW.out.trans (hb3.mono HSZ2.out))
      have y0 := cell_stays hb3 HX0.out
      have y1 := cell_stays hb3 HX1.out
      obtain ⟨w4, hup, hm4, hg4⟩ := (HMP.out.later hb3).putL HLT.out nm HMX.out ()
      have hup2 : (Instr.mapUpdate 120 (.map (some w.heap.size)) (.string nm) (.agg #[])).run Tryz.prog w3 = .ok () w4 := hup
      have hblk : w4.heap[wr.heap.size]? = w3.heap[wr.heap.size]? := hg4.block _ (World.block_lt_of_cell? _ _ y0) (by have := HGL.out; simp only [ne_eq, Option.some.injEq]; omega)
      have z0 := (World.cell?_of_block (a := ⟨wr.heap.size, 0, none⟩) hblk).trans y0
      have z1 := (World.cell?_of_block (a := ⟨wr.heap.size, 1, none⟩) hblk).trans y1
      have hB4 : Below w.heap.size w w4 := HB3.out.grown hg4 HB3.out.size (fun k hk => by simp only [Option.some.injEq] at hk; omega)
      rw [hnx] at hm4
      have HM4 := Hd hm4
      have HB4 := Hd hB4
      clear hb3 hup hm4 hg4 hblk hB4 hnx
      have KF := Hd (hfx K w4 bb bo (hel.later HB4.out))
      have HOKE : Hid (okV (varsT vs fv) i = fv x) := Hd (by rw [hok]; simp [hq])
      clear hok hel hfx
      generalize fv x = r at KF HOKE
      go_wp2_with fail
      refine KF.out.mono ?_
      rintro e w5 ⟨rfl, hb5⟩
      have HB5 := Hd (below_then HB4.out hb5)
      have HM5 := Hd (HM4.out.later hb5)
      clear hb5
      cases r with
      | false =>
       have HNO : Hid (varsB (varsT vs fv) = false) := Hd (allB_no (by rw [varsT_len]; exact HLE.out) HOKE.out)
       go_wp2_with fail
       go_ret
       exact ⟨by rw [HNO.out]; rfl, HB5.out⟩
      | true =>
       go_wp2_with fail
       refine ⟨⟨i + 1, by first | rfl | rw [wr2], HLE.out, okU_more HR.out.ok HOKE.out, HM5.out, HB5.out⟩, ?_⟩
       first | exact HM.out | (rw [wr2]; exact HM.out)
     | x :: y :: l, hLB, hFb =>
      clear hLB hFb
      have e2 : (x :: y :: l).length = l.length + 2 := rfl
      have t3 : 1 < l.length + 2 := by omega
      have t3b : decide ((1 : Int) < ((l.length + 2 : Nat) : Int)) = true := by simp; omega
      simp only [List.length_cons] at *
      have HNO : Hid (varsB (varsT vs fv) = false) := Hd (allB_no (by rw [varsT_len]; exact hlt) (by rw [hok]; simp [hq]))
      clear hok hnx hr hle
      go_wp2_with fail
      refine KN.out.mono ?_
      rintro e w3 ⟨rfl, hb3⟩
      have HB3 := Hd (HBW.out.trans (hb3.mono HSZ2.out))
      have y1 := cell_stays hb3 HX1.out
      clear hb3
      go_wp2_with fail
      go_ret
      exact ⟨by rw [HNO.out]; rfl, HB3.out⟩
  ·have t1 : decide ((i : Int) < (vs.length : Int)) = false := by simp; omega
   have HYES : Hid (varsB (varsT vs fv) = true) := Hd (range_all.2 fun j hj => hr.ok j (by rw [varsT_len] at hj; omega))
   have HB9 := Hd hr.below
   clear hr hle HR
   go_wp2_with fail
   go_ret
   exact ⟨by rw [HYES.out]; rfl, HB9.out⟩
theorem ListT.but {O K K' : Nat → Prop} {a b : World} {l : List Ty} {A : Option Addr} {c : Nat} (h : ListT K a l A c) (hb : ButG O a b) (hk : ∀ x, K x → ¬ O x ∧ K' x) : ListT K' b l A c := by
 obtain ⟨g, o, h1, h2⟩ := h
 refine ⟨g, o, h1.weak fun x hx => (hk x hx).2, fun i hi => ?_⟩
 have hg := (h1.some (by omega)).2
 exact (h2 i hi).keep (fun x hx => (hk x hx).2) (fun x _ _ hx hc => hb.cell (hk x hx).1 hc) fun _ _ hc => hb.cell (hk g hg).1 hc
end Go.Proofs.YtgjblmlibhppiaaGreatDoor
