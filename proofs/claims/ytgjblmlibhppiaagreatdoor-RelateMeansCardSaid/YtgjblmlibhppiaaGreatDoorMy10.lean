import Derived.Test.YtgjblmlibhppiaaGreatDoorMy9
namespace Go.Proofs.YtgjblmlibhppiaaGreatDoor
set_option maxRecDepth 100000
set_option maxHeartbeats 64000000
open Go.RowKit
theorem vars_ref (l l' : VsT) (h : ∀ v ∈ l, ∀ b ∈ v.2, OrdR b) {K K' : Nat → Prop} {w : World} {A A' : Option Addr} {c c' : Nat} (h1 : ListV K w l A c) (h2 : ListV K' w l' A' c') :
  Calls Tryz.prog 44 #[.slice A l.length c, .slice A' l'.length c'] w fun e w' => e = .returned (.int .i64 (lexC (rowE (fun v : ByteArray × List Ty => Tok.s v.1 :: flatL v.2) l) (rowE (fun v : ByteArray × List Ty => Tok.s v.1 :: flatL v.2) l'))) ∧ Gw w w' := by
 have H1 := Hd h1
 have H2 := Hd h2
 have HI := Hd h
 have hl1 : l.length ≤ 1000000000000000 := by obtain ⟨_, _, hr, _⟩ := h1; exact hr.big
 have hl2 : l'.length ≤ 1000000000000000 := by obtain ⟨_, _, hr, _⟩ := h2; exact hr.big
 clear h h1 h2
 by_cases heq : l.length = l'.length
 ·rw [row_same (fun v : ByteArray × List Ty => Tok.s v.1 :: flatL v.2) heq]
  generalize hres : restC (fun v : ByteArray × List Ty => Tok.s v.1 :: flatL v.2) l l' 0 = res
  have HRES := Hd hres
  have HEQ := Hd heq
  rw [← heq]
  have hirr : ¬ l.length < l.length := Nat.lt_irrefl _
  clear hres heq hl2
  go_enter Tryz.func44, Tryz.ntmps44
  go_wp2_with fail
  refine (sign_any _ _ _).mono ?_
  rintro e w1 ⟨rfl, rfl⟩
  simp only [sgn]
  go_wp2_with fail
  go_loopw [5, 6] (fun vc vi wr => ∃ (cc : Int) (i : Nat), i ≤ l.length ∧ vc = .int .i64 cc ∧ vi = .int .i64 i ∧ or2 cc (restC (fun v : ByteArray × List Ty => Tok.s v.1 :: flatL v.2) l l' i) = res ∧ Gw w1 wr) (fun _ vi _ => l.length - (intOf vi).toNat)
  case atStart => exact ⟨0, 0, by omega, by first | rfl | simp, rfl, by rw [or2_zero]; exact HRES.out, Gw.refl _⟩
  case round =>
   obtain ⟨cc, i, hi, rfl, rfl, ho, hb⟩ := hrel
   have HO := Hd ho
   have HB := Hd hb
   clear ho
   by_cases hcc : cc = 0
   ·subst hcc
    by_cases hin : i < l.length
    ·have t1 : decide ((i : Int) < (l.length : Int)) = true := by simp; omega
     have wr2 : wrap64 ((i : Int) + 1) = ((i + 1 : Nat) : Int) := wrap_one (by omega)
     have HM := Hd (measI hin)
     have hin' : i < l'.length := by rw [← HEQ.out]; exact hin
     have hstep := rest_step (fun v : ByteArray × List Ty => Tok.s v.1 :: flatL v.2) cleanVr HEQ.out hin hin'
     have hval : or2 (lexC ((fun v : ByteArray × List Ty => Tok.s v.1 :: flatL v.2) l[i]) ((fun v : ByteArray × List Ty => Tok.s v.1 :: flatL v.2) l'[i])) (restC (fun v : ByteArray × List Ty => Tok.s v.1 :: flatL v.2) l l' (i + 1)) = res := by rw [← hstep, ← or2_zero (restC (fun v : ByteArray × List Ty => Tok.s v.1 :: flatL v.2) l l' i)]; exact HO.out
     obtain ⟨b, o, hA, _, hat⟩ := H1.out.at (by omega)
     obtain ⟨b', o', hA', _, hat'⟩ := H2.out.at (by omega)
     subst hA hA'
     have i0 : (0 : Int) ≤ (i : Int) := by omega
     have i1 : (i : Int) < (l.length : Int) := by omega
     clear hstep
     have HLE : Hid (i + 1 ≤ l.length) := Hd hin
     obtain ⟨B, d, hn, hf, -, hT⟩ := hat i hin
     obtain ⟨B', d', hn', hf', -, hT'⟩ := hat' i hin'
     replace hn := cell_stays (w := w1) (w' := wr) hb.below hn
     replace hn' := cell_stays (w := w1) (w' := wr) hb.below hn'
     replace hf := cell_stays (w := w1) (w' := wr) hb.below hf
     replace hf' := cell_stays (w := w1) (w' := wr) hb.below hf'
     replace hT := hT.later (w' := wr) hb.below
     replace hT' := hT'.later (w' := wr) hb.below
     have hbo := HI.out _ (List.getElem_mem hin)
     have hval2 : or2 (or2 (cmpB (l[i]'hin).1 (l'[i]'hin').1) (lexC (flatL (l[i]'hin).2) (flatL (l'[i]'hin').2))) (restC (fun v : ByteArray × List Ty => Tok.s v.1 :: flatL v.2) l l' (i + 1)) = res := by rw [← var_steps]; exact hval
     generalize hnm : (l[i]'hin).1 = nm at hn hval2
     generalize hnm' : (l'[i]'hin').1 = nm' at hn' hval2
     generalize hfl : (l[i]'hin).2 = bl at hf hval2 hT hbo
     generalize hfl' : (l'[i]'hin').2 = bl' at hf' hval2 hT'
     have KO : Hid (∀ wx, Below wr.heap.size wr wx → Calls Tryz.prog 42 #[.slice B bl.length d, .slice B' bl'.length d'] wx fun e w' => e = .returned (.int .i64 (lexC (flatL bl) (flatL bl'))) ∧ Gw wx w') := Hd fun wx hx => list_ref bl bl' hbo (hT.later hx) (hT'.later hx)
     generalize lexC (flatL bl) (flatL bl') = oo at KO hval2
     have HC : Hid (∀ wx, Below wr.heap.size wr wx → (wx.cell? ⟨b, o + i * 2, none⟩ = some (.string nm) ∧ wx.cell? ⟨b', o' + i * 2, none⟩ = some (.string nm')) ∧ wx.cell? ⟨b, o + i * 2 + 1, none⟩ = some (.slice B bl.length d) ∧ wx.cell? ⟨b', o' + i * 2 + 1, none⟩ = some (.slice B' bl'.length d')) := Hd fun wx hx => ⟨⟨cell_stays hx hn, cell_stays hx hn'⟩, cell_stays hx hf, cell_stays hx hf'⟩
     have HV := Hd hval2
     clear hat hat' hval hval2 hi hb hn hn' hf hf' hnm hnm' hfl hfl' hT hT' hbo
     rcases cmpB_cases nm nm' with ⟨ga, gb, ge⟩ | ⟨ga, gb, ge⟩ | ⟨ga, gb, ge⟩
     ·have HV2 : Hid (or2 (-1) (restC (fun v : ByteArray × List Ty => Tok.s v.1 :: flatL v.2) l l' (i + 1)) = res) := Hd (by have h := HV.out; rw [ge, or2_ne (a := -1) (by decide)] at h; exact h)
      clear ge
      go_wp2_with fail
      refine wp_region_held_drew (S := (fun w' => (w'.cell? ⟨b, o + i * 2, none⟩ = some (.string nm) ∧ w'.cell? ⟨b', o' + i * 2, none⟩ = some (.string nm')) ∧ w'.cell? ⟨b, o + i * 2 + 1, none⟩ = some (.slice B bl.length d) ∧ w'.cell? ⟨b', o' + i * 2 + 1, none⟩ = some (.slice B' bl'.length d'))) (by kernel_rfl) (HC.out _ (Below.refl wr.heap.size wr).drew) (fun hHeld => ?_)
      refine Plan.start [0, 1, 2, 3, 4, 5, 6, 7, 8, 9, 10, 11, 12, 13, 14, 15, 16, 17, 18, 19, 20, 21] ?_
      iterate 22 (refine Plan.tk (so rfl) hHeld ?_; try simp only [Act.put, pz1, pz2, pz3])
      refine Plan.done ?_
      refine wpAnyH_ready (rs := [22]) (by kernel_rfl) (by simp) ?_
      refine AllReadyH.cons (sd (some 50) rfl) (fun K hK => ?_) AllReadyH.nil
      go_simp
      refine (sign_any _ _ _).mono ?_
      rintro e w2 ⟨rfl, rfl⟩
      simp only [sgn]
      go_wp2_with fail
      refine hK.out _ _ (HC.out _ (Below.refl wr.heap.size wr).drew) (fun hHeld => ?_)
      clear hK K
      try simp only [Act.put, pz1, pz2, pz3]
      refine Plan.start [23] ?_
      refine Plan.tk (so rfl) hHeld ?_
      try simp only [Act.put, pz1, pz2, pz3]
      refine Plan.done ?_
      refine wpAnyH_done (by kernel_rfl) ?_ _
      clear hHeld
      clear i0 i1 t1 ga gb
      go_wp2_with fail
      refine ⟨⟨(-1), i + 1, HLE.out, by first | rfl | trivial, by first | rfl | rw [wr2], HV2.out, HB.out.drew⟩, ?_⟩
      first | exact HM.out | (rw [wr2]; exact HM.out)
     ·have HV2 : Hid (or2 1 (restC (fun v : ByteArray × List Ty => Tok.s v.1 :: flatL v.2) l l' (i + 1)) = res) := Hd (by have h := HV.out; rw [ge, or2_ne (a := 1) (by decide)] at h; exact h)
      clear ge
      go_wp2_with fail
      refine wp_region_held_drew (S := (fun w' => (w'.cell? ⟨b, o + i * 2, none⟩ = some (.string nm) ∧ w'.cell? ⟨b', o' + i * 2, none⟩ = some (.string nm')) ∧ w'.cell? ⟨b, o + i * 2 + 1, none⟩ = some (.slice B bl.length d) ∧ w'.cell? ⟨b', o' + i * 2 + 1, none⟩ = some (.slice B' bl'.length d'))) (by kernel_rfl) (HC.out _ (Below.refl wr.heap.size wr).drew) (fun hHeld => ?_)
      refine Plan.start [0, 1, 2, 3, 4, 5, 6, 7, 8, 9, 10, 11, 12, 13, 14, 15, 16, 17, 18, 19, 20, 21] ?_
      iterate 22 (refine Plan.tk (so rfl) hHeld ?_; try simp only [Act.put, pz1, pz2, pz3])
      refine Plan.done ?_
      refine wpAnyH_ready (rs := [22]) (by kernel_rfl) (by simp) ?_
      refine AllReadyH.cons (sd (some 50) rfl) (fun K hK => ?_) AllReadyH.nil
      go_simp
      refine (sign_any _ _ _).mono ?_
      rintro e w2 ⟨rfl, rfl⟩
      simp only [sgn]
      go_wp2_with fail
      refine hK.out _ _ (HC.out _ (Below.refl wr.heap.size wr).drew) (fun hHeld => ?_)
      clear hK K
      try simp only [Act.put, pz1, pz2, pz3]
      refine Plan.start [23] ?_
      refine Plan.tk (so rfl) hHeld ?_
      try simp only [Act.put, pz1, pz2, pz3]
      refine Plan.done ?_
      refine wpAnyH_done (by kernel_rfl) ?_ _
      clear hHeld
      clear i0 i1 t1 ga gb
      go_wp2_with fail
      refine ⟨⟨1, i + 1, HLE.out, by first | rfl | trivial, by first | rfl | rw [wr2], HV2.out, HB.out.drew⟩, ?_⟩
      first | exact HM.out | (rw [wr2]; exact HM.out)
     ·have HV1 : Hid (or2 (oo) (restC (fun v : ByteArray × List Ty => Tok.s v.1 :: flatL v.2) l l' (i + 1)) = res) := Hd (by have h := HV.out; rw [ge, or2_zero] at h; exact h)
      clear ge
      go_wp2_with fail
      refine wp_region_held_drew (S := (fun w' => (w'.cell? ⟨b, o + i * 2, none⟩ = some (.string nm) ∧ w'.cell? ⟨b', o' + i * 2, none⟩ = some (.string nm')) ∧ w'.cell? ⟨b, o + i * 2 + 1, none⟩ = some (.slice B bl.length d) ∧ w'.cell? ⟨b', o' + i * 2 + 1, none⟩ = some (.slice B' bl'.length d'))) (by kernel_rfl) (HC.out _ (Below.refl wr.heap.size wr).drew) (fun hHeld => ?_)
      refine Plan.start [0, 1, 2, 3, 4, 5, 6, 7, 8, 9, 10, 11, 12, 13, 14, 15, 16, 17, 18, 19, 20, 21] ?_
      iterate 22 (refine Plan.tk (so rfl) hHeld ?_; try simp only [Act.put, pz1, pz2, pz3])
      refine Plan.done ?_
      refine wpAnyH_ready (rs := [22]) (by kernel_rfl) (by simp) ?_
      refine AllReadyH.cons (sd (some 50) rfl) (fun K hK => ?_) AllReadyH.nil
      go_simp
      refine (sign_any _ _ _).mono ?_
      rintro e w2 ⟨rfl, rfl⟩
      simp only [sgn]
      go_wp2_with fail
      refine hK.out _ _ (HC.out _ (Below.refl wr.heap.size wr).drew) (fun hHeld => ?_)
      clear hK K
      try simp only [Act.put, pz1, pz2, pz3]
      refine Plan.start [23] ?_
      refine Plan.tk (so rfl) hHeld ?_
      try simp only [Act.put, pz1, pz2, pz3]
      refine Plan.done ?_
      refine wpAnyH_done (by kernel_rfl) ?_ _
      clear hHeld
      clear ga gb
      go_wp2_with fail
      refine wp_region_held_drew (S := (fun w' => (w'.cell? ⟨b, o + i * 2, none⟩ = some (.string nm) ∧ w'.cell? ⟨b', o' + i * 2, none⟩ = some (.string nm')) ∧ w'.cell? ⟨b, o + i * 2 + 1, none⟩ = some (.slice B bl.length d) ∧ w'.cell? ⟨b', o' + i * 2 + 1, none⟩ = some (.slice B' bl'.length d'))) (by kernel_rfl) (HC.out _ (Below.refl wr.heap.size wr).drew.drew) (fun hHeld => ?_)
      refine Plan.start [0, 1, 2, 3, 4, 5, 6, 7, 8, 9] ?_
      iterate 10 (refine Plan.tk (so rfl) hHeld ?_; try simp only [Act.put, pz1, pz2, pz3])
      refine Plan.done ?_
      refine wpAnyH_ready (rs := [10]) (by kernel_rfl) (by simp) ?_
      refine AllReadyH.cons (sd (some 63) rfl) (fun K hK => ?_) AllReadyH.nil
      go_simp
      refine (KO.out _ (Below.refl wr.heap.size wr).drew.drew).mono ?_
      rintro e w2 ⟨rfl, hb2⟩
      have HB2 := Hd ((Below.refl wr.heap.size wr).drew.drew.trans hb2.below)
      have HG2 := Hd ((HB.out.drew.drew).trans hb2)
      clear hb2
      go_wp2_with fail
      refine hK.out _ _ (HC.out _ HB2.out) (fun hHeld => ?_)
      clear hK K
      try simp only [Act.put, pz1, pz2, pz3]
      refine Plan.start [11] ?_
      refine Plan.tk (so rfl) hHeld ?_
      try simp only [Act.put, pz1, pz2, pz3]
      refine Plan.done ?_
      refine wpAnyH_done (by kernel_rfl) ?_ _
      clear hHeld
      clear i0 i1 t1
      go_wp2_with fail
      refine ⟨⟨oo, i + 1, HLE.out, by first | rfl | trivial, by first | rfl | rw [wr2], HV1.out, HG2.out⟩, ?_⟩
      first | exact HM.out | (rw [wr2]; exact HM.out)
    ·have t1 : decide ((i : Int) < (l.length : Int)) = false := by simp; omega
     have HR : Hid (res = 0) := Hd (by
      have h := HO.out
      rw [show i = l.length from by omega, rest_end (fun v : ByteArray × List Ty => Tok.s v.1 :: flatL v.2) HEQ.out, or2_zero] at h
      exact h.symm)
     clear hi hb
     go_wp2_with fail
     go_ret
     exact ⟨by rw [HR.out]; rfl, HB.out⟩
   ·have hc0 : (cc == 0) = false := by simpa using hcc
    have HR : Hid (res = cc) := Hd (by rw [← HO.out, or2_ne hcc])
    clear hi hb hcc
    go_wp2_with fail
    go_ret
    exact ⟨by rw [HR.out]; rfl, HB.out⟩
 ·rw [row_len (fun v : ByteArray × List Ty => Tok.s v.1 :: flatL v.2) heq]
  rcases cmpZ_cases (l.length : Int) (l'.length : Int) with ⟨ha, hb, he⟩ | ⟨ha, hb, he⟩ | ⟨ha, hb, he⟩
  ·have HE := Hd he
   have n1 : l.length < l'.length := by omega
   have n2 : ¬ l'.length < l.length := by omega
   clear he heq ha hb
   go_enter Tryz.func44, Tryz.ntmps44
   go_wp2_with fail
   refine (sign_any _ _ _).mono ?_
   rintro e w1 ⟨rfl, rfl⟩
   simp only [sgn]
   go_wp2_with fail
   go_loopw [5, 6] (fun vc _ wr => vc = .int .i64 (-1) ∧ wr = w1) (fun _ _ _ => 0)
   case atStart => exact ⟨by first | rfl | simp, rfl⟩
   case round =>
    obtain ⟨rfl, rfl⟩ := hrel
    go_wp2_with fail
    go_ret
    exact ⟨by rw [HE.out]; rfl, Gw.refl _⟩
  ·have HE := Hd he
   have n1 : ¬ l.length < l'.length := by omega
   have n2 : l'.length < l.length := by omega
   clear he heq ha hb
   go_enter Tryz.func44, Tryz.ntmps44
   go_wp2_with fail
   refine (sign_any _ _ _).mono ?_
   rintro e w1 ⟨rfl, rfl⟩
   simp only [sgn]
   go_wp2_with fail
   go_loopw [5, 6] (fun vc _ wr => vc = .int .i64 (1) ∧ wr = w1) (fun _ _ _ => 0)
   case atStart => exact ⟨by first | rfl | simp, rfl⟩
   case round =>
    obtain ⟨rfl, rfl⟩ := hrel
    go_wp2_with fail
    go_ret
    exact ⟨by rw [HE.out]; rfl, Gw.refl _⟩
  ·exact absurd heq (by omega)
theorem mem_take_next {α : Type} {Q : α → Prop} {l : List α} {i : Nat} (h : i < l.length) (ha : ∀ p ∈ l.take i, Q p) (hb : Q (l[i]'h)) : ∀ p ∈ l.take (i + 1), Q p := by
 intro p hp
 rw [List.take_succ_eq_append_getElem h] at hp
 rcases List.mem_append.1 hp with h1 | h1
 ·exact ha p h1
 ·rw [List.mem_singleton.1 h1]
  exact hb
theorem all_fit {K : Nat → Prop} {w : World} {l : List Ty} {A : Option Addr} {c F b : Nat} {p1 p2 : Option Addr} {fuel lo rows : Int} {m1 m2 : Option Nat} {asked : Value} (P : Ty → Prop) (hcf : ∀ (args : Array Value) (w : World), Sem.run Tryz.prog (callFunc F args) w = .ok (.enter F args) w) (hL : ListT K w l A c) (hK : ∀ x, K x → x < w.heap.size ∧ x ≠ b) (hI : RunI b fuel lo m1 m2 asked rows w w)
  (KF : ∀ p ∈ l, ∀ wx ds, RunI b fuel lo m1 m2 asked rows w wx → RepT K wx p ds → Calls Tryz.prog F #[.agg ds.toArray, .pointer p1, .pointer p2] wx (FitPost b fuel lo m1 m2 asked rows wx True (P p))) :
  Calls Tryz.prog 88 #[.slice A l.length c, .func (.func F) #[] #[.pointer p1, .pointer p2]] w (FitPost b fuel lo m1 m2 asked rows w (l ≠ []) (∀ p ∈ l, P p)) := by
 obtain ⟨PO, hPO⟩ : ∃ PO : Ending → World → Prop, PO = FitPost b fuel lo m1 m2 asked rows w (l ≠ []) (∀ p ∈ l, P p) := ⟨_, rfl⟩
 have HYES : Hid (∀ (r : Bool) w', (r = true ↔ (∀ p ∈ l, P p)) → RunI b fuel lo m1 m2 asked rows w w' → PO (.returned (.bool r)) w') := Hd fun r w' h1 h2 => by rw [hPO]; exact .inl ⟨r, rfl, h1, h2⟩
 have HNO : Hid (∀ w', l ≠ [] → ButG (fun x => x = b) w w' → PO (.panicked [{ v := stopV, recovered := false }]) w') := Hd fun w' h1 h2 => by rw [hPO]; exact .inr ⟨rfl, h1, h2⟩
 rw [← hPO]
 have HL := Hd hL
 have HK := Hd hK
 have HI := Hd hI
 have HF := Hd KF
 have HLN : Hid (l.length ≤ 1000000000000000) := Hd (by obtain ⟨_, _, r1, -⟩ := hL; exact r1.big)
 clear hPO hL hK hI KF
 go_enter Tryz.func88, Tryz.ntmps88
 go_wp2_with fail
 go_loopw [9] (fun v wr => ∃ i : Nat, i ≤ l.length ∧ v = .int .i64 i ∧ RunI b fuel lo m1 m2 asked rows w wr ∧ ∀ p ∈ l.take i, P p) (fun v _ => l.length - (intOf v).toNat)
 case atStart => exact ⟨0, Nat.zero_le _, rfl, HI.out, fun p hp => absurd hp (by simp)⟩
 case round =>
  obtain ⟨i, hi, rfl, hu, hno⟩ := hrel
  have hln := HLN.out
  have HU := Hd hu
  by_cases hin : i < l.length
  ·have t1 : decide ((i : Int) < (l.length : Int)) = true := by simp; omega
   have wr2 : wrap64 ((i : Int) + 1) = ((i + 1 : Nat) : Int) := wrap_one (by omega)
   have HM := Hd (measI hin)
   have HIn : Hid (i + 1 ≤ l.length) := Hd hin
   have hbw : ButG (fun x => x = b) w wr := by obtain ⟨_, _, _, _, h⟩ := hu; exact h
   obtain ⟨tb, tq, hA, hKb, hat⟩ := HL.out.at (Nat.lt_of_le_of_lt (Nat.zero_le i) hin)
   subst hA
   obtain ⟨ds, hds, hrq⟩ := hat i hin
   have hmem := List.getElem_mem hin
   have HKF := Hd (HF.out _ hmem)
   have HNE : Hid (l ≠ []) := Hd (by intro e; rw [e] at hin; simp at hin)
   have HNX : Hid ((P (l[i]'hin)) → ∀ p ∈ l.take (i + 1), P p) := Hd fun h => mem_take_next hin hno h
   have HST : Hid ((¬ P (l[i]'hin)) → (¬ ∀ p ∈ l, P p)) := Hd fun h => fun hall => h (hall _ hmem)
   have i1 : (0 : Int) ≤ (i : Int) := by omega
   have i2 : (i : Int) < (l.length : Int) := by omega
   generalize l[i]'hin = q at hrq HKF HNX HST
   obtain ⟨k3, s3, n3, ps3, fs3, vs3⟩ := q
   obtain ⟨A3, c3, B3, d3, C3, e3, rfl, -⟩ := hrq.inv
   simp only [cells6T] at hds hrq
   have hcell : ∀ j v, [.int .i64 k3, .string s3, .int .i64 n3, .slice A3 ps3.length c3, .slice B3 fs3.length d3, .slice C3 vs3.length e3][j]? = some v → wr.cell? ⟨tb, tq + i * 6 + j, none⟩ = some v := fun j v h => hbw.cell (HK.out tb hKb).2 (hds j v h)
   obtain ⟨y0, y1, y2, y3, y4, y5⟩ : (wr.cell? ⟨tb, tq + i * 6, none⟩ = some (.int .i64 k3) ∧ wr.cell? ⟨tb, tq + i * 6 + 1, none⟩ = some (.string s3) ∧ wr.cell? ⟨tb, tq + i * 6 + 2, none⟩ = some (.int .i64 n3) ∧ wr.cell? ⟨tb, tq + i * 6 + 3, none⟩ = some (.slice A3 ps3.length c3) ∧ wr.cell? ⟨tb, tq + i * 6 + 4, none⟩ = some (.slice B3 fs3.length d3) ∧ wr.cell? ⟨tb, tq + i * 6 + 5, none⟩ = some (.slice C3 vs3.length e3)) := ⟨hcell 0 _ rfl, hcell 1 _ rfl, hcell 2 _ rfl, hcell 3 _ rfl, hcell 4 _ rfl, hcell 5 _ rfl⟩
   have hRQ := hrq.but hbw fun x hx => ⟨(HK.out x hx).2, hx⟩
   obtain ⟨w2, hw2⟩ : ∃ x, x = wr.alloc (.cells #[.int .i64 k3, .string s3, .int .i64 n3, .slice A3 ps3.length c3, .slice B3 fs3.length d3, .slice C3 vs3.length e3] 26) := ⟨_, rfl⟩
   obtain ⟨g, hg⟩ : ∃ x, x = wr.heap.size := ⟨_, rfl⟩
   have hb2 : Below wr.heap.size wr w2 := by rw [hw2]; exact (Below.refl _ _).alloc (Nat.le_refl _) _
   have hx2 : w2.heap[g]? = some (.cells #[.int .i64 k3, .string s3, .int .i64 n3, .slice A3 ps3.length c3, .slice B3 fs3.length d3, .slice C3 vs3.length e3] 26 (0, 0)) := by rw [hw2, hg]; exact heap_alloc_new wr _
   have HU2 := Hd (hu.below hb2)
   have KC := Hd (HKF.out w2 _ (hu.below hb2) (hRQ.later hb2))
   have HW2 := Hd hw2
   have HG := Hd hg
   have HX2 := Hd hx2
   clear hi hu hno hln hat hmem hds hrq hcell hRQ hw2 hg hb2 hx2 hbw hKb HKF
   go_upto_region 4 with fail
   rw [← HW2.out, ← HG.out]
   obtain ⟨x0, x1, x2, x3, x4, x5⟩ := cz6 HX2.out
   clear y0 y1 y2 y3 y4 y5
   go_wp2_with fail
   refine KC.out.mono ?_
   rintro e5 w5 (⟨r, rfl, hr5, hu5⟩ | ⟨rfl, -, hb5⟩)
   ·have HU5 : Hid (RunI b fuel lo m1 m2 asked rows w w5) := Hd (RunI.trans (by obtain ⟨_, _, _, _, h⟩ := HU2.out; exact h) hu5 (Int.le_refl _))
    have HR5 := Hd hr5
    clear hr5 hu5 KC x0 x1 x2 x3 x4 x5
    cases r with
    | false =>
     go_wp2_with fail
     exact HYES.out _ _ (iff_of_false (by decide) (HST.out fun h => absurd (HR5.out.2 h) (by decide))) HU5.out
    | true =>
     go_wp2_with fail
     refine ⟨⟨i + 1, HIn.out, by first | rfl | rw [wr2], HU5.out, HNX.out (HR5.out.1 (by trivial))⟩, ?_⟩
     first | exact HM.out | (rw [wr2]; exact HM.out)
   ·have HFIN : Hid (PO (.panicked [{ v := stopV, recovered := false }]) w5) := Hd (HNO.out _ HNE.out ((show ButG (fun x => x = b) w w2 by obtain ⟨_, _, _, _, h⟩ := HU2.out; exact h).same hb5))
    clear hb5
    go_wp2_with fail
    first | exact HFIN.out | (simp only [bodyPost]; exact ⟨trivial, HFIN.out⟩)
  ·have t1 : decide ((i : Int) < (l.length : Int)) = false := by simp; omega
   rw [List.take_of_length_le (by omega)] at hno
   have HNL := Hd hno
   clear hi hu hno hln
   go_wp2_with fail
   exact HYES.out _ _ (iff_of_true rfl HNL.out) HU.out
theorem some_fit {K : Nat → Prop} {w : World} {l : List Ty} {A : Option Addr} {c F b : Nat} {p1 p2 : Option Addr} {fuel lo rows : Int} {m1 m2 : Option Nat} {asked : Value} (P : Ty → Prop) (hcf : ∀ (args : Array Value) (w : World), Sem.run Tryz.prog (callFunc F args) w = .ok (.enter F args) w) (hL : ListT K w l A c) (hK : ∀ x, K x → x < w.heap.size ∧ x ≠ b) (hI : RunI b fuel lo m1 m2 asked rows w w)
  (KF : ∀ p ∈ l, ∀ wx ds, RunI b fuel lo m1 m2 asked rows w wx → RepT K wx p ds → Calls Tryz.prog F #[.agg ds.toArray, .pointer p1, .pointer p2] wx (FitPost b fuel lo m1 m2 asked rows wx True (P p))) :
  Calls Tryz.prog 90 #[.slice A l.length c, .func (.func F) #[] #[.pointer p1, .pointer p2]] w (FitPost b fuel lo m1 m2 asked rows w (l ≠ []) (∃ p ∈ l, P p)) := by
 obtain ⟨PO, hPO⟩ : ∃ PO : Ending → World → Prop, PO = FitPost b fuel lo m1 m2 asked rows w (l ≠ []) (∃ p ∈ l, P p) := ⟨_, rfl⟩
 have HYES : Hid (∀ (r : Bool) w', (r = true ↔ (∃ p ∈ l, P p)) → RunI b fuel lo m1 m2 asked rows w w' → PO (.returned (.bool r)) w') := Hd fun r w' h1 h2 => by rw [hPO]; exact .inl ⟨r, rfl, h1, h2⟩
 have HNO : Hid (∀ w', l ≠ [] → ButG (fun x => x = b) w w' → PO (.panicked [{ v := stopV, recovered := false }]) w') := Hd fun w' h1 h2 => by rw [hPO]; exact .inr ⟨rfl, h1, h2⟩
 rw [← hPO]
 have HL := Hd hL
 have HK := Hd hK
 have HI := Hd hI
 have HF := Hd KF
 have HLN : Hid (l.length ≤ 1000000000000000) := Hd (by obtain ⟨_, _, r1, -⟩ := hL; exact r1.big)
 clear hPO hL hK hI KF
 go_enter Tryz.func90, Tryz.ntmps90
 go_wp2_with fail
 go_loopw [9] (fun v wr => ∃ i : Nat, i ≤ l.length ∧ v = .int .i64 i ∧ RunI b fuel lo m1 m2 asked rows w wr ∧ ∀ p ∈ l.take i, ¬ P p) (fun v _ => l.length - (intOf v).toNat)
 case atStart => exact ⟨0, Nat.zero_le _, rfl, HI.out, fun p hp => absurd hp (by simp)⟩
 case round =>
  obtain ⟨i, hi, rfl, hu, hno⟩ := hrel
  have hln := HLN.out
  have HU := Hd hu
  by_cases hin : i < l.length
  ·have t1 : decide ((i : Int) < (l.length : Int)) = true := by simp; omega
   have wr2 : wrap64 ((i : Int) + 1) = ((i + 1 : Nat) : Int) := wrap_one (by omega)
   have HM := Hd (measI hin)
   have HIn : Hid (i + 1 ≤ l.length) := Hd hin
   have hbw : ButG (fun x => x = b) w wr := by obtain ⟨_, _, _, _, h⟩ := hu; exact h
   obtain ⟨tb, tq, hA, hKb, hat⟩ := HL.out.at (Nat.lt_of_le_of_lt (Nat.zero_le i) hin)
   subst hA
   obtain ⟨ds, hds, hrq⟩ := hat i hin
   have hmem := List.getElem_mem hin
   have HKF := Hd (HF.out _ hmem)
   have HNE : Hid (l ≠ []) := Hd (by intro e; rw [e] at hin; simp at hin)
   have HNX : Hid ((¬ P (l[i]'hin)) → ∀ p ∈ l.take (i + 1), ¬ P p) := Hd fun h => mem_take_next hin hno h
   have HST : Hid ((P (l[i]'hin)) → (∃ p ∈ l, P p)) := Hd fun h => ⟨_, hmem, h⟩
   have i1 : (0 : Int) ≤ (i : Int) := by omega
   have i2 : (i : Int) < (l.length : Int) := by omega
   generalize l[i]'hin = q at hrq HKF HNX HST
   obtain ⟨k3, s3, n3, ps3, fs3, vs3⟩ := q
   obtain ⟨A3, c3, B3, d3, C3, e3, rfl, -⟩ := hrq.inv
   simp only [cells6T] at hds hrq
   have hcell : ∀ j v, [.int .i64 k3, .string s3, .int .i64 n3, .slice A3 ps3.length c3, .slice B3 fs3.length d3, .slice C3 vs3.length e3][j]? = some v → wr.cell? ⟨tb, tq + i * 6 + j, none⟩ = some v := fun j v h => hbw.cell (HK.out tb hKb).2 (hds j v h)
   obtain ⟨y0, y1, y2, y3, y4, y5⟩ : (wr.cell? ⟨tb, tq + i * 6, none⟩ = some (.int .i64 k3) ∧ wr.cell? ⟨tb, tq + i * 6 + 1, none⟩ = some (.string s3) ∧ wr.cell? ⟨tb, tq + i * 6 + 2, none⟩ = some (.int .i64 n3) ∧ wr.cell? ⟨tb, tq + i * 6 + 3, none⟩ = some (.slice A3 ps3.length c3) ∧ wr.cell? ⟨tb, tq + i * 6 + 4, none⟩ = some (.slice B3 fs3.length d3) ∧ wr.cell? ⟨tb, tq + i * 6 + 5, none⟩ = some (.slice C3 vs3.length e3)) := ⟨hcell 0 _ rfl, hcell 1 _ rfl, hcell 2 _ rfl, hcell 3 _ rfl, hcell 4 _ rfl, hcell 5 _ rfl⟩
   have hRQ := hrq.but hbw fun x hx => ⟨(HK.out x hx).2, hx⟩
   obtain ⟨w2, hw2⟩ : ∃ x, x = wr.alloc (.cells #[.int .i64 k3, .string s3, .int .i64 n3, .slice A3 ps3.length c3, .slice B3 fs3.length d3, .slice C3 vs3.length e3] 26) := ⟨_, rfl⟩
   obtain ⟨g, hg⟩ : ∃ x, x = wr.heap.size := ⟨_, rfl⟩
   have hb2 : Below wr.heap.size wr w2 := by rw [hw2]; exact (Below.refl _ _).alloc (Nat.le_refl _) _
   have hx2 : w2.heap[g]? = some (.cells #[.int .i64 k3, .string s3, .int .i64 n3, .slice A3 ps3.length c3, .slice B3 fs3.length d3, .slice C3 vs3.length e3] 26 (0, 0)) := by rw [hw2, hg]; exact heap_alloc_new wr _
   have HU2 := Hd (hu.below hb2)
   have KC := Hd (HKF.out w2 _ (hu.below hb2) (hRQ.later hb2))
   have HW2 := Hd hw2
   have HG := Hd hg
   have HX2 := Hd hx2
   clear hi hu hno hln hat hmem hds hrq hcell hRQ hw2 hg hb2 hx2 hbw hKb HKF
   go_upto_region 4 with fail
   rw [← HW2.out, ← HG.out]
   obtain ⟨x0, x1, x2, x3, x4, x5⟩ := cz6 HX2.out
   clear y0 y1 y2 y3 y4 y5
   go_wp2_with fail
   refine KC.out.mono ?_
   rintro e5 w5 (⟨r, rfl, hr5, hu5⟩ | ⟨rfl, -, hb5⟩)
   ·have HU5 : Hid (RunI b fuel lo m1 m2 asked rows w w5) := Hd (RunI.trans (by obtain ⟨_, _, _, _, h⟩ := HU2.out; exact h) hu5 (Int.le_refl _))
    have HR5 := Hd hr5
    clear hr5 hu5 KC x0 x1 x2 x3 x4 x5
    cases r with
    | true =>
     go_wp2_with fail
     exact HYES.out _ _ (iff_of_true rfl (HST.out (HR5.out.1 (by trivial)))) HU5.out
    | false =>
     go_wp2_with fail
     refine ⟨⟨i + 1, HIn.out, by first | rfl | rw [wr2], HU5.out, HNX.out (fun h => absurd (HR5.out.2 h) (by decide))⟩, ?_⟩
     first | exact HM.out | (rw [wr2]; exact HM.out)
   ·have HFIN : Hid (PO (.panicked [{ v := stopV, recovered := false }]) w5) := Hd (HNO.out _ HNE.out ((show ButG (fun x => x = b) w w2 by obtain ⟨_, _, _, _, h⟩ := HU2.out; exact h).same hb5))
    clear hb5
    go_wp2_with fail
    first | exact HFIN.out | (simp only [bodyPost]; exact ⟨trivial, HFIN.out⟩)
  ·have t1 : decide ((i : Int) < (l.length : Int)) = false := by simp; omega
   rw [List.take_of_length_le (by omega)] at hno
   have HNL := Hd hno
   clear hi hu hno hln
   go_wp2_with fail
   exact HYES.out _ _ (iff_of_false (by decide) fun ⟨p, hp, h⟩ => HNL.out p hp h) HU.out
theorem clo_l1 {K K' : Nat → Prop} {w : World} {s t : Ty} {cs ds : List Value} {c1 c2 b : Nat} {fuel lo rows : Int} {m1 m2 : Option Nat} {asked : Value} {q p : Prop} (hr : RepT K w s cs) (hp : RepT K' w t ds) (h1 : w.heap[c1]? = some (.cells #[.pointer (some ⟨b, 0, none⟩)] 62 (0, 0))) (h2 : w.heap[c2]? = some (.cells ds.toArray 26 (0, 0)))
  (KF : ∀ wx, Below w.heap.size w wx → Calls Tryz.prog 28 #[.pointer (some ⟨b, 0, none⟩), .agg cs.toArray, .agg ds.toArray] wx (FitPost b fuel lo m1 m2 asked rows wx q p)) :
  Calls Tryz.prog 89 #[.agg cs.toArray, .pointer (some ⟨c1, 0, none⟩), .pointer (some ⟨c2, 0, none⟩)] w (FitPost b fuel lo m1 m2 asked rows w q p) := by
 obtain ⟨k, s, n, ps, fs, vs⟩ := s
 obtain ⟨A, c, B, d, C, e, rfl, -⟩ := hr.inv
 obtain ⟨k2, s2, n2, ps2, fs2, vs2⟩ := t
 obtain ⟨A2, c2', B2, d2, C2, e2, rfl, -⟩ := hp.inv
 simp only [cells6T] at hr hp h2 KF ⊢
 obtain ⟨w1, hw1⟩ : ∃ x, x = w.alloc (.cells #[.int .i64 k, .string s, .int .i64 n, .slice A ps.length c, .slice B fs.length d, .slice C vs.length e] 26) := ⟨_, rfl⟩
 obtain ⟨g, hg⟩ : ∃ x, x = w.heap.size := ⟨_, rfl⟩
 have hb1 : Below w.heap.size w w1 := by rw [hw1]; exact (Below.refl _ _).alloc (Nat.le_refl _) _
 have hx1 : w1.heap[g]? = some (.cells #[.int .i64 k, .string s, .int .i64 n, .slice A ps.length c, .slice B fs.length d, .slice C vs.length e] 26 (0, 0)) := by rw [hw1, hg]; exact heap_alloc_new w _
 have hy1 := box_up hb1 (Array.getElem?_eq_some_iff.1 h2).1 h2
 have r0 : w1.cell? ⟨c1, 0, none⟩ = some (.pointer (some ⟨b, 0, none⟩)) := Ch (box_up hb1 (Array.getElem?_eq_some_iff.1 h1).1 h1) 0
 have KF1 := Hd (KF w1 hb1)
 obtain ⟨x0, x1, x2, x3, x4, x5⟩ := cz6 hx1
 obtain ⟨y0, y1, y2, y3, y4, y5⟩ := cz6 hy1
 have HW1 := Hd hw1
 have HG := Hd hg
 have HB1 := Hd (ButG.of_below (O := fun x => x = b) hb1)
 obtain ⟨PO, hPO⟩ : ∃ PO : Ending → World → Prop, PO = FitPost b fuel lo m1 m2 asked rows w q p := ⟨_, rfl⟩
 have HPO : Hid (∀ e w', FitPost b fuel lo m1 m2 asked rows w1 q p e w' → PO e w') := Hd fun e w' h => by rw [hPO]; exact FitPost.trans HB1.out (Int.le_refl _) id Iff.rfl h
 rw [← hPO]
 clear hr hp h1 h2 KF hw1 hg hb1 hx1 hy1 hPO
 go_enter Tryz.func89, Tryz.ntmps89
 go_upto_region 1 with fail
 rw [← HW1.out, ← HG.out]
 go_wp2_with fail
 refine KF1.out.mono ?_
 intro e5 w5 h5
 have HP := Hd (HPO.out e5 w5 h5)
 rcases h5 with ⟨r, rfl, -, -⟩ | ⟨rfl, -, -⟩
 ·clear x0 x1 x2 x3 x4 x5 y0 y1 y2 y3 y4 y5 r0
  go_wp2_with fail
  exact HP.out
 ·clear x0 x1 x2 x3 x4 x5 y0 y1 y2 y3 y4 y5 r0
  go_wp2_with fail
  first | exact HP.out | (simp only [bodyPost]; exact ⟨trivial, HP.out⟩)
theorem clo_l2 {K K' : Nat → Prop} {w : World} {s t : Ty} {cs ds : List Value} {c1 c2 b : Nat} {fuel lo rows : Int} {m1 m2 : Option Nat} {asked : Value} {q p : Prop} (hr : RepT K w s cs) (hp : RepT K' w t ds) (h1 : w.heap[c1]? = some (.cells #[.pointer (some ⟨b, 0, none⟩)] 62 (0, 0))) (h2 : w.heap[c2]? = some (.cells ds.toArray 26 (0, 0)))
  (KF : ∀ wx, Below w.heap.size w wx → Calls Tryz.prog 28 #[.pointer (some ⟨b, 0, none⟩), .agg ds.toArray, .agg cs.toArray] wx (FitPost b fuel lo m1 m2 asked rows wx q p)) :
  Calls Tryz.prog 91 #[.agg cs.toArray, .pointer (some ⟨c1, 0, none⟩), .pointer (some ⟨c2, 0, none⟩)] w (FitPost b fuel lo m1 m2 asked rows w q p) := by
 obtain ⟨k, s, n, ps, fs, vs⟩ := s
 obtain ⟨A, c, B, d, C, e, rfl, -⟩ := hr.inv
 obtain ⟨k2, s2, n2, ps2, fs2, vs2⟩ := t
 obtain ⟨A2, c2', B2, d2, C2, e2, rfl, -⟩ := hp.inv
 simp only [cells6T] at hr hp h2 KF ⊢
 obtain ⟨w1, hw1⟩ : ∃ x, x = w.alloc (.cells #[.int .i64 k, .string s, .int .i64 n, .slice A ps.length c, .slice B fs.length d, .slice C vs.length e] 26) := ⟨_, rfl⟩
 obtain ⟨g, hg⟩ : ∃ x, x = w.heap.size := ⟨_, rfl⟩
 have hb1 : Below w.heap.size w w1 := by rw [hw1]; exact (Below.refl _ _).alloc (Nat.le_refl _) _
 have hx1 : w1.heap[g]? = some (.cells #[.int .i64 k, .string s, .int .i64 n, .slice A ps.length c, .slice B fs.length d, .slice C vs.length e] 26 (0, 0)) := by rw [hw1, hg]; exact heap_alloc_new w _
 have hy1 := box_up hb1 (Array.getElem?_eq_some_iff.1 h2).1 h2
 have r0 : w1.cell? ⟨c1, 0, none⟩ = some (.pointer (some ⟨b, 0, none⟩)) := Ch (box_up hb1 (Array.getElem?_eq_some_iff.1 h1).1 h1) 0
 have KF1 := Hd (KF w1 hb1)
 obtain ⟨x0, x1, x2, x3, x4, x5⟩ := cz6 hx1
 obtain ⟨y0, y1, y2, y3, y4, y5⟩ := cz6 hy1
 have HW1 := Hd hw1
 have HG := Hd hg
 have HB1 := Hd (ButG.of_below (O := fun x => x = b) hb1)
 obtain ⟨PO, hPO⟩ : ∃ PO : Ending → World → Prop, PO = FitPost b fuel lo m1 m2 asked rows w q p := ⟨_, rfl⟩
 have HPO : Hid (∀ e w', FitPost b fuel lo m1 m2 asked rows w1 q p e w' → PO e w') := Hd fun e w' h => by rw [hPO]; exact FitPost.trans HB1.out (Int.le_refl _) id Iff.rfl h
 rw [← hPO]
 clear hr hp h1 h2 KF hw1 hg hb1 hx1 hy1 hPO
 go_enter Tryz.func91, Tryz.ntmps91
 go_upto_region 1 with fail
 rw [← HW1.out, ← HG.out]
 go_wp2_with fail
 refine KF1.out.mono ?_
 intro e5 w5 h5
 have HP := Hd (HPO.out e5 w5 h5)
 rcases h5 with ⟨r, rfl, -, -⟩ | ⟨rfl, -, -⟩
 ·clear x0 x1 x2 x3 x4 x5 y0 y1 y2 y3 y4 y5 r0
  go_wp2_with fail
  exact HP.out
 ·clear x0 x1 x2 x3 x4 x5 y0 y1 y2 y3 y4 y5 r0
  go_wp2_with fail
  first | exact HP.out | (simp only [bodyPost]; exact ⟨trivial, HP.out⟩)
theorem clo_l3 {K K' : Nat → Prop} {w : World} {s t : Ty} {cs ds : List Value} {c1 c2 b : Nat} {fuel lo rows : Int} {m1 m2 : Option Nat} {asked : Value} {q p : Prop} (hr : RepT K w s cs) (hp : RepT K' w t ds) (h1 : w.heap[c1]? = some (.cells #[.pointer (some ⟨b, 0, none⟩)] 62 (0, 0))) (h2 : w.heap[c2]? = some (.cells ds.toArray 26 (0, 0)))
  (KF : ∀ wx, Below w.heap.size w wx → Calls Tryz.prog 28 #[.pointer (some ⟨b, 0, none⟩), .agg ds.toArray, .agg cs.toArray] wx (FitPost b fuel lo m1 m2 asked rows wx q p)) :
  Calls Tryz.prog 94 #[.agg cs.toArray, .pointer (some ⟨c1, 0, none⟩), .pointer (some ⟨c2, 0, none⟩)] w (FitPost b fuel lo m1 m2 asked rows w q p) := by
 obtain ⟨k, s, n, ps, fs, vs⟩ := s
 obtain ⟨A, c, B, d, C, e, rfl, -⟩ := hr.inv
 obtain ⟨k2, s2, n2, ps2, fs2, vs2⟩ := t
 obtain ⟨A2, c2', B2, d2, C2, e2, rfl, -⟩ := hp.inv
 simp only [cells6T] at hr hp h2 KF ⊢
 obtain ⟨w1, hw1⟩ : ∃ x, x = w.alloc (.cells #[.int .i64 k, .string s, .int .i64 n, .slice A ps.length c, .slice B fs.length d, .slice C vs.length e] 26) := ⟨_, rfl⟩
 obtain ⟨g, hg⟩ : ∃ x, x = w.heap.size := ⟨_, rfl⟩
 have hb1 : Below w.heap.size w w1 := by rw [hw1]; exact (Below.refl _ _).alloc (Nat.le_refl _) _
 have hx1 : w1.heap[g]? = some (.cells #[.int .i64 k, .string s, .int .i64 n, .slice A ps.length c, .slice B fs.length d, .slice C vs.length e] 26 (0, 0)) := by rw [hw1, hg]; exact heap_alloc_new w _
 have hy1 := box_up hb1 (Array.getElem?_eq_some_iff.1 h2).1 h2
 have r0 : w1.cell? ⟨c1, 0, none⟩ = some (.pointer (some ⟨b, 0, none⟩)) := Ch (box_up hb1 (Array.getElem?_eq_some_iff.1 h1).1 h1) 0
 have KF1 := Hd (KF w1 hb1)
 obtain ⟨x0, x1, x2, x3, x4, x5⟩ := cz6 hx1
 obtain ⟨y0, y1, y2, y3, y4, y5⟩ := cz6 hy1
 have HW1 := Hd hw1
 have HG := Hd hg
 have HB1 := Hd (ButG.of_below (O := fun x => x = b) hb1)
 obtain ⟨PO, hPO⟩ : ∃ PO : Ending → World → Prop, PO = FitPost b fuel lo m1 m2 asked rows w q p := ⟨_, rfl⟩
 have HPO : Hid (∀ e w', FitPost b fuel lo m1 m2 asked rows w1 q p e w' → PO e w') := Hd fun e w' h => by rw [hPO]; exact FitPost.trans HB1.out (Int.le_refl _) id Iff.rfl h
 rw [← hPO]
 clear hr hp h1 h2 KF hw1 hg hb1 hx1 hy1 hPO
 go_enter Tryz.func94, Tryz.ntmps94
 go_upto_region 1 with fail
 rw [← HW1.out, ← HG.out]
 go_wp2_with fail
 refine KF1.out.mono ?_
 intro e5 w5 h5
 have HP := Hd (HPO.out e5 w5 h5)
 rcases h5 with ⟨r, rfl, -, -⟩ | ⟨rfl, -, -⟩
 ·clear x0 x1 x2 x3 x4 x5 y0 y1 y2 y3 y4 y5 r0
  go_wp2_with fail
  exact HP.out
 ·clear x0 x1 x2 x3 x4 x5 y0 y1 y2 y3 y4 y5 r0
  go_wp2_with fail
  first | exact HP.out | (simp only [bodyPost]; exact ⟨trivial, HP.out⟩)
theorem clo_l4 {K K' : Nat → Prop} {w : World} {s t : Ty} {cs ds : List Value} {c1 c2 b : Nat} {fuel lo rows : Int} {m1 m2 : Option Nat} {asked : Value} {q p : Prop} (hr : RepT K w s cs) (hp : RepT K' w t ds) (h1 : w.heap[c1]? = some (.cells #[.pointer (some ⟨b, 0, none⟩)] 62 (0, 0))) (h2 : w.heap[c2]? = some (.cells ds.toArray 26 (0, 0)))
  (KF : ∀ wx, Below w.heap.size w wx → Calls Tryz.prog 28 #[.pointer (some ⟨b, 0, none⟩), .agg cs.toArray, .agg ds.toArray] wx (FitPost b fuel lo m1 m2 asked rows wx q p)) :
  Calls Tryz.prog 95 #[.agg cs.toArray, .pointer (some ⟨c1, 0, none⟩), .pointer (some ⟨c2, 0, none⟩)] w (FitPost b fuel lo m1 m2 asked rows w q p) := by
 obtain ⟨k, s, n, ps, fs, vs⟩ := s
 obtain ⟨A, c, B, d, C, e, rfl, -⟩ := hr.inv
 obtain ⟨k2, s2, n2, ps2, fs2, vs2⟩ := t
 obtain ⟨A2, c2', B2, d2, C2, e2, rfl, -⟩ := hp.inv
 simp only [cells6T] at hr hp h2 KF ⊢
 obtain ⟨w1, hw1⟩ : ∃ x, x = w.alloc (.cells #[.int .i64 k, .string s, .int .i64 n, .slice A ps.length c, .slice B fs.length d, .slice C vs.length e] 26) := ⟨_, rfl⟩
 obtain ⟨g, hg⟩ : ∃ x, x = w.heap.size := ⟨_, rfl⟩
 have hb1 : Below w.heap.size w w1 := by rw [hw1]; exact (Below.refl _ _).alloc (Nat.le_refl _) _
 have hx1 : w1.heap[g]? = some (.cells #[.int .i64 k, .string s, .int .i64 n, .slice A ps.length c, .slice B fs.length d, .slice C vs.length e] 26 (0, 0)) := by rw [hw1, hg]; exact heap_alloc_new w _
 have hy1 := box_up hb1 (Array.getElem?_eq_some_iff.1 h2).1 h2
 have r0 : w1.cell? ⟨c1, 0, none⟩ = some (.pointer (some ⟨b, 0, none⟩)) := Ch (box_up hb1 (Array.getElem?_eq_some_iff.1 h1).1 h1) 0
 have KF1 := Hd (KF w1 hb1)
 obtain ⟨x0, x1, x2, x3, x4, x5⟩ := cz6 hx1
 obtain ⟨y0, y1, y2, y3, y4, y5⟩ := cz6 hy1
 have HW1 := Hd hw1
 have HG := Hd hg
 have HB1 := Hd (ButG.of_below (O := fun x => x = b) hb1)
 obtain ⟨PO, hPO⟩ : ∃ PO : Ending → World → Prop, PO = FitPost b fuel lo m1 m2 asked rows w q p := ⟨_, rfl⟩
 have HPO : Hid (∀ e w', FitPost b fuel lo m1 m2 asked rows w1 q p e w' → PO e w') := Hd fun e w' h => by rw [hPO]; exact FitPost.trans HB1.out (Int.le_refl _) id Iff.rfl h
 rw [← hPO]
 clear hr hp h1 h2 KF hw1 hg hb1 hx1 hy1 hPO
 go_enter Tryz.func95, Tryz.ntmps95
 go_upto_region 1 with fail
 rw [← HW1.out, ← HG.out]
 go_wp2_with fail
 refine KF1.out.mono ?_
 intro e5 w5 h5
 have HP := Hd (HPO.out e5 w5 h5)
 rcases h5 with ⟨r, rfl, -, -⟩ | ⟨rfl, -, -⟩
 ·clear x0 x1 x2 x3 x4 x5 y0 y1 y2 y3 y4 y5 r0
  go_wp2_with fail
  exact HP.out
 ·clear x0 x1 x2 x3 x4 x5 y0 y1 y2 y3 y4 y5 r0
  go_wp2_with fail
  first | exact HP.out | (simp only [bodyPost]; exact ⟨trivial, HP.out⟩)
theorem clo_r1 {K K' : Nat → Prop} {w : World} {s t u : Ty} {cs ds : List Value} {c1 c2 b : Nat} {fuel lo rows : Int} {m1 m2 : Option Nat} {asked : Value} {q p : Prop} (hr : RepT K w s cs) (hp : RepT K' w t ds) (hu : t.ps[0]? = some u) (hne : b < w.heap.size ∧ c1 ≠ b ∧ c2 ≠ b ∧ ∀ x, K' x → x ≠ b) (h1 : w.heap[c1]? = some (.cells #[.pointer (some ⟨b, 0, none⟩)] 62 (0, 0))) (h2 : w.heap[c2]? = some (.cells ds.toArray 26 (0, 0)))
  (KF : ∀ wx es, Below w.heap.size w wx → RepT K' wx u es → Calls Tryz.prog 28 #[.pointer (some ⟨b, 0, none⟩), .agg cs.toArray, .agg es.toArray] wx (FitPost b fuel lo m1 m2 asked rows wx q p)) :
  Calls Tryz.prog 133 #[.agg cs.toArray, .pointer (some ⟨c1, 0, none⟩), .pointer (some ⟨c2, 0, none⟩)] w (FitPost b fuel lo m1 m2 asked rows w q p) := by
 obtain ⟨k, s, n, ps, fs, vs⟩ := s
 obtain ⟨A, c, B, d, C, e, rfl, -⟩ := hr.inv
 obtain ⟨k2, s2, n2, ps2, fs2, vs2⟩ := t
 obtain ⟨A2, c2', B2, d2, C2, e2, rfl, -, hL, -⟩ := hp.inv
 replace hu : ps2[0]? = some u := hu
 obtain ⟨hlt, hue⟩ := List.getElem?_eq_some_iff.1 hu
 obtain ⟨tb, tq, hA, hKb, hat⟩ := hL.at hlt
 subst hA
 obtain ⟨es, hes, hrq⟩ := hat 0 hlt
 rw [hue] at hrq
 obtain ⟨k3, s3, n3, ps3, fs3, vs3⟩ := u
 obtain ⟨A3, c3, B3, d3, C3, e3, rfl, -⟩ := hrq.inv
 simp only [cells6T] at hr hp h2 KF hes hrq ⊢
 obtain ⟨w1, hw1⟩ : ∃ x, x = w.alloc (.cells #[.int .i64 k, .string s, .int .i64 n, .slice A ps.length c, .slice B fs.length d, .slice C vs.length e] 26) := ⟨_, rfl⟩
 obtain ⟨g, hg⟩ : ∃ x, x = w.heap.size := ⟨_, rfl⟩
 have hb1 : Below w.heap.size w w1 := by rw [hw1]; exact (Below.refl _ _).alloc (Nat.le_refl _) _
 have hx1 : w1.heap[g]? = some (.cells #[.int .i64 k, .string s, .int .i64 n, .slice A ps.length c, .slice B fs.length d, .slice C vs.length e] 26 (0, 0)) := by rw [hw1, hg]; exact heap_alloc_new w _
 have HS : Hid (∀ wx, ButG (fun x => x = b) w1 wx → wx.cell? ⟨c1, 0, none⟩ = some (.pointer (some ⟨b, 0, none⟩)) ∧ wx.cell? ⟨g, 0, none⟩ = some (.int .i64 k) ∧ wx.cell? ⟨g, 1, none⟩ = some (.string s) ∧ wx.cell? ⟨g, 2, none⟩ = some (.int .i64 n) ∧ wx.cell? ⟨g, 3, none⟩ = some (.slice A ps.length c) ∧ wx.cell? ⟨g, 4, none⟩ = some (.slice B fs.length d) ∧ wx.cell? ⟨g, 5, none⟩ = some (.slice C vs.length e) ∧ wx.cell? ⟨c2, 3, none⟩ = some (.slice (some ⟨tb, tq, none⟩) ps2.length c2') ∧ wx.cell? ⟨tb, tq, none⟩ = some (.int .i64 k3) ∧ wx.cell? ⟨tb, tq + 1, none⟩ = some (.string s3) ∧ wx.cell? ⟨tb, tq + 2, none⟩ = some (.int .i64 n3) ∧ wx.cell? ⟨tb, tq + 3, none⟩ = some (.slice A3 ps3.length c3) ∧ wx.cell? ⟨tb, tq + 4, none⟩ = some (.slice B3 fs3.length d3) ∧ wx.cell? ⟨tb, tq + 5, none⟩ = some (.slice C3 vs3.length e3)) := Hd fun wx hx => by
  have hbx : ButG (fun x => x = b) w wx := (ButG.of_below hb1).same hx
  obtain ⟨x0, x1, x2, x3, x4, x5⟩ := cz6 ((hx.block g (Array.getElem?_eq_some_iff.1 hx1).1 (by omega)).trans hx1)
  obtain ⟨y0, y1, y2, y3, y4, y5⟩ := cz6 ((hbx.block c2 (Array.getElem?_eq_some_iff.1 h2).1 hne.2.2.1).trans h2)
  have he : ∀ j v, [.int .i64 k3, .string s3, .int .i64 n3, .slice A3 ps3.length c3, .slice B3 fs3.length d3, .slice C3 vs3.length e3][j]? = some v → wx.cell? ⟨tb, tq + j, none⟩ = some v := fun j v h => hbx.cell (hne.2.2.2 tb hKb) (by have := hes j v h; rwa [Nat.zero_mul, Nat.add_zero] at this)
  exact ⟨Ch ((hbx.block c1 (Array.getElem?_eq_some_iff.1 h1).1 hne.2.1).trans h1) 0, x0, x1, x2, x3, x4, x5, y3, he 0 _ rfl, he 1 _ rfl, he 2 _ rfl, he 3 _ rfl, he 4 _ rfl, he 5 _ rfl⟩
 have KF1 := Hd (KF w1.drew _ (hb1.trans ((Below.refl _ _).drew.mono hb1.size)) ((hrq.later hb1).later (Below.refl _ _).drew))
 have HW1 := Hd hw1
 have HG := Hd hg
 have HB1 := Hd (ButG.of_below (O := fun x => x = b) (hb1.trans ((Below.refl w1.heap.size w1).drew.mono hb1.size)))
 have HBD : Hid (ButG (fun x => x = b) w1 w1.drew) := Hd (ButG.of_below (Below.refl _ _).drew)
 obtain ⟨PO, hPO⟩ : ∃ PO : Ending → World → Prop, PO = FitPost b fuel lo m1 m2 asked rows w q p := ⟨_, rfl⟩
 have HPO : Hid (∀ e w', FitPost b fuel lo m1 m2 asked rows w1.drew q p e w' → PO e w') := Hd fun e w' h => by rw [hPO]; exact FitPost.trans HB1.out (Int.le_refl _) id Iff.rfl h
 rw [← hPO]
 have i1 : (0 : Int) < (ps2.length : Int) := by omega
 have i2 : 0 < ps2.length := hlt
 clear hne hKb hr hp h1 h2 KF hw1 hg hb1 hx1 hPO hL hu hue hat hes hrq
 go_enter Tryz.func133, Tryz.ntmps133
 go_upto_region 1 with fail
 rw [← HW1.out, ← HG.out]
 refine wp_region_held_drew (S := (fun w' => w'.cell? ⟨c1, 0, none⟩ = some (.pointer (some ⟨b, 0, none⟩)) ∧ w'.cell? ⟨g, 0, none⟩ = some (.int .i64 k) ∧ w'.cell? ⟨g, 1, none⟩ = some (.string s) ∧ w'.cell? ⟨g, 2, none⟩ = some (.int .i64 n) ∧ w'.cell? ⟨g, 3, none⟩ = some (.slice A ps.length c) ∧ w'.cell? ⟨g, 4, none⟩ = some (.slice B fs.length d) ∧ w'.cell? ⟨g, 5, none⟩ = some (.slice C vs.length e) ∧ w'.cell? ⟨c2, 3, none⟩ = some (.slice (some ⟨tb, tq, none⟩) ps2.length c2') ∧ w'.cell? ⟨tb, tq, none⟩ = some (.int .i64 k3) ∧ w'.cell? ⟨tb, tq + 1, none⟩ = some (.string s3) ∧ w'.cell? ⟨tb, tq + 2, none⟩ = some (.int .i64 n3) ∧ w'.cell? ⟨tb, tq + 3, none⟩ = some (.slice A3 ps3.length c3) ∧ w'.cell? ⟨tb, tq + 4, none⟩ = some (.slice B3 fs3.length d3) ∧ w'.cell? ⟨tb, tq + 5, none⟩ = some (.slice C3 vs3.length e3))) (by kernel_rfl) (HS.out _ HBD.out) (fun hHeld => ?_)
 refine Plan.start [0, 1, 2, 3, 4, 5] ?_
 iterate 6 (refine Plan.tk (so rfl) hHeld ?_; try simp only [Act.put, pz1, pz2, pz3])
 refine Plan.done ?_
 refine wpAnyH_ready (rs := [6]) (by kernel_rfl) (by simp) ?_
 refine AllReadyH.cons (sd (some 11) rfl) (fun Kx hK => ?_) AllReadyH.nil
 go_simp
 refine KF1.out.mono ?_
 intro e5 w5 h5
 have HP := Hd (HPO.out e5 w5 h5)
 rcases h5 with ⟨r, rfl, -, st5, -, -, -, hb5⟩ | ⟨rfl, -, -⟩
 ·have HB5 : Hid (ButG (fun x => x = b) w1 w5) := Hd (HBD.out.same hb5)
  clear hb5 KF1
  go_wp2_with fail
  refine hK.out _ _ (HS.out _ HB5.out) (fun hHeld => ?_)
  clear hK Kx
  try simp only [Act.put, pz1, pz2, pz3]
  refine Plan.start [7] ?_
  refine Plan.tk (so rfl) hHeld ?_
  try simp only [Act.put, pz1, pz2, pz3]
  refine Plan.done ?_
  refine wpAnyH_done (by kernel_rfl) ?_ _
  clear hHeld
  go_wp2_with fail
  exact HP.out
 ·go_wp2_with fail
  first | exact HP.out | (simp only [bodyPost]; exact ⟨trivial, HP.out⟩)
end Go.Proofs.YtgjblmlibhppiaaGreatDoor
