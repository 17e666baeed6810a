import Derived.Test.YtfchnfnifpopnaaGreatDoorMa0
import Derived.Test.YtfchnfnifpopnaaGreatDoorMa3
import Derived.Test.YtfchnfnifpopnaaGreatDoorMa4
import Derived.Test.YtfchnfnifpopnaaGreatDoorMa7
import Derived.Test.YtfchnfnifpopnaaGreatDoorMa15
import Derived.Test.YtfchnfnifpopnaaGreatDoorMa16
import Derived.Shelf.SlSortCmp.WholeK
namespace Go.Proofs.YtfchnfnifpopnaaGreatDoor
open Go.RowKit
set_option maxRecDepth 100000 in
set_option maxHeartbeats 32000000 in
theorem vars_ref (l l' : List (ByteArray × List Ty)) (h : ∀ v ∈ l, ∀ b ∈ v.2, OrdR b) {K K' : Nat → Prop} {w : World} {A A' : Option Addr} {c c' : Nat} (h1 : ListV K w l A c) (h2 : ListV K' w l' A' c') :
  Calls Tryz.prog 44 #[.slice A l.length c, .slice A' l'.length c'] w fun e w' => e = .returned (.int .i64 (lexC (rowE (fun v : ByteArray × List Ty => Tok.s v.1 :: flatL v.2) l) (rowE (fun v : ByteArray × List Ty => Tok.s v.1 :: flatL v.2) l'))) ∧ Gw w w' := by
 have H1 := Lib.hid h1
 have H2 := Lib.hid h2
 have HI := Lib.hid h
 have hl1 : l.length ≤ 1000000000000000 := by obtain ⟨_, _, hr, _⟩ := h1; exact hr.big
 have hl2 : l'.length ≤ 1000000000000000 := by obtain ⟨_, _, hr, _⟩ := h2; exact hr.big
 clear h h1 h2
 by_cases heq : l.length = l'.length
 ·rw [row_same (fun v : ByteArray × List Ty => Tok.s v.1 :: flatL v.2) heq]
  generalize hres : restC (fun v : ByteArray × List Ty => Tok.s v.1 :: flatL v.2) l l' 0 = res
  have HRES := Lib.hid hres
  have HEQ := Lib.hid heq
  rw [← heq]
  have hirr : ¬ l.length < l.length := Nat.lt_irrefl _
  clear hres heq hl2
  go_enter Tryz.func44, Tryz.ntmps44
  go_wp2_with fail
  refine (sign_any _ _ _).mono ?_
  rintro e w1 ⟨rfl, rfl⟩
  simp only [sgn]
  go_wp2_with fail
  go_loopw [5, 6] (fun vc vi wr => ∃ (cc : Int) (i : Nat), i ≤ l.length ∧ vc = .int .i64 cc ∧ vi = .int .i64 i ∧ or2 cc (restC (fun v : ByteArray × List Ty => Tok.s v.1 :: flatL v.2) l l' i) = res ∧ Gw w1 wr) (fun _ vi _ => l.length - (intOf vi).toNat)
  case atStart => exact ⟨0, 0, by omega, by first | rfl | simp, rfl, by rw [or2_zero]; exact HRES.out, Gw.refl _⟩
  case round =>
   obtain ⟨cc, i, hi, rfl, rfl, ho, hb⟩ := hrel
   have HO := Lib.hid ho
   have HB := Lib.hid hb
   clear ho
   by_cases hcc : cc = 0
   ·subst hcc
    by_cases hin : i < l.length
    ·have t1 : decide ((i : Int) < (l.length : Int)) = true := by simp; omega
     have wr2 : wrap64 ((i : Int) + 1) = ((i + 1 : Nat) : Int) := wrap_one (by omega)
     have HM := Lib.hid (measI hin)
     have hin' : i < l'.length := by rw [← HEQ.out]; exact hin
     have hstep := rest_step (fun v : ByteArray × List Ty => Tok.s v.1 :: flatL v.2) cleanVr HEQ.out hin hin'
     have hval : or2 (lexC ((fun v : ByteArray × List Ty => Tok.s v.1 :: flatL v.2) l[i]) ((fun v : ByteArray × List Ty => Tok.s v.1 :: flatL v.2) l'[i])) (restC (fun v : ByteArray × List Ty => Tok.s v.1 :: flatL v.2) l l' (i + 1)) = res := by rw [← hstep, ← or2_zero (restC (fun v : ByteArray × List Ty => Tok.s v.1 :: flatL v.2) l l' i)]; exact HO.out
     obtain ⟨b, o, hA, _, hat⟩ := H1.out.at (by omega)
     obtain ⟨b', o', hA', _, hat'⟩ := H2.out.at (by omega)
     subst hA hA'
     have i0 : (0 : Int) ≤ (i : Int) := by omega
     have i1 : (i : Int) < (l.length : Int) := by omega
     clear hstep
     have HLE : Hid (i + 1 ≤ l.length) := Lib.hid hin
     obtain ⟨B, d, hn, hf, -, hT⟩ := hat i hin
     obtain ⟨B', d', hn', hf', -, hT'⟩ := hat' i hin'
     replace hn := cell_stays (w := w1) (w' := wr) hb.below hn
     replace hn' := cell_stays (w := w1) (w' := wr) hb.below hn'
     replace hf := cell_stays (w := w1) (w' := wr) hb.below hf
     replace hf' := cell_stays (w := w1) (w' := wr) hb.below hf'
     replace hT := hT.later (w' := wr) hb.below
     replace hT' := hT'.later (w' := wr) hb.below
     have hbo := HI.out _ (List.getElem_mem hin)
     have hval2 : or2 (or2 (cmpB (l[i]'hin).1 (l'[i]'hin').1) (lexC (flatL (l[i]'hin).2) (flatL (l'[i]'hin').2))) (restC (fun v : ByteArray × List Ty => Tok.s v.1 :: flatL v.2) l l' (i + 1)) = res := by rw [← var_steps]; exact hval
     generalize hnm : (l[i]'hin).1 = nm at hn hval2
     generalize hnm' : (l'[i]'hin').1 = nm' at hn' hval2
     generalize hfl : (l[i]'hin).2 = bl at hf hval2 hT hbo
     generalize hfl' : (l'[i]'hin').2 = bl' at hf' hval2 hT'
     have KO : Hid (∀ wx, Below wr.heap.size wr wx → Calls Tryz.prog 42 #[.slice B bl.length d, .slice B' bl'.length d'] wx fun e w' => e = .returned (.int .i64 (lexC (flatL bl) (flatL bl'))) ∧ Gw wx w') := Lib.hid fun wx hx => list_ref bl bl' hbo (hT.later hx) (hT'.later hx)
     generalize lexC (flatL bl) (flatL bl') = oo at KO hval2
     have HC : Hid (∀ wx, Below wr.heap.size wr wx → (wx.cell? ⟨b, o + i * 2, none⟩ = some (.string nm) ∧ wx.cell? ⟨b', o' + i * 2, none⟩ = some (.string nm')) ∧ wx.cell? ⟨b, o + i * 2 + 1, none⟩ = some (.slice B bl.length d) ∧ wx.cell? ⟨b', o' + i * 2 + 1, none⟩ = some (.slice B' bl'.length d')) := Lib.hid fun wx hx => ⟨⟨cell_stays hx hn, cell_stays hx hn'⟩, cell_stays hx hf, cell_stays hx hf'⟩
     have HV := Lib.hid hval2
     clear hat hat' hval hval2 hi hb hn hn' hf hf' hnm hnm' hfl hfl' hT hT' hbo
     rcases cmpB_cases nm nm' with ⟨ga, gb, ge⟩ | ⟨ga, gb, ge⟩ | ⟨ga, gb, ge⟩
     ·have HV2 : Hid (or2 (-1) (restC (fun v : ByteArray × List Ty => Tok.s v.1 :: flatL v.2) l l' (i + 1)) = res) := Lib.hid (by have h := HV.out; rw [ge, or2_ne (a := -1) (by decide)] at h; exact h)
      clear ge
      go_wp2_with fail
      refine wp_region_held_drew (S := (fun w' => (w'.cell? ⟨b, o + i * 2, none⟩ = some (.string nm) ∧ w'.cell? ⟨b', o' + i * 2, none⟩ = some (.string nm')) ∧ w'.cell? ⟨b, o + i * 2 + 1, none⟩ = some (.slice B bl.length d) ∧ w'.cell? ⟨b', o' + i * 2 + 1, none⟩ = some (.slice B' bl'.length d'))) (by kernel_rfl) (HC.out _ (Below.refl wr.heap.size wr).drew) (fun hHeld => ?_)
      refine Plan.start [0, 1, 2, 3, 4, 5, 6, 7, 8, 9, 10, 11, 12, 13, 14, 15, 16, 17, 18, 19, 20, 21] ?_
      iterate 22 ((refine Plan.take (v := ?_) (so rfl) (by kernel_rfl) (by kernel_rfl) (by kernel_rfl) (fun _ _ _ h => h) (Or.inl ⟨by rfl, ?_⟩) hHeld ?_; rotate_left; focus (intro w' hSw; (try dsimp only at hSw); go_simp; try with_reducible rfl)); try simp only [Act.put, List.setIfInBounds_toArray, List.set_cons_zero, List.set_cons_succ])
      refine Plan.done ?_
      refine wpAnyH_ready (rs := [22]) (by kernel_rfl) (by simp) ?_
      refine AllReadyH.cons (sd (some 50) rfl) (fun K hK => ?_) AllReadyH.nil
      go_simp
      refine (sign_any _ _ _).mono ?_
      rintro e w2 ⟨rfl, rfl⟩
      simp only [sgn]
      go_wp2_with fail
      refine hK.out _ _ (HC.out _ (Below.refl wr.heap.size wr).drew) (fun hHeld => ?_)
      clear hK K
      try simp only [Act.put, List.setIfInBounds_toArray, List.set_cons_zero, List.set_cons_succ]
      refine wpAnyH_take (i := 23) (v := ?_) (sd (some 5) rfl) (by kernel_rfl) (by kernel_rfl) (by kernel_rfl) (fun _ _ _ h => h) (Or.inl ⟨by rfl, ?_⟩) hHeld ?_
      rotate_left
      ·intro w' hSw
       (try dsimp only at hSw)
       go_simp
       try with_reducible rfl
      try simp only [Act.put, List.setIfInBounds_toArray, List.set_cons_zero, List.set_cons_succ]
      refine wpAnyH_done (by kernel_rfl) ?_ _
      clear hHeld
      clear i0 i1 t1 ga gb
      go_wp2_with fail
      refine ⟨⟨(-1), i + 1, HLE.out, by first | rfl | trivial, by first | rfl | rw [wr2], HV2.out, HB.out.drew⟩, ?_⟩
      first | exact HM.out | (rw [wr2]; exact HM.out)
     ·have HV2 : Hid (or2 1 (restC (fun v : ByteArray × List Ty => Tok.s v.1 :: flatL v.2) l l' (i + 1)) = res) := Lib.hid (by have h := HV.out; rw [ge, or2_ne (a := 1) (by decide)] at h; exact h)
      clear ge
      go_wp2_with fail
      refine wp_region_held_drew (S := (fun w' => (w'.cell? ⟨b, o + i * 2, none⟩ = some (.string nm) ∧ w'.cell? ⟨b', o' + i * 2, none⟩ = some (.string nm')) ∧ w'.cell? ⟨b, o + i * 2 + 1, none⟩ = some (.slice B bl.length d) ∧ w'.cell? ⟨b', o' + i * 2 + 1, none⟩ = some (.slice B' bl'.length d'))) (by kernel_rfl) (HC.out _ (Below.refl wr.heap.size wr).drew) (fun hHeld => ?_)
      refine Plan.start [0, 1, 2, 3, 4, 5, 6, 7, 8, 9, 10, 11, 12, 13, 14, 15, 16, 17, 18, 19, 20, 21] ?_
      iterate 22 ((refine Plan.take (v := ?_) (so rfl) (by kernel_rfl) (by kernel_rfl) (by kernel_rfl) (fun _ _ _ h => h) (Or.inl ⟨by rfl, ?_⟩) hHeld ?_; rotate_left; focus (intro w' hSw; (try dsimp only at hSw); go_simp; try with_reducible rfl)); try simp only [Act.put, List.setIfInBounds_toArray, List.set_cons_zero, List.set_cons_succ])
      refine Plan.done ?_
      refine wpAnyH_ready (rs := [22]) (by kernel_rfl) (by simp) ?_
      refine AllReadyH.cons (sd (some 50) rfl) (fun K hK => ?_) AllReadyH.nil
      go_simp
      refine (sign_any _ _ _).mono ?_
      rintro e w2 ⟨rfl, rfl⟩
      simp only [sgn]
      go_wp2_with fail
      refine hK.out _ _ (HC.out _ (Below.refl wr.heap.size wr).drew) (fun hHeld => ?_)
      clear hK K
      try simp only [Act.put, List.setIfInBounds_toArray, List.set_cons_zero, List.set_cons_succ]
      refine wpAnyH_take (i := 23) (v := ?_) (sd (some 5) rfl) (by kernel_rfl) (by kernel_rfl) (by kernel_rfl) (fun _ _ _ h => h) (Or.inl ⟨by rfl, ?_⟩) hHeld ?_
      rotate_left
      ·intro w' hSw
       (try dsimp only at hSw)
       go_simp
       try with_reducible rfl
      try simp only [Act.put, List.setIfInBounds_toArray, List.set_cons_zero, List.set_cons_succ]
      refine wpAnyH_done (by kernel_rfl) ?_ _
      clear hHeld
      clear i0 i1 t1 ga gb
      go_wp2_with fail
      refine ⟨⟨1, i + 1, HLE.out, by first | rfl | trivial, by first | rfl | rw [wr2], HV2.out, HB.out.drew⟩, ?_⟩
      first | exact HM.out | (rw [wr2]; exact HM.out)
     ·have HV1 : Hid (or2 (oo) (restC (fun v : ByteArray × List Ty => Tok.s v.1 :: flatL v.2) l l' (i + 1)) = res) := Lib.hid (by have h := HV.out; rw [ge, or2_zero] at h; exact h)
      clear ge
      go_wp2_with fail
      refine wp_region_held_drew (S := (fun w' => (w'.cell? ⟨b, o + i * 2, none⟩ = some (.string nm) ∧ w'.cell? ⟨b', o' + i * 2, none⟩ = some (.string nm')) ∧ w'.cell? ⟨b, o + i * 2 + 1, none⟩ = some (.slice B bl.length d) ∧ w'.cell? ⟨b', o' + i * 2 + 1, none⟩ = some (.slice B' bl'.length d'))) (by kernel_rfl) (HC.out _ (Below.refl wr.heap.size wr).drew) (fun hHeld => ?_)
      refine Plan.start [0, 1, 2, 3, 4, 5, 6, 7, 8, 9, 10, 11, 12, 13, 14, 15, 16, 17, 18, 19, 20, 21] ?_
      iterate 22 ((refine Plan.take (v := ?_) (so rfl) (by kernel_rfl) (by kernel_rfl) (by kernel_rfl) (fun _ _ _ h => h) (Or.inl ⟨by rfl, ?_⟩) hHeld ?_; rotate_left; focus (intro w' hSw; (try dsimp only at hSw); go_simp; try with_reducible rfl)); try simp only [Act.put, List.setIfInBounds_toArray, List.set_cons_zero, List.set_cons_succ])
      refine Plan.done ?_
      refine wpAnyH_ready (rs := [22]) (by kernel_rfl) (by simp) ?_
      refine AllReadyH.cons (sd (some 50) rfl) (fun K hK => ?_) AllReadyH.nil
      go_simp
      refine (sign_any _ _ _).mono ?_
      rintro e w2 ⟨rfl, rfl⟩
      simp only [sgn]
      go_wp2_with fail
      refine hK.out _ _ (HC.out _ (Below.refl wr.heap.size wr).drew) (fun hHeld => ?_)
      clear hK K
      try simp only [Act.put, List.setIfInBounds_toArray, List.set_cons_zero, List.set_cons_succ]
      refine wpAnyH_take (i := 23) (v := ?_) (sd (some 5) rfl) (by kernel_rfl) (by kernel_rfl) (by kernel_rfl) (fun _ _ _ h => h) (Or.inl ⟨by rfl, ?_⟩) hHeld ?_
      rotate_left
      ·intro w' hSw
       (try dsimp only at hSw)
       go_simp
       try with_reducible rfl
      try simp only [Act.put, List.setIfInBounds_toArray, List.set_cons_zero, List.set_cons_succ]
      refine wpAnyH_done (by kernel_rfl) ?_ _
      clear hHeld
      clear ga gb
      go_wp2_with fail
      refine wp_region_held_drew (S := (fun w' => (w'.cell? ⟨b, o + i * 2, none⟩ = some (.string nm) ∧ w'.cell? ⟨b', o' + i * 2, none⟩ = some (.string nm')) ∧ w'.cell? ⟨b, o + i * 2 + 1, none⟩ = some (.slice B bl.length d) ∧ w'.cell? ⟨b', o' + i * 2 + 1, none⟩ = some (.slice B' bl'.length d'))) (by kernel_rfl) (HC.out _ (Below.refl wr.heap.size wr).drew.drew) (fun hHeld => ?_)
      refine Plan.start [0, 1, 2, 3, 4, 5, 6, 7, 8, 9] ?_
      iterate 10 ((refine Plan.take (v := ?_) (so rfl) (by kernel_rfl) (by kernel_rfl) (by kernel_rfl) (fun _ _ _ h => h) (Or.inl ⟨by rfl, ?_⟩) hHeld ?_; rotate_left; focus (intro w' hSw; (try dsimp only at hSw); go_simp; try with_reducible rfl)); try simp only [Act.put, List.setIfInBounds_toArray, List.set_cons_zero, List.set_cons_succ])
      refine Plan.done ?_
      refine wpAnyH_ready (rs := [10]) (by kernel_rfl) (by simp) ?_
      refine AllReadyH.cons (sd (some 63) rfl) (fun K hK => ?_) AllReadyH.nil
      go_simp
      refine (KO.out _ (Below.refl wr.heap.size wr).drew.drew).mono ?_
      rintro e w2 ⟨rfl, hb2⟩
      have HB2 := Lib.hid ((Below.refl wr.heap.size wr).drew.drew.trans hb2.below)
      have HG2 := Lib.hid ((HB.out.drew.drew).trans hb2)
      clear hb2
      go_wp2_with fail
      refine hK.out _ _ (HC.out _ HB2.out) (fun hHeld => ?_)
      clear hK K
      try simp only [Act.put, List.setIfInBounds_toArray, List.set_cons_zero, List.set_cons_succ]
      refine wpAnyH_take (i := 11) (v := ?_) (sd (some 5) rfl) (by kernel_rfl) (by kernel_rfl) (by kernel_rfl) (fun _ _ _ h => h) (Or.inl ⟨by rfl, ?_⟩) hHeld ?_
      rotate_left
      ·intro w' hSw
       (try dsimp only at hSw)
       go_simp
       try with_reducible rfl
      try simp only [Act.put, List.setIfInBounds_toArray, List.set_cons_zero, List.set_cons_succ]
      refine wpAnyH_done (by kernel_rfl) ?_ _
      clear hHeld
      clear i0 i1 t1
      go_wp2_with fail
      refine ⟨⟨oo, i + 1, HLE.out, by first | rfl | trivial, by first | rfl | rw [wr2], HV1.out, HG2.out⟩, ?_⟩
      first | exact HM.out | (rw [wr2]; exact HM.out)
    ·have t1 : decide ((i : Int) < (l.length : Int)) = false := by simp; omega
     have HR : Hid (res = 0) := Lib.hid (by
      have h := HO.out
      rw [show i = l.length from by omega, rest_end (fun v : ByteArray × List Ty => Tok.s v.1 :: flatL v.2) HEQ.out, or2_zero] at h
      exact h.symm)
     clear hi hb
     go_wp2_with fail
     go_ret
     exact ⟨by rw [HR.out]; rfl, HB.out⟩
   ·have hc0 : (cc == 0) = false := by simpa using hcc
    have HR : Hid (res = cc) := Lib.hid (by rw [← HO.out, or2_ne hcc])
    clear hi hb hcc
    go_wp2_with fail
    go_ret
    exact ⟨by rw [HR.out]; rfl, HB.out⟩
 ·rw [row_len (fun v : ByteArray × List Ty => Tok.s v.1 :: flatL v.2) heq]
  rcases cmpZ_cases (l.length : Int) (l'.length : Int) with ⟨ha, hb, he⟩ | ⟨ha, hb, he⟩ | ⟨ha, hb, he⟩
  ·have HE := Lib.hid he
   have n1 : l.length < l'.length := by omega
   have n2 : ¬ l'.length < l.length := by omega
   clear he heq ha hb
   go_enter Tryz.func44, Tryz.ntmps44
   go_wp2_with fail
   refine (sign_any _ _ _).mono ?_
   rintro e w1 ⟨rfl, rfl⟩
   simp only [sgn]
   go_wp2_with fail
   go_loopw [5, 6] (fun vc _ wr => vc = .int .i64 (-1) ∧ wr = w1) (fun _ _ _ => 0)
   case atStart => exact ⟨by first | rfl | simp, rfl⟩
   case round =>
    obtain ⟨rfl, rfl⟩ := hrel
    go_wp2_with fail
    go_ret
    exact ⟨by rw [HE.out]; rfl, Gw.refl _⟩
  ·have HE := Lib.hid he
   have n1 : ¬ l.length < l'.length := by omega
   have n2 : l'.length < l.length := by omega
   clear he heq ha hb
   go_enter Tryz.func44, Tryz.ntmps44
   go_wp2_with fail
   refine (sign_any _ _ _).mono ?_
   rintro e w1 ⟨rfl, rfl⟩
   simp only [sgn]
   go_wp2_with fail
   go_loopw [5, 6] (fun vc _ wr => vc = .int .i64 (1) ∧ wr = w1) (fun _ _ _ => 0)
   case atStart => exact ⟨by first | rfl | simp, rfl⟩
   case round =>
    obtain ⟨rfl, rfl⟩ := hrel
    go_wp2_with fail
    go_ret
    exact ⟨by rw [HE.out]; rfl, Gw.refl _⟩
  ·exact absurd heq (by omega)
theorem sgnZ (x y : Int) : sgn (decide (x < y)) (decide (y < x)) = cmpZ x y := by
 rcases cmpZ_cases x y with ⟨a, b, e⟩ | ⟨a, b, e⟩ | ⟨a, b, e⟩ <;> rw [e, sgn] <;> simp [a, b]
theorem sgnB (x y : ByteArray) : sgn (Op.bytesLess x.toList y.toList) (!Op.bytesLess x.toList y.toList && !(x.toList == y.toList)) = cmpB x y := by
 rcases cmpB_cases x y with ⟨a, b, e⟩ | ⟨a, b, e⟩ | ⟨a, b, e⟩ <;> rw [e, sgn, a, b] <;> rfl
set_option maxRecDepth 100000 in
set_option maxHeartbeats 32000000 in
theorem ordr_step (k : Int) (t : ByteArray) (n : Int) (ps : List Ty) (fs : List (ByteArray × Int × Ty)) (vs : List (ByteArray × List Ty)) (hp : ∀ p ∈ ps, OrdR p) (hf : ∀ f ∈ fs, OrdR f.2.2) (hv : ∀ v ∈ vs, ∀ b ∈ v.2, OrdR b) : OrdR (.mk k t n ps fs vs) := by
 intro K K' t' w cs cs' h h'
 obtain ⟨k', s', n', ps', fs', vs'⟩ := t'
 have hb2 : Gw w ((w.alloc (.cells cs.toArray 26)).alloc (.cells cs'.toArray 26)) := ((Gw.refl w).alloc _).alloc _
 have a1 := (AtT.box 26 h).later ((Below.refl _ _).alloc (Nat.le_refl _) (.cells cs'.toArray 26))
 have a2 : AtT K' ((w.alloc (.cells cs.toArray 26)).alloc (.cells cs'.toArray 26)) (.mk k' s' n' ps' fs' vs') (w.heap.size + 1) 0 := by
  have := AtT.box (w := w.alloc (.cells cs.toArray 26)) 26 (h'.later ((Below.refl _ _).alloc (Nat.le_refl _) _))
  rw [World.size_alloc] at this
  exact this
 have HB2 := Lib.hid hb2
 obtain ⟨A, c, A2, c2, A3, c3, rfl, -⟩ := h.inv
 obtain ⟨B, d, B2, d2, B3, d3, rfl, -⟩ := h'.inv
 simp only [cells6T] at a1 a2 HB2 ⊢
 generalize hw2 : (w.alloc (.cells #[.int .i64 k, .string t, .int .i64 n, .slice A ps.length c, .slice A2 fs.length c2, .slice A3 vs.length c3] 26)).alloc (.cells #[.int .i64 k', .string s', .int .i64 n', .slice B ps'.length d, .slice B2 fs'.length d2, .slice B3 vs'.length d3] 26) = w2 at a1 a2 HB2
 have HE2 := Lib.hid hw2
 obtain ⟨A', c', A2', c2', A3', c3', ⟨x0, x1, x2, x3, x4, x5⟩, -, hP, hF, hV⟩ := a1.six
 obtain ⟨B', d', B2', d2', B3', d3', ⟨y0, y1, y2, y3, y4, y5⟩, -, hP', hF', hV'⟩ := a2.six
 rw [Nat.zero_add] at x1 x2 x3 x4 x5 y1 y2 y3 y4 y5
 have HX : Hid (∀ wx, Gw w2 wx → (wx.cell? ⟨w.heap.size, 3, none⟩ = some (.slice A' ps.length c') ∧ wx.cell? ⟨w.heap.size, 4, none⟩ = some (.slice A2' fs.length c2') ∧ wx.cell? ⟨w.heap.size, 5, none⟩ = some (.slice A3' vs.length c3')) ∧ wx.cell? ⟨w.heap.size + 1, 3, none⟩ = some (.slice B' ps'.length d') ∧ wx.cell? ⟨w.heap.size + 1, 4, none⟩ = some (.slice B2' fs'.length d2') ∧ wx.cell? ⟨w.heap.size + 1, 5, none⟩ = some (.slice B3' vs'.length d3')) := Lib.hid fun wx hx => ⟨⟨cell_stays hx.below x3, cell_stays hx.below x4, cell_stays hx.below x5⟩, cell_stays hx.below y3, cell_stays hx.below y4, cell_stays hx.below y5⟩
 have K3 : Hid (∀ wx, Gw w2 wx → Calls Tryz.prog 42 #[.slice A' ps.length c', .slice B' ps'.length d'] wx fun e w' => e = .returned (.int .i64 (lexC (flatL ps) (flatL ps'))) ∧ Gw wx w') := Lib.hid fun wx hx => list_ref ps ps' hp (hP.later hx.below) (hP'.later hx.below)
 have K4 : Hid (∀ wx, Gw w2 wx → Calls Tryz.prog 43 #[.slice A2' fs.length c2', .slice B2' fs'.length d2'] wx fun e w' => e = .returned (.int .i64 (lexC (flatF fs) (flatF fs'))) ∧ Gw wx w') := Lib.hid fun wx hx => fields_ref fs fs' hf (hF.later hx.below) (hF'.later hx.below)
 have K5 : Hid (∀ wx, Gw w2 wx → Calls Tryz.prog 44 #[.slice A3' vs.length c3', .slice B3' vs'.length d3'] wx fun e w' => e = .returned (.int .i64 (lexC (flatV vs) (flatV vs'))) ∧ Gw wx w') := Lib.hid fun wx hx => vars_ref vs vs' hv (hV.later hx.below) (hV'.later hx.below)
 have HO := Lib.hid (ord_steps k t n ps fs vs k' s' n' ps' fs' vs')
 have Z0 := Lib.hid (sgnZ k k')
 have Z1 := Lib.hid (sgnB t s')
 have Z2 := Lib.hid (sgnZ n n')
 generalize ordT (.mk k t n ps fs vs) (.mk k' s' n' ps' fs' vs') = oo at HO ⊢
 generalize cmpZ k k' = q0 at HO Z0
 generalize cmpB t s' = q1 at HO Z1
 generalize cmpZ n n' = q2 at HO Z2
 generalize lexC (flatL ps) (flatL ps') = q3 at HO K3
 generalize lexC (flatF fs) (flatF fs') = q4 at HO K4
 generalize lexC (flatV vs) (flatV vs') = q5 at HO K5
 clear h h' hb2 a1 a2 hP hF hV hP' hF' hV' hp hf hv hw2 x3 x4 x5 y3 y4 y5
 go_enter Tryz.func24, Tryz.ntmps24
 go_wp2_with fail
 rw [HE2.out]
 refine (sign_any _ _ _).mono ?_
 rintro e w3 ⟨rfl, rfl⟩
 rw [Z0.out]
 by_cases z0 : q0 = 0
 ·have e0 : (q0 == 0) = true := by simpa using z0
  have Q0 := Lib.hid z0
  clear z0
  go_wp2_with fail
  refine (sign_any _ _ _).mono ?_
  rintro e w3 ⟨rfl, rfl⟩
  rw [Z1.out]
  by_cases z1 : q1 = 0
  ·have e1 : (q1 == 0) = true := by simpa using z1
   have Q1 := Lib.hid z1
   clear z1
   go_wp2_with fail
   refine (sign_any _ _ _).mono ?_
   rintro e w3 ⟨rfl, rfl⟩
   rw [Z2.out]
   by_cases z2 : q2 = 0
   ·have e2 : (q2 == 0) = true := by simpa using z2
    have Q2 := Lib.hid z2
    clear z2
    obtain ⟨⟨x3, x4, x5⟩, y3, y4, y5⟩ := HX.out _ (Gw.refl _)
    go_wp2_with fail
    clear x3 x4 x5 y3 y4 y5
    refine (K3.out _ (Gw.refl _)).mono ?_
    rintro e w3 ⟨rfl, hg⟩
    have HG3 := Lib.hid (hg)
    clear hg
    by_cases z3 : q3 = 0
    ·have e3 : (q3 == 0) = true := by simpa using z3
     have Q3 := Lib.hid z3
     clear z3
     obtain ⟨⟨x3, x4, x5⟩, y3, y4, y5⟩ := HX.out _ HG3.out
     go_wp2_with fail
     clear x3 x4 x5 y3 y4 y5
     refine (K4.out _ HG3.out).mono ?_
     rintro e w4 ⟨rfl, hg⟩
     have HG4 := Lib.hid (HG3.out.trans hg)
     clear hg
     by_cases z4 : q4 = 0
     ·have e4 : (q4 == 0) = true := by simpa using z4
      have Q4 := Lib.hid z4
      clear z4
      obtain ⟨⟨x3, x4, x5⟩, y3, y4, y5⟩ := HX.out _ HG4.out
      go_wp2_with fail
      clear x3 x4 x5 y3 y4 y5
      refine (K5.out _ HG4.out).mono ?_
      rintro e w5 ⟨rfl, hg⟩
      have HG5 := Lib.hid (HG4.out.trans hg)
      clear hg
      go_wp2_with fail
      go_ret
      exact ⟨by rw [HO.out, Q0.out, or2_zero, Q1.out, or2_zero, Q2.out, or2_zero, Q3.out, or2_zero, Q4.out, or2_zero]; rfl, HB2.out.trans HG5.out⟩
     ·have e4 : (q4 == 0) = false := by simpa using z4
      have Q4 := Lib.hid z4
      clear z4
      go_wp2_with fail
      go_ret
      exact ⟨by rw [HO.out, Q0.out, or2_zero, Q1.out, or2_zero, Q2.out, or2_zero, Q3.out, or2_zero, or2_ne Q4.out]; rfl, HB2.out.trans HG4.out⟩
    ·have e3 : (q3 == 0) = false := by simpa using z3
     have Q3 := Lib.hid z3
     clear z3
     go_wp2_with fail
     go_ret
     exact ⟨by rw [HO.out, Q0.out, or2_zero, Q1.out, or2_zero, Q2.out, or2_zero, or2_ne Q3.out]; rfl, HB2.out.trans HG3.out⟩
   ·have e2 : (q2 == 0) = false := by simpa using z2
    have Q2 := Lib.hid z2
    clear z2
    go_wp2_with fail
    go_ret
    exact ⟨by rw [HO.out, Q0.out, or2_zero, Q1.out, or2_zero, or2_ne Q2.out]; rfl, HB2.out⟩
  ·have e1 : (q1 == 0) = false := by simpa using z1
   have Q1 := Lib.hid z1
   clear z1
   go_wp2_with fail
   go_ret
   exact ⟨by rw [HO.out, Q0.out, or2_zero, or2_ne Q1.out]; rfl, HB2.out⟩
 ·have e0 : (q0 == 0) = false := by simpa using z0
  have Q0 := Lib.hid z0
  clear z0
  go_wp2_with fail
  go_ret
  exact ⟨by rw [HO.out, or2_ne Q0.out]; rfl, HB2.out⟩
theorem order_ref (t : Ty) : OrdR t := Ty.ind (C := OrdR) (fun k t n ps fs vs hp hf hv => ordr_step k t n ps fs vs hp hf hv) t
def nonN (l : List Ty) : List Ty := (flatU l).filter fun t => !(t.k == 1)
theorem nonN_take {l : List Ty} {i : Nat} (h : i < l.length) : nonN (l.take (i + 1)) = nonN (l.take i) ++ (parts1 l[i]).filter fun t => !(t.k == 1) := by
 unfold nonN
 rw [flatU_take h, List.filter_append]
theorem out_push2 {K : Nat → Prop} {w0 w2 w5 : World} {v v5 : Value} {os : List Ty} {t : Ty} {cs vs : List Value} (hb : Below w0.heap.size w0 w2) (ho : w2.ownsRow w0.heap.size 26 6 v os.length vs) (hr : ∀ i (h : i < os.length), ∃ cs, RepT K w0 os[i] cs ∧ ∀ j u, cs[j]? = some u → vs[i * 6 + j]? = some u)
  (ht : RepT K w0 t cs) (hown : w5.ownsRow w0.heap.size 26 6 v5 (os.length + 1) (vs ++ cs)) (hg : (w2.alloc (.cells cs.toArray 26)).grownBy w5 v.ownBlock) :
  OutT K w0 w5 v5 (os ++ [t]) ∧ Below w0.heap.size w0 w5 := by
 have hl1 : w2.heap.size ≤ (w2.alloc (.cells cs.toArray 26)).heap.size := by simp
 exact ⟨OutT.snoc (ho.1) hr ht hown, (hb.alloc hb.size _).grown hg (Nat.le_trans hb.size hl1) fun k hk => (ho.lt k hk).1⟩
def FlatR (l : List Ty) : Prop := ∀ (K : Nat → Prop) (w0 w : World) (A : Option Addr) (c : Nat) (v : Value) (os : List Ty), ListT K w0 l A c → Below w0.heap.size w0 w → OutT K w0 w v os → os.length + (flatU l).length ≤ 1099511627776 →
 Calls Tryz.prog 20 #[.slice A l.length c, v] w fun e w' => ∃ v', e = .returned v' ∧ OutT K w0 w' v' (os ++ nonN l) ∧ Below w0.heap.size w0 w'
theorem nonN_len (l : List Ty) : (nonN l).length ≤ (flatU l).length := List.length_filter_le _ _
set_option maxRecDepth 100000 in
set_option maxHeartbeats 16000000 in
theorem flatr_list (l : List Ty) (hp : ∀ p ∈ l, FlatR p.ps) : FlatR l := by
 intro K w0 w A c v os hL hb hO hbd
 have hll := hL.short
 have HL := Lib.hid hL
 have HP := Lib.hid hp
 have HBD := Lib.hid hbd
 have HS0 : Hid (OutT K w0 w v os ∧ Below w0.heap.size w0 w) := Lib.hid ⟨hO, hb⟩
 obtain ⟨i0, hi0, hz0, hz1, hz2⟩ := partsT infoTy
 obtain ⟨vs0, hvs0, -⟩ := hO
 obtain ⟨A0, c0, rfl, -⟩ := sliceT hvs0
 obtain ⟨n0, hn0⟩ : ∃ n0, n0 = os.length := ⟨_, rfl⟩
 rw [← hn0] at HS0 hvs0 ⊢
 have HN0 := Lib.hid hn0
 clear hL hp hbd hb hvs0 hn0
 go_enter Tryz.func20, Tryz.ntmps20
 go_wp2_with fail
 go_loopw [1, 5] (fun ov v wr => ∃ (i : Nat) (acc : List Ty), i ≤ l.length ∧ v = .int .i64 i ∧ acc = os ++ nonN (l.take i) ∧ OutT K w0 wr ov acc ∧ Below w0.heap.size w0 wr) (fun _ v _ => l.length - (intOf v).toNat)
 case atStart => exact ⟨0, os, by omega, rfl, by simp [nonN, flatU], HS0.out.1, HS0.out.2⟩
 case round =>
  obtain ⟨i, acc, hi, rfl, hacc, ho, hb⟩ := hrel
  have HAcc := Lib.hid hacc
  clear hacc
  have HR := Lib.hid (And.intro ho hb)
  obtain ⟨vs, hvs, hrs⟩ := ho
  obtain ⟨A1, c1, rfl, -⟩ := sliceT hvs
  by_cases hin : i < l.length
  ·have t1 : decide ((i : Int) < (l.length : Int)) = true := by simp; omega
   have wr2 : wrap64 ((i : Int) + 1) = ((i + 1 : Nat) : Int) := wrap_one (by omega)
   have HM := Lib.hid (measI hin)
   obtain ⟨b, o, hA, _, hat⟩ := HL.out.at (by omega)
   have hti := hat i hin
   have hpi := HP.out _ (List.getElem_mem hin)
   have htk := nonN_take hin
   have hft := flatU_take hin
   have hsp := flatU_split l (i + 1)
   have hle := nonN_len (l.take i)
   subst hA
   generalize l[i] = t at hti hpi htk hft
   obtain ⟨k, s, n, ps, fs, ws⟩ := t
   obtain ⟨cs, hcs, hrep⟩ := hti
   obtain ⟨Ap, cp, Af, cf, Av, cv, rfl, -, hLp, -, -⟩ := hrep.inv
   have HREP := Lib.hid hrep
   have x0 : wr.cell? ⟨b, o + i * 6, none⟩ = some (.int .i64 k) := cell_stays hb (hcs 0 _ rfl)
   have x1 := cell_stays hb (hcs 1 _ rfl)
   have x2 := cell_stays hb (hcs 2 _ rfl)
   have x3 := cell_stays hb (hcs 3 _ rfl)
   have x4 := cell_stays hb (hcs 4 _ rfl)
   have x5 := cell_stays hb (hcs 5 _ rfl)
   have HIn : Hid (i + 1 ≤ l.length) := Lib.hid hin
   have HTk := Lib.hid htk
   have HOw := Lib.hid (And.intro hvs hrs)
   have HLen : Hid (acc.length + (parts1 (.mk k s n ps fs ws)).length ≤ 1099511627776) := Lib.hid (by
    have h1 := HBD.out
    rw [hsp, hft] at h1
    rw [HAcc.out]
    simp only [List.length_append] at h1 ⊢
    omega)
   by_cases h15 : k = 15
   ·subst h15
    have KF := Lib.hid (hpi K w0 wr Ap cp _ _ hLp hb HR.out.1 (by have := HLen.out; rw [parts1_mk, if_pos rfl] at this; exact this))
    simp only [Ty.ps] at KF
    clear hpi htk hft hle hsp hcs hrep hLp hvs hrs hb hi x1 x2 x4 x5
    go_wp2_with fail
    refine KF.out.mono ?_
    rintro e w2 ⟨v2, rfl, ho2, hb2⟩
    have HR2 := Lib.hid (And.intro ho2 hb2)
    clear ho2 hb2 KF
    go_wp2_with fail
    refine ⟨⟨i + 1, _, HIn.out, by first | rfl | rw [wr2], ?p1, HR2.out.1, HR2.out.2⟩, ?p3⟩
    case p1 => rw [HTk.out, HAcc.out, parts1_mk, if_pos rfl, List.append_assoc]; rfl
    case p3 => first | exact HM.out | (rw [wr2]; exact HM.out)
   ·have t15 : (k == 15) = false := by simpa using h15
    by_cases h1 : k = 1
    ·subst h1
     clear hpi htk hft hle hsp hcs hrep hLp hvs hrs hb hi
     go_wp2_with fail
     refine ⟨⟨i + 1, acc, HIn.out, by first | rfl | rw [wr2], ?p1, HR.out.1, HR.out.2⟩, ?p3⟩
     case p1 =>
      rw [HTk.out, HAcc.out, parts1_mk, if_neg (by decide)]
      have e : ([Ty.mk 1 s n ps fs ws].filter fun t => !(t.k == 1)) = [] := rfl
      rw [e, List.append_nil]
     case p3 => first | exact HM.out | (rw [wr2]; exact HM.out)
    ·have tn1 : (k != 1) = true := by simpa using h1
     have hkp : (k == 1) = false := by simpa using h1
     have HKP := Lib.hid hkp
     have HC2 := Lib.hid (cellsT_new wr [.int .i64 k, .string s, .int .i64 n, .slice Ap ps.length cp, .slice Af fs.length cf, .slice Av ws.length cv] 26)
     have HL1 : Hid (acc.length + 1 ≤ 1099511627776) := Lib.hid (by have := HLen.out; rw [parts1_mk, if_neg h15] at this; simpa using this)
     have HB := Lib.hid hb
     clear hpi htk hft hle hsp hcs hrep hLp hvs hrs hi hb hkp
     go_wp2_with (at_builtin; refine wpList_plain rfl fun K hK => ?_; go_loud (refine wp_append_own_at _ _ 22 rfl w0.heap.size 26 i0 (.agg #[.int .i64 0, .string ⟨#[]⟩, .int .i64 0, .slice none 0 0, .slice none 0 0, .slice none 0 0]) 6 104 Tryz.underlying22 hi0 hz0 hz1 hz2 rfl (by decide) _ _ _ rfl (HOw.out.1.alloc _) ⟨wr.heap.size, 0, none⟩ 1 1 [.int .i64 k, .string s, .int .i64 n, .slice Ap ps.length cp, .slice Af fs.length cf, .slice Av ws.length cv] rfl rfl ?a0 ?a1 ?a2 ?a3 ?a4 ?_))
     case a0 => exact HC2.out
     case a1 =>
      intro u hu
      simp only [List.mem_cons, List.not_mem_nil, or_false] at hu
      rcases hu with rfl | rfl | rfl | rfl | rfl | rfl <;> rfl
     case a2 => have := HL1.out; unfold maxLen; omega
     case a3 => have := HL1.out; omega
     case a4 => have := HB.out.size; simp only [World.size_alloc]; omega
     intro v5 w5 hown5 hg5 _ _
     refine hK _ _ ?_
     clear hK K
     have HR5 := Lib.hid (out_push2 HB.out HOw.out.1 HOw.out.2 HREP.out hown5 hg5)
     clear hown5 hg5 x0 x1 x2 x3 x4 x5
     go_wp2_with fail
     refine ⟨⟨i + 1, _, HIn.out, by first | rfl | rw [wr2], ?p1, HR5.out.1, HR5.out.2⟩, ?p3⟩
     case p1 =>
      rw [HTk.out, HAcc.out, parts1_mk, if_neg h15, List.append_assoc]
      have e : ([Ty.mk k s n ps fs ws].filter fun t => !(t.k == 1)) = [Ty.mk k s n ps fs ws] := by simp [Ty.k, HKP.out]
      rw [e]
     case p3 => first | exact HM.out | (rw [wr2]; exact HM.out)
  ·have t1 : decide ((i : Int) < (l.length : Int)) = false := by simp; omega
   have HE : Hid (l.take i = l) := Lib.hid (List.take_of_length_le (by omega))
   clear hi hvs hrs hb
   go_wp2_with fail
   go_ret
   have h1 := HR.out
   have h2 := HAcc.out
   rw [HE.out] at h2
   rw [← h2]
   exact ⟨.slice A1 acc.length c1, rfl, h1.1, h1.2⟩
theorem flatr_any (l : List Ty) : FlatR l := flatr_list l fun p _ => Ty.ind (C := fun t => FlatR t.ps) (fun _ _ _ ps _ _ hp _ _ => flatr_list ps hp) p
def sortTy_ren : Go.Shelf.Ren := ⟨fun | 6 => 53 | 15 => 72 | 14 => 71 | 28 => 96 | 29 => 97 | 20 => 88 | 21 => 89 | 22 => 90 | 23 => 91 | 24 => 92 | 25 => 93 | 26 => 94 | 27 => 95 | 46 => 108 | 47 => 109 | 48 => 110 | 49 => 111 | 50 => 112 | 57 => 117 | n => n, fun | 22 => 22 | 24 => 26 | 25 => 47 | 3 => 3 | 39 => 95 | 0 => 0 | 53 => 119 | 55 => 121 | 4 => 4 | 46 => 112 | 45 => 111 | 50 => 116 | 5 => 5 | 9 => 9 | 66 => 133 | 70 => 69 | 76 => 141 | 77 => 142 | n => n, fun n => n⟩
theorem sortTy : Go.Proofs.SlLaysF0.n6 Tryz.prog sortTy_ren := {
 mixed := by kernel_rfl
 f6 := ⟨ "slices.SortFunc[[]plinth/api.Type,plinth/api.Type]", by decide, Tryz.func53.trans (congrArg some (by kernel_rfl))⟩
 f14 := ⟨ "slices.pdqsortCmpFunc[plinth/api.Type]", by decide, Tryz.func71.trans (congrArg some (by kernel_rfl))⟩
 f15 := Tryz.func72.trans (congrArg some (by kernel_rfl))
 f20 := ⟨ "slices.insertionSortCmpFunc[plinth/api.Type]", by decide, Tryz.func88.trans (congrArg some (by kernel_rfl))⟩
 f21 := ⟨ "slices.heapSortCmpFunc[plinth/api.Type]", by decide, Tryz.func89.trans (congrArg some (by kernel_rfl))⟩
 f22 := ⟨ "slices.breakPatternsCmpFunc[plinth/api.Type]", by decide, Tryz.func90.trans (congrArg some (by kernel_rfl))⟩
 f23 := ⟨ "slices.choosePivotCmpFunc[plinth/api.Type]", by decide, Tryz.func91.trans (congrArg some (by kernel_rfl))⟩
 f24 := ⟨ "slices.reverseRangeCmpFunc[plinth/api.Type]", by decide, Tryz.func92.trans (congrArg some (by kernel_rfl))⟩
 f25 := ⟨ "slices.partialInsertionSortCmpFunc[plinth/api.Type]", by decide, Tryz.func93.trans (congrArg some (by kernel_rfl))⟩
 f26 := ⟨ "slices.partitionEqualCmpFunc[plinth/api.Type]", by decide, Tryz.func94.trans (congrArg some (by kernel_rfl))⟩
 f27 := ⟨ "slices.partitionCmpFunc[plinth/api.Type]", by decide, Tryz.func95.trans (congrArg some (by kernel_rfl))⟩
 f28 := Tryz.func96.trans (congrArg some (by kernel_rfl))
 f29 := Tryz.func97.trans (congrArg some (by kernel_rfl))
 f46 := ⟨ "slices.siftDownCmpFunc[plinth/api.Type]", by decide, Tryz.func108.trans (congrArg some (by kernel_rfl))⟩
 f47 := Tryz.func109.trans (congrArg some (by kernel_rfl))
 f48 := Tryz.func110.trans (congrArg some (by kernel_rfl))
 f49 := ⟨ "slices.medianAdjacentCmpFunc[plinth/api.Type]", by decide, Tryz.func111.trans (congrArg some (by kernel_rfl))⟩
 f50 := ⟨ "slices.medianCmpFunc[plinth/api.Type]", by decide, Tryz.func112.trans (congrArg some (by kernel_rfl))⟩
 f57 := ⟨ "slices.order2CmpFunc[plinth/api.Type]", by decide, Tryz.func117.trans (congrArg some (by kernel_rfl))⟩
 t0 := Tryz.underlying0
 a0 := Tryz.isAgg0
 z0 := Tryz.sizeOf0
 v0 := Tryz.zeroValue0
 t3 := Tryz.underlying3
 a3 := Tryz.isAgg3
 z3 := Tryz.sizeOf3
 v3 := Tryz.zeroValue3
 t4 := Tryz.underlying4
 a4 := Tryz.isAgg4
 z4 := Tryz.sizeOf4
 v4 := Tryz.zeroValue4
 t5 := Tryz.underlying5
 a5 := Tryz.isAgg5
 z5 := Tryz.sizeOf5
 v5 := Tryz.zeroValue5
 t9 := Tryz.underlying9
 a9 := Tryz.isAgg9
 z9 := Tryz.sizeOf9
 v9 := Tryz.zeroValue9
 t22 := Tryz.underlying22
 a22 := Tryz.isAgg22
 z22 := Tryz.sizeOf22
 v22 := Tryz.zeroValue22
 t25 := Tryz.underlying47
 a25 := Tryz.isAgg47
 z25 := Tryz.sizeOf47
 v25 := Tryz.zeroValue47
 t39 := Tryz.underlying95
 a39 := Tryz.isAgg95
 z39 := Tryz.sizeOf95
 v39 := Tryz.zeroValue95
 t45 := Tryz.underlying111
 a45 := Tryz.isAgg111
 z45 := Tryz.sizeOf111
 v45 := Tryz.zeroValue111
 t46 := Tryz.underlying112
 a46 := Tryz.isAgg112
 z46 := Tryz.sizeOf112
 v46 := Tryz.zeroValue112
 t50 := Tryz.underlying116
 a50 := Tryz.isAgg116
 z50 := Tryz.sizeOf116
 v50 := Tryz.zeroValue116
 t53 := Tryz.underlying119
 a53 := Tryz.isAgg119
 z53 := Tryz.sizeOf119
 v53 := Tryz.zeroValue119
 t55 := Tryz.underlying121
 a55 := Tryz.isAgg121
 z55 := Tryz.sizeOf121
 v55 := Tryz.zeroValue121
 t66 := Tryz.underlying133
 a66 := Tryz.isAgg133
 z66 := Tryz.sizeOf133
 v66 := Tryz.zeroValue133
 t70 := Tryz.underlying69
 a70 := Tryz.isAgg69
 z70 := Tryz.sizeOf69
 v70 := Tryz.zeroValue69
 t76 := Tryz.underlying141
 a76 := Tryz.isAgg141
 z76 := Tryz.sizeOf141
 v76 := Tryz.zeroValue141
 t77 := Tryz.underlying142
 a77 := Tryz.isAgg142
 z77 := Tryz.sizeOf142
 v77 := Tryz.zeroValue142
}
theorem no_up {a b c : Ty} (hx : ordT a b ≤ 0) (hy : ordT b c ≤ 0) : ordT a c ≤ 0 := by
 rcases ordT_bd a b with x | x | x
 ·rcases ordT_bd b c with y | y | y
  ·rw [ordT_trans x y]; decide
  ·rw [ordT_zero] at y; subst y; rw [x]; decide
  ·rw [y] at hy; omega
 ·rw [ordT_zero] at x; subst x; exact hy
 ·rw [x] at hx; omega
theorem no_down {a b c : Ty} (hx : 0 ≤ ordT a b) (hy : 0 ≤ ordT b c) : 0 ≤ ordT a c := by
 have := no_up (a := c) (b := b) (c := a) (by rw [ordT_flip]; omega) (by rw [ordT_flip]; omega)
 rw [ordT_flip] at this
 omega
end Go.Proofs.YtfchnfnifpopnaaGreatDoor
