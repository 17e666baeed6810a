import Derived.Test.YtllhfnpchplibaaGreatDoorMc3
namespace Go.Proofs.YtllhfnpchplibaaGreatDoor
open Go.RowKit
def trimF : Nat → ByteArray → ByteArray
 | 0, s => s
 | n + 1, s => if 0 < s.size ∧ byteN s (s.size - 1) = 39 then trimF n (s.extract 0 (s.size - 1)) else s
def trimQ (s : ByteArray) : ByteArray := trimF s.size s
def nameT (s : ByteArray) : Bool := idB (trimQ s)
theorem trim_go {s : ByteArray} {m : Nat} (h : s.size = m + 1) (hb : byteN s m = 39) : trimQ s = trimQ (s.extract 0 m) := by
 have h2 : (s.extract 0 m).size = m := by rw [ByteArray.size_extract]; omega
 unfold trimQ
 rw [h2, h, trimF, if_pos ⟨by omega, by rw [h]; exact hb⟩, h]
 rfl
theorem trim_stop {s : ByteArray} {m : Nat} (h : s.size = m + 1) (hb : byteN s m ≠ 39) : trimQ s = s := by
 unfold trimQ
 rw [h, trimF, if_neg (fun hx => hb (by have := hx.2; rw [h] at this; exact this))]
theorem trim_none {s : ByteArray} (h : s.size = 0) : trimQ s = s := by
 unfold trimQ
 rw [h]; rfl
theorem wrap_small {n : Int} (h : 0 ≤ n) (h2 : n ≤ 1000000000000000000) : wrap64 n = n := by
 have e : IntKind.i64.wrap n = wrap64 n := by unfold wrap64; exact IntKind.wrap_i64 n
 rw [← e]
 simp [IntKind.wrap, IntKind.bits, IntKind.signed]
 omega
theorem trimF_size : ∀ n s, (trimF n s).size ≤ s.size
 | 0, _ => Nat.le_refl _
 | n + 1, s => by
  rw [trimF]
  split
  ·refine Nat.le_trans (trimF_size n _) ?_
   rw [ByteArray.size_extract]; omega
  ·exact Nat.le_refl _
theorem trimQ_size (s : ByteArray) : (trimQ s).size ≤ s.size := trimF_size _ _
theorem sz_extract (t : ByteArray) {m : Nat} (h : t.size = m + 1) : (t.extract 0 m).size = m := by rw [ByteArray.size_extract]; omega
set_option maxRecDepth 100000 in
set_option maxHeartbeats 4000000 in
theorem trimR_prog (s : ByteArray) (w : World) (hs : s.size ≤ 1000000000000000) :
  Calls Tryz.prog 105 #[.string s, .int .u8 39] w fun e w' => e = .returned (.string (trimQ s)) ∧ w' = w := by
 go_enter Tryz.func105, Tryz.ntmps105
 go_wp2_with fail
 go_loopw [0] (fun v wr => ∃ t : ByteArray, v = .string t ∧ t.size ≤ s.size ∧ trimQ t = trimQ s ∧ wr = w) (fun v _ => match v with | .string t => t.size | _ => 0)
 case atStart => exact ⟨s, rfl, Nat.le_refl _, rfl, rfl⟩
 case round =>
  obtain ⟨t, rfl, ht, hq, rfl⟩ := hrel
  have HQ := Lib.hid hq
  clear hq
  cases hm : t.size with
  | zero =>
   have HF := Lib.hid (trim_none hm)
   go_wp2_with fail
   go_ret
   exact ⟨by rw [← HQ.out, HF.out]; rfl, rfl⟩
  | succ m =>
   have hb := byteN_at t m (by omega)
   have HM := Lib.hid hm
   have i0 : (0 : Int) ≤ (m : Int) := by omega
   have i1 : (m : Int) < (m : Int) + 1 := by omega
   have wr1 : wrap64 (((m + 1 : Nat) : Int) - 1) = (m : Int) := by rw [wrap_small (by omega) (by omega)]; omega
   have wr3 : wrap64 (m : Int) = (m : Int) := wrap_small (by omega) (by omega)
   have HSZ := Lib.hid (sz_extract t hm)
   by_cases h39 : byteN t m = 39
   ·have HG := Lib.hid (trim_go hm h39)
    have te : ((byteN t m : Int) == 39) = true := by simp; omega
    have HT := Lib.hid ht
    clear h39 ht
    generalize byteN t m = bb at hb te
    go_wp2_with fail
    refine ⟨⟨t.extract 0 m, by first | rfl | (rw [wr3]; rfl), by rw [HSZ.out]; have := HT.out; have := HM.out; omega, by rw [← HG.out, HQ.out], by first | rfl | trivial⟩, ?_⟩
    try rw [wr3]
    show (t.extract 0 m).size < t.size
    rw [HSZ.out, HM.out]; omega
   ·have HF := Lib.hid (trim_stop hm h39)
    have te : ((byteN t m : Int) == 39) = false := by simp; omega
    have te2 : (byteN t m == 39) = false := by simpa using h39
    clear ht
    generalize byteN t m = bb at hb te te2 h39
    go_wp2_with fail
    go_ret
    exact ⟨by rw [← HQ.out, HF.out]; rfl, rfl⟩
set_option maxRecDepth 100000 in
set_option maxHeartbeats 4000000 in
theorem trim_prog (s : ByteArray) (w : World) (hs : s.size ≤ 1000000000000000) :
  Calls Tryz.prog 87 #[.string s, .string ⟨#[39]⟩] w fun e w' => e = .returned (.string (trimQ s)) ∧ w' = w := by
 cases hl : s.toList with
 | nil =>
  have HF := Lib.hid (trim_none (size_nil hl))
  have HQ := Lib.hid hl
  go_enter Tryz.func87, Tryz.ntmps87
  go_wp2_with fail
  go_ret
  exact ⟨by rw [HF.out]; rfl, rfl⟩
 | cons a l =>
  have KT := Lib.hid (trimR_prog s w hs)
  go_enter Tryz.func87, Tryz.ntmps87
  go_wp2_with fail
  refine KT.out.mono ?_
  rintro e w1 ⟨rfl, rfl⟩
  go_wp2_with fail
  go_ret
  exact ⟨rfl, rfl⟩
set_option maxRecDepth 100000 in
set_option maxHeartbeats 4000000 in
theorem name_prog (s : ByteArray) (w : World) (hs : s.size ≤ 1000000000000000) :
  Calls Tryz.prog 67 #[.string s] w fun e w' => e = .returned (.bool (nameT s)) ∧ Below w.heap.size w w' := by
 have KT := Lib.hid (trim_prog s w hs)
 have KI := Lib.hid (isname_prog (trimQ s) w (Nat.le_trans (trimQ_size s) hs))
 unfold nameT
 generalize idB (trimQ s) = r at KI ⊢
 generalize trimQ s = q at KT KI
 go_enter Tryz.func67, Tryz.ntmps67
 go_wp2_with fail
 refine KT.out.mono ?_
 rintro e w1 ⟨rfl, rfl⟩
 go_wp2_with fail
 refine KI.out.mono ?_
 rintro e w2 ⟨rfl, hb⟩
 have HB := Lib.hid hb
 clear hb
 go_wp2_with fail
 go_ret
 exact ⟨rfl, HB.out⟩
set_option maxRecDepth 100000 in
set_option maxHeartbeats 4000000 in
theorem name_ref (s : ByteArray) (w : World) (hs : s.size ≤ 1000000000000000) :
  Calls Tryz.prog 34 #[.string s] w fun e w' => e = .returned (.bool (nameT s)) ∧ Below w.heap.size w w' := by
 have KI : Hid (∀ t : ByteArray, t.size ≤ s.size → trimQ t = t → trimQ t = trimQ s → Calls Tryz.prog 46 #[.string t] w fun e w' => e = .returned (.bool (nameT s)) ∧ Below w.heap.size w w') := Lib.hid fun t ht h1 h2 => by
  unfold nameT
  rw [← h2, h1]
  exact isname_ref t w (Nat.le_trans ht hs)
 generalize nameT s = r at KI ⊢
 go_enter Tryz.func34, Tryz.ntmps34
 go_wp2_with fail
 go_loopw [0] (fun v wr => ∃ t : ByteArray, v = .string t ∧ t.size ≤ s.size ∧ trimQ t = trimQ s ∧ wr = w) (fun v _ => match v with | .string t => t.size | _ => 0)
 case atStart => exact ⟨s, rfl, Nat.le_refl _, rfl, rfl⟩
 case round =>
  obtain ⟨t, rfl, ht, hq, rfl⟩ := hrel
  have HQ := Lib.hid hq
  clear hq
  cases hm : t.size with
  | zero =>
   have KT := Lib.hid (KI.out t ht (trim_none hm) HQ.out)
   clear ht
   go_wp2_with fail
   refine KT.out.mono ?_
   rintro e w2 ⟨rfl, hb⟩
   have HB := Lib.hid hb
   clear hb
   go_wp2_with fail
   go_ret
   exact ⟨rfl, HB.out⟩
  | succ m =>
   have hb := byteN_at t m (by omega)
   have HM := Lib.hid hm
   have i0 : (0 : Int) ≤ (m : Int) := by omega
   have i1 : (m : Int) < (m : Int) + 1 := by omega
   have wr1 : wrap64 (((m + 1 : Nat) : Int) - 1) = (m : Int) := by rw [wrap_small (by omega) (by omega)]; omega
   have wr3 : wrap64 (m : Int) = (m : Int) := wrap_small (by omega) (by omega)
   have HSZ := Lib.hid (sz_extract t hm)
   by_cases h39 : byteN t m = 39
   ·have HG := Lib.hid (trim_go hm h39)
    have te : ((byteN t m : Int) == 39) = true := by simp; omega
    have HT := Lib.hid ht
    clear h39 ht
    generalize byteN t m = bb at hb te
    go_wp2_with fail
    refine ⟨⟨t.extract 0 m, by first | rfl | (rw [wr3]; rfl), by rw [HSZ.out]; have := HT.out; have := HM.out; omega, by rw [← HG.out, HQ.out], by first | rfl | trivial⟩, ?_⟩
    try rw [wr3]
    show (t.extract 0 m).size < t.size
    rw [HSZ.out, HM.out]; omega
   ·have KT := Lib.hid (KI.out t ht (trim_stop hm h39) HQ.out)
    have te : ((byteN t m : Int) == 39) = false := by simp; omega
    have te2 : (byteN t m == 39) = false := by simpa using h39
    clear ht
    generalize byteN t m = bb at hb te te2 h39
    go_wp2_with fail
    refine KT.out.mono ?_
    rintro e w2 ⟨rfl, hb⟩
    have HB := Lib.hid hb
    clear hb
    go_wp2_with fail
    go_ret
    exact ⟨rfl, HB.out⟩
set_option maxRecDepth 100000 in
set_option maxHeartbeats 8000000 in
theorem all_fields {α : Type} (E : α → List Tok) (hE : ∀ x y, Clean (E x) (E y) (lexC (E x) (E y))) (R R' : α → World → Nat → Nat → Prop) (hR : ∀ x w w' b o, Below w.heap.size w w' → R x w b o → R x w' b o) (hR' : ∀ x w w' b o, Below w.heap.size w w' → R' x w b o → R' x w' b o)
  (l l' : List α) (hl : ∀ x ∈ l, ∀ y, OrdP 81 (R x) (R' y) (lexC (E x) (E y))) (A A' : Option Addr) (c c' : Nat) (w : World) (b o b' o' : Nat) (hA : 0 < l.length → A = some ⟨b, o, none⟩) (hA' : 0 < l'.length → A' = some ⟨b', o', none⟩) (hlen : l.length ≤ 1000000000000000) (_hlen' : l'.length ≤ 1000000000000000)
  (hx : ∀ i (h : i < l.length), R l[i] w b (o + i * 8)) (hx' : ∀ i (h : i < l'.length), R' l'[i] w b' (o' + i * 8)) :
  Calls Tryz.prog 80 #[.slice A l.length c, .slice A' l'.length c', .func (.func 81) #[] #[]] w fun e w' => e = .returned (.int .i64 (lexC (rowE E l) (rowE E l'))) ∧ Gw w w' := by
 by_cases heq : l.length = l'.length
 case neg =>
  rw [row_len E heq]
  have tc : (cmpZ l.length l'.length != 0) = true := by
   rw [bne_iff_ne]
   exact fun h => heq (by have := cmpZ_zero h; omega)
  have KC := Lib.hid (compare_i (l.length : Int) (l'.length : Int))
  generalize cmpZ (l.length : Int) (l'.length : Int) = cz at tc KC
  clear heq hx hx' hl hR hR' hA hA'
  go_enter Tryz.func80, Tryz.ntmps80
  go_wp2_with fail
  refine (KC.out _).mono ?_
  rintro e w1 ⟨rfl, rfl⟩
  go_wp2_with fail
  go_ret
  exact ⟨rfl, Gw.refl _⟩
 rw [row_same E heq]
 have HE := Lib.hid hE
 have HR := Lib.hid hR
 have HR' := Lib.hid hR'
 have HO := Lib.hid hl
 have HA := Lib.hid hA
 have HA' := Lib.hid hA'
 have HX := Lib.hid hx
 have HX' := Lib.hid hx'
 have HBg := Lib.hid hlen
 have HQ := Lib.hid heq
 have KC := Lib.hid (compare_i (l.length : Int) (l'.length : Int))
 rw [show cmpZ (l.length : Int) (l'.length : Int) = 0 from by rw [heq]; exact cmpZ_self _] at KC
 generalize hres : restC E l l' 0 = res
 have HRes := Lib.hid hres
 clear hE hR hR' hl hA hA' hx hx' hres
 obtain ⟨m, hm⟩ : ∃ m, m = l.length := ⟨_, rfl⟩
 obtain ⟨m', hm'⟩ : ∃ m', m' = l'.length := ⟨_, rfl⟩
 rw [← hm, ← hm'] at heq KC
 rw [← hm, ← hm']
 rw [← hm] at hlen HBg
 have HM := Lib.hid (And.intro hm hm')
 subst heq
 clear _hlen' hm hm'
 go_enter Tryz.func80, Tryz.ntmps80
 go_wp2_with fail
 refine (KC.out _).mono ?_
 rintro e w1 ⟨rfl, rfl⟩
 go_wp2_with fail
 go_loopw [20] (fun v wr => ∃ n : Nat, n ≤ m ∧ v = .int .i64 n ∧ Gw w wr ∧ restC E l l' n = res) (fun v _ => m - (intOf v).toNat)
 case atStart => exact ⟨0, by omega, rfl, Gw.refl _, HRes.out⟩
 case round =>
  obtain ⟨n, hn, rfl, hb, hrest⟩ := hrel
  have HB := Lib.hid hb
  have HRst := Lib.hid hrest
  clear hb hrest
  by_cases hlt : n < m
  case neg =>
   obtain rfl : n = m := by omega
   have tl : decide ((n : Int) < (n : Int)) = false := by simp
   have h0 : res = 0 := by rw [← HRst.out, HM.out.1]; exact rest_end E HQ.out
   have H0 := Lib.hid h0
   clear hlt h0
   go_wp2_with fail
   go_ret
   exact ⟨by rw [H0.out]; rfl, HB.out⟩
  have tl : decide ((n : Int) < (m : Int)) = true := by simp; omega
  have hn1 : n < l.length := by rw [← HM.out.1]; exact hlt
  have hn2 : n < l'.length := by rw [← HM.out.2]; exact hlt
  have hA := HA.out (by omega)
  have hA' := HA'.out (by omega)
  subst hA hA'
  have HL := Lib.hid hlt
  have hstep := rest_step E HE.out HQ.out hn1 hn2
  rw [HRst.out] at hstep
  have K7 := Lib.hid ((HO.out l[n] (List.getElem_mem hn1) l'[n]).ok wr.drew b (o + n * 8) b' (o' + n * 8) (HR.out _ _ _ _ _ HB.out.drew.below (HX.out n hn1)) (HR'.out _ _ _ _ _ HB.out.drew.below (HX'.out n hn2)))
  generalize lexC (E l[n]) (E l'[n]) = c7 at hstep K7
  have HNext : Hid (c7 = 0 → restC E l l' (n + 1) = res) := Lib.hid fun h => by rw [hstep, h, or2_zero]
  have HStop : Hid (c7 ≠ 0 → res = c7) := Lib.hid fun h => by rw [hstep, or2_ne h]
  have hltn : n < m := hlt
  clear hstep hlt hn1 hn2
  go_wp2_with fail
  go_wp2_with fail
  refine wp_region_held_drew (S := (fun _ => True)) (by kernel_rfl) trivial (fun hHeld => ?_)
  refine Plan.start [0, 1, 2, 3, 4, 5, 6] ?_
  iterate 7 ((refine Plan.take (v := ?_) (so rfl) (by kernel_rfl) (by kernel_rfl) (by kernel_rfl) (fun _ _ _ h => h) (Or.inl ⟨by rfl, ?_⟩) hHeld ?_; rotate_left; focus (intro w' hSw; (try dsimp only at hSw); go_simp; try with_reducible rfl)); try simp only [Act.put, List.setIfInBounds_toArray, List.set_cons_zero, List.set_cons_succ])
  refine Plan.done ?_
  refine wpAnyH_ready (rs := [7]) (by kernel_rfl) (by simp) ?_
  refine AllReadyH.cons (sd (some 30) rfl) (fun K hK => ?_) AllReadyH.nil
  go_simp
  refine K7.out.mono ?_
  rintro e w7 ⟨rfl, hb7⟩
  have HB7 := Lib.hid hb7
  clear hb7
  go_wp2_with fail
  refine hK.out _ _ (trivial) (fun hHeld => ?_)
  clear hK K
  try simp only [Act.put, List.setIfInBounds_toArray, List.set_cons_zero, List.set_cons_succ]
  refine wpAnyH_take (i := 8) (v := ?_) (sd (some 9) rfl) (by kernel_rfl) (by kernel_rfl) (by kernel_rfl) (fun _ _ _ h => h) (Or.inl ⟨by rfl, ?_⟩) hHeld ?_
  rotate_left
  ·intro w' hSw
   (try dsimp only at hSw)
   go_simp
   try with_reducible rfl
  try simp only [Act.put, List.setIfInBounds_toArray, List.set_cons_zero, List.set_cons_succ]
  refine wpAnyH_done (by kernel_rfl) ?_ _
  clear hHeld
  by_cases hc : c7 = 0
  ·have tc : (c7 != 0) = false := by simpa using hc
   have HR2 := Lib.hid (HNext.out hc)
   clear hc
   go_wp2_with fail
   refine ⟨⟨n + 1, HL.out, by go_num, HB.out.drew.trans HB7.out, HR2.out⟩, ?meas⟩
   case meas => exact measT HL.out
  ·have tc : (c7 != 0) = true := by simpa using hc
   have HR2 := Lib.hid (HStop.out hc)
   clear hc
   go_wp2_with fail
   go_ret
   exact ⟨by rw [← HR2.out]; rfl, HB.out.drew.trans HB7.out⟩
set_option maxRecDepth 100000 in
set_option maxHeartbeats 8000000 in
theorem all_vars {α : Type} (E : α → List Tok) (hE : ∀ x y, Clean (E x) (E y) (lexC (E x) (E y))) (R R' : α → World → Nat → Nat → Prop) (hR : ∀ x w w' b o, Below w.heap.size w w' → R x w b o → R x w' b o) (hR' : ∀ x w w' b o, Below w.heap.size w w' → R' x w b o → R' x w' b o)
  (l l' : List α) (hl : ∀ x ∈ l, ∀ y, OrdP 83 (R x) (R' y) (lexC (E x) (E y))) (A A' : Option Addr) (c c' : Nat) (w : World) (b o b' o' : Nat) (hA : 0 < l.length → A = some ⟨b, o, none⟩) (hA' : 0 < l'.length → A' = some ⟨b', o', none⟩) (hlen : l.length ≤ 1000000000000000) (_hlen' : l'.length ≤ 1000000000000000)
  (hx : ∀ i (h : i < l.length), R l[i] w b (o + i * 2)) (hx' : ∀ i (h : i < l'.length), R' l'[i] w b' (o' + i * 2)) :
  Calls Tryz.prog 82 #[.slice A l.length c, .slice A' l'.length c', .func (.func 83) #[] #[]] w fun e w' => e = .returned (.int .i64 (lexC (rowE E l) (rowE E l'))) ∧ Gw w w' := by
 by_cases heq : l.length = l'.length
 case neg =>
  rw [row_len E heq]
  have tc : (cmpZ l.length l'.length != 0) = true := by
   rw [bne_iff_ne]
   exact fun h => heq (by have := cmpZ_zero h; omega)
  have KC := Lib.hid (compare_i (l.length : Int) (l'.length : Int))
  generalize cmpZ (l.length : Int) (l'.length : Int) = cz at tc KC
  clear heq hx hx' hl hR hR' hA hA'
  go_enter Tryz.func82, Tryz.ntmps82
  go_wp2_with fail
  refine (KC.out _).mono ?_
  rintro e w1 ⟨rfl, rfl⟩
  go_wp2_with fail
  go_ret
  exact ⟨rfl, Gw.refl _⟩
 rw [row_same E heq]
 have HE := Lib.hid hE
 have HR := Lib.hid hR
 have HR' := Lib.hid hR'
 have HO := Lib.hid hl
 have HA := Lib.hid hA
 have HA' := Lib.hid hA'
 have HX := Lib.hid hx
 have HX' := Lib.hid hx'
 have HBg := Lib.hid hlen
 have HQ := Lib.hid heq
 have KC := Lib.hid (compare_i (l.length : Int) (l'.length : Int))
 rw [show cmpZ (l.length : Int) (l'.length : Int) = 0 from by rw [heq]; exact cmpZ_self _] at KC
 generalize hres : restC E l l' 0 = res
 have HRes := Lib.hid hres
 clear hE hR hR' hl hA hA' hx hx' hres
 obtain ⟨m, hm⟩ : ∃ m, m = l.length := ⟨_, rfl⟩
 obtain ⟨m', hm'⟩ : ∃ m', m' = l'.length := ⟨_, rfl⟩
 rw [← hm, ← hm'] at heq KC
 rw [← hm, ← hm']
 rw [← hm] at hlen HBg
 have HM := Lib.hid (And.intro hm hm')
 subst heq
 clear _hlen' hm hm'
 go_enter Tryz.func82, Tryz.ntmps82
 go_wp2_with fail
 refine (KC.out _).mono ?_
 rintro e w1 ⟨rfl, rfl⟩
 go_wp2_with fail
 go_loopw [20] (fun v wr => ∃ n : Nat, n ≤ m ∧ v = .int .i64 n ∧ Gw w wr ∧ restC E l l' n = res) (fun v _ => m - (intOf v).toNat)
 case atStart => exact ⟨0, by omega, rfl, Gw.refl _, HRes.out⟩
 case round =>
  obtain ⟨n, hn, rfl, hb, hrest⟩ := hrel
  have HB := Lib.hid hb
  have HRst := Lib.hid hrest
  clear hb hrest
  by_cases hlt : n < m
  case neg =>
   obtain rfl : n = m := by omega
   have tl : decide ((n : Int) < (n : Int)) = false := by simp
   have h0 : res = 0 := by rw [← HRst.out, HM.out.1]; exact rest_end E HQ.out
   have H0 := Lib.hid h0
   clear hlt h0
   go_wp2_with fail
   go_ret
   exact ⟨by rw [H0.out]; rfl, HB.out⟩
  have tl : decide ((n : Int) < (m : Int)) = true := by simp; omega
  have hn1 : n < l.length := by rw [← HM.out.1]; exact hlt
  have hn2 : n < l'.length := by rw [← HM.out.2]; exact hlt
  have hA := HA.out (by omega)
  have hA' := HA'.out (by omega)
  subst hA hA'
  have HL := Lib.hid hlt
  have hstep := rest_step E HE.out HQ.out hn1 hn2
  rw [HRst.out] at hstep
  have K7 := Lib.hid ((HO.out l[n] (List.getElem_mem hn1) l'[n]).ok wr.drew b (o + n * 2) b' (o' + n * 2) (HR.out _ _ _ _ _ HB.out.drew.below (HX.out n hn1)) (HR'.out _ _ _ _ _ HB.out.drew.below (HX'.out n hn2)))
  generalize lexC (E l[n]) (E l'[n]) = c7 at hstep K7
  have HNext : Hid (c7 = 0 → restC E l l' (n + 1) = res) := Lib.hid fun h => by rw [hstep, h, or2_zero]
  have HStop : Hid (c7 ≠ 0 → res = c7) := Lib.hid fun h => by rw [hstep, or2_ne h]
  have hltn : n < m := hlt
  clear hstep hlt hn1 hn2
  go_wp2_with fail
  go_wp2_with fail
  refine wp_region_held_drew (S := (fun _ => True)) (by kernel_rfl) trivial (fun hHeld => ?_)
  refine Plan.start [0, 1, 2, 3, 4, 5, 6] ?_
  iterate 7 ((refine Plan.take (v := ?_) (so rfl) (by kernel_rfl) (by kernel_rfl) (by kernel_rfl) (fun _ _ _ h => h) (Or.inl ⟨by rfl, ?_⟩) hHeld ?_; rotate_left; focus (intro w' hSw; (try dsimp only at hSw); go_simp; try with_reducible rfl)); try simp only [Act.put, List.setIfInBounds_toArray, List.set_cons_zero, List.set_cons_succ])
  refine Plan.done ?_
  refine wpAnyH_ready (rs := [7]) (by kernel_rfl) (by simp) ?_
  refine AllReadyH.cons (sd (some 30) rfl) (fun K hK => ?_) AllReadyH.nil
  go_simp
  refine K7.out.mono ?_
  rintro e w7 ⟨rfl, hb7⟩
  have HB7 := Lib.hid hb7
  clear hb7
  go_wp2_with fail
  refine hK.out _ _ (trivial) (fun hHeld => ?_)
  clear hK K
  try simp only [Act.put, List.setIfInBounds_toArray, List.set_cons_zero, List.set_cons_succ]
  refine wpAnyH_take (i := 8) (v := ?_) (sd (some 9) rfl) (by kernel_rfl) (by kernel_rfl) (by kernel_rfl) (fun _ _ _ h => h) (Or.inl ⟨by rfl, ?_⟩) hHeld ?_
  rotate_left
  ·intro w' hSw
   (try dsimp only at hSw)
   go_simp
   try with_reducible rfl
  try simp only [Act.put, List.setIfInBounds_toArray, List.set_cons_zero, List.set_cons_succ]
  refine wpAnyH_done (by kernel_rfl) ?_ _
  clear hHeld
  by_cases hc : c7 = 0
  ·have tc : (c7 != 0) = false := by simpa using hc
   have HR2 := Lib.hid (HNext.out hc)
   clear hc
   go_wp2_with fail
   refine ⟨⟨n + 1, HL.out, by go_num, HB.out.drew.trans HB7.out, HR2.out⟩, ?meas⟩
   case meas => exact measT HL.out
  ·have tc : (c7 != 0) = true := by simpa using hc
   have HR2 := Lib.hid (HStop.out hc)
   clear hc
   go_wp2_with fail
   go_ret
   exact ⟨by rw [← HR2.out]; rfl, HB.out.drew.trans HB7.out⟩
def sortTy_ren : Go.Shelf.Ren := ⟨fun | 6 => 57 | 15 => 74 | 14 => 73 | 28 => 97 | 29 => 98 | 20 => 89 | 21 => 90 | 22 => 91 | 23 => 92 | 24 => 93 | 25 => 94 | 26 => 95 | 27 => 96 | 46 => 109 | 47 => 110 | 48 => 111 | 49 => 112 | 50 => 113 | 57 => 118 | n => n, fun | 22 => 22 | 24 => 26 | 25 => 35 | 3 => 3 | 39 => 97 | 0 => 0 | 53 => 120 | 55 => 122 | 4 => 4 | 46 => 113 | 45 => 112 | 50 => 117 | 5 => 5 | 9 => 9 | 66 => 134 | 70 => 71 | 76 => 142 | 77 => 143 | n => n, fun n => n⟩
theorem sortTy : Go.Proofs.SlLaysF0.n6 Tryz.prog sortTy_ren := {
 mixed := by kernel_rfl
 f6 := ⟨ "slices.SortFunc[[]plinth/api.Type,plinth/api.Type]", by decide, Tryz.func57.trans (congrArg some (by kernel_rfl))⟩
 f14 := ⟨ "slices.pdqsortCmpFunc[plinth/api.Type]", by decide, Tryz.func73.trans (congrArg some (by kernel_rfl))⟩
 f15 := Tryz.func74.trans (congrArg some (by kernel_rfl))
 f20 := ⟨ "slices.insertionSortCmpFunc[plinth/api.Type]", by decide, Tryz.func89.trans (congrArg some (by kernel_rfl))⟩
 f21 := ⟨ "slices.heapSortCmpFunc[plinth/api.Type]", by decide, Tryz.func90.trans (congrArg some (by kernel_rfl))⟩
 f22 := ⟨ "slices.breakPatternsCmpFunc[plinth/api.Type]", by decide, Tryz.func91.trans (congrArg some (by kernel_rfl))⟩
 f23 := ⟨ "slices.choosePivotCmpFunc[plinth/api.Type]", by decide, Tryz.func92.trans (congrArg some (by kernel_rfl))⟩
 f24 := ⟨ "slices.reverseRangeCmpFunc[plinth/api.Type]", by decide, Tryz.func93.trans (congrArg some (by kernel_rfl))⟩
 f25 := ⟨ "slices.partialInsertionSortCmpFunc[plinth/api.Type]", by decide, Tryz.func94.trans (congrArg some (by kernel_rfl))⟩
 f26 := ⟨ "slices.partitionEqualCmpFunc[plinth/api.Type]", by decide, Tryz.func95.trans (congrArg some (by kernel_rfl))⟩
 f27 := ⟨ "slices.partitionCmpFunc[plinth/api.Type]", by decide, Tryz.func96.trans (congrArg some (by kernel_rfl))⟩
 f28 := Tryz.func97.trans (congrArg some (by kernel_rfl))
 f29 := Tryz.func98.trans (congrArg some (by kernel_rfl))
 f46 := ⟨ "slices.siftDownCmpFunc[plinth/api.Type]", by decide, Tryz.func109.trans (congrArg some (by kernel_rfl))⟩
 f47 := Tryz.func110.trans (congrArg some (by kernel_rfl))
 f48 := Tryz.func111.trans (congrArg some (by kernel_rfl))
 f49 := ⟨ "slices.medianAdjacentCmpFunc[plinth/api.Type]", by decide, Tryz.func112.trans (congrArg some (by kernel_rfl))⟩
 f50 := ⟨ "slices.medianCmpFunc[plinth/api.Type]", by decide, Tryz.func113.trans (congrArg some (by kernel_rfl))⟩
 f57 := ⟨ "slices.order2CmpFunc[plinth/api.Type]", by decide, Tryz.func118.trans (congrArg some (by kernel_rfl))⟩
 t0 := Tryz.underlying0
 a0 := Tryz.isAgg0
 z0 := Tryz.sizeOf0
 v0 := Tryz.zeroValue0
 t3 := Tryz.underlying3
 a3 := Tryz.isAgg3
 z3 := Tryz.sizeOf3
 v3 := Tryz.zeroValue3
 t4 := Tryz.underlying4
 a4 := Tryz.isAgg4
 z4 := Tryz.sizeOf4
 v4 := Tryz.zeroValue4
 t5 := Tryz.underlying5
 a5 := Tryz.isAgg5
 z5 := Tryz.sizeOf5
 v5 := Tryz.zeroValue5
 t9 := Tryz.underlying9
 a9 := Tryz.isAgg9
 z9 := Tryz.sizeOf9
 v9 := Tryz.zeroValue9
 t22 := Tryz.underlying22
 a22 := Tryz.isAgg22
 z22 := Tryz.sizeOf22
 v22 := Tryz.zeroValue22
 t25 := Tryz.underlying35
 a25 := Tryz.isAgg35
 z25 := Tryz.sizeOf35
 v25 := Tryz.zeroValue35
 t39 := Tryz.underlying97
 a39 := Tryz.isAgg97
 z39 := Tryz.sizeOf97
 v39 := Tryz.zeroValue97
 t45 := Tryz.underlying112
 a45 := Tryz.isAgg112
 z45 := Tryz.sizeOf112
 v45 := Tryz.zeroValue112
 t46 := Tryz.underlying113
 a46 := Tryz.isAgg113
 z46 := Tryz.sizeOf113
 v46 := Tryz.zeroValue113
 t50 := Tryz.underlying117
 a50 := Tryz.isAgg117
 z50 := Tryz.sizeOf117
 v50 := Tryz.zeroValue117
 t53 := Tryz.underlying120
 a53 := Tryz.isAgg120
 z53 := Tryz.sizeOf120
 v53 := Tryz.zeroValue120
 t55 := Tryz.underlying122
 a55 := Tryz.isAgg122
 z55 := Tryz.sizeOf122
 v55 := Tryz.zeroValue122
 t66 := Tryz.underlying134
 a66 := Tryz.isAgg134
 z66 := Tryz.sizeOf134
 v66 := Tryz.zeroValue134
 t70 := Tryz.underlying71
 a70 := Tryz.isAgg71
 z70 := Tryz.sizeOf71
 v70 := Tryz.zeroValue71
 t76 := Tryz.underlying142
 a76 := Tryz.isAgg142
 z76 := Tryz.sizeOf142
 v76 := Tryz.zeroValue142
 t77 := Tryz.underlying143
 a77 := Tryz.isAgg143
 z77 := Tryz.sizeOf143
 v77 := Tryz.zeroValue143
}
def strT (s : ByteArray) : Ty := .mk 10 s 0 [] [] []
theorem strT_k (s : ByteArray) : (strT s).k = 10 := rfl
theorem flat_strs (l : List ByteArray) : flatU (l.map strT) = l.map strT := flat_self fun x hx => by
 obtain ⟨s, _, rfl⟩ := List.mem_map.1 hx
 rw [strT_k]; decide
def heldT (f : ByteArray × Int × Ty) : Ty := if f.2.1 % 2 = 1 then unionT [tyK 4, f.2.2] else f.2.2
def fieldT (fs : List (ByteArray × Int × Ty)) (s : ByteArray) : Ty := match fs.find? fun f => decide (f.1 = s) with
 | none => tyK 2
 | some f => heldT f
def rowT (t k : Ty) : Ty :=
 if t.k = 11 ∧ (k.k = 7 ∨ k.k = 9) then unionT (tyK 4 :: t.ps)
 else if t.k = 12 ∧ k.k = 9 then (if k.n < 0 then tyK 4 else (t.ps[k.n.toNat]?).getD (tyK 4))
 else if t.k = 12 ∧ k.k = 7 then unionT (tyK 4 :: t.ps) else tyK 2
theorem lt_ps {t p : Ty} (h : p ∈ t.ps) : SizeOf.sizeOf p < SizeOf.sizeOf t := by
 obtain ⟨k, s, n, ps, fs, vs⟩ := t
 exact ty_lt_p h
def atT (t k : Ty) : Ty := if k.k = 1 then k else if t.k = 3 ∨ t.k = 1 then t else if k.k = 15 then unionT (k.ps.attach.map fun ⟨p, _⟩ => atT t p) else if t.k = 15 then unionT (t.ps.attach.map fun ⟨p, _⟩ => atT p k) else if t.k = 14 ∧ k.k = 10 then fieldT t.fs k.t else rowT t k
termination_by SizeOf.sizeOf t + SizeOf.sizeOf k
decreasing_by
 ·have := lt_ps ‹_›; omega
 ·have := lt_ps ‹_›; omega
theorem atT_eq (t k : Ty) : atT t k = if k.k = 1 then k else if t.k = 3 ∨ t.k = 1 then t else if k.k = 15 then unionT (k.ps.map (atT t)) else if t.k = 15 then unionT (t.ps.map fun p => atT p k) else if t.k = 14 ∧ k.k = 10 then fieldT t.fs k.t else rowT t k := by
 rw [atT]
 simp only [List.map_attach_eq_pmap, List.pmap_eq_map]
theorem two_ind {C : Ty → Ty → Prop} (step : ∀ t k, (∀ p ∈ k.ps, C t p) → (∀ p ∈ t.ps, C p k) → C t k) (t k : Ty) : C t k := by
 have key : ∀ s (t k : Ty), SizeOf.sizeOf t + SizeOf.sizeOf k = s → C t k := by
  intro s
  induction s using Nat.strongRecOn with
  | _ s ih =>
   intro t k hs
   exact step t k (fun p hp => ih _ (by have := lt_ps hp; omega) _ _ rfl) (fun p hp => ih _ (by have := lt_ps hp; omega) _ _ rfl)
 exact key _ t k rfl
end Go.Proofs.YtllhfnpchplibaaGreatDoor
