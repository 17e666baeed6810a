import Derived.Test.YteakkjhcdpbidaaGreatDoorMk3
import Derived.ArgAppend
import Derived.Shelf.SlSortCmp.WholeK
namespace Go.Proofs.YteakkjhcdpbidaaGreatDoor
set_option maxRecDepth 100000
set_option maxHeartbeats 64000000
open Go.RowKit
def trimF : Nat → ByteArray → ByteArray
 | 0, s => s
 | n + 1, s => if 0 < s.size ∧ byteN s (s.size - 1) = 39 then trimF n (s.extract 0 (s.size - 1)) else s
def trimQ (s : ByteArray) : ByteArray := trimF s.size s
def nameT (s : ByteArray) : Bool := idB (trimQ s)
theorem trim_go {s : ByteArray} {m : Nat} (h : s.size = m + 1) (hb : byteN s m = 39) : trimQ s = trimQ (s.extract 0 m) := by
 have h2 : (s.extract 0 m).size = m := by rw [ByteArray.size_extract]; omega
 unfold trimQ
 rw [h2, h, trimF, if_pos ⟨by omega, by rw [h]; exact hb⟩, h]
 rfl
theorem trim_stop {s : ByteArray} {m : Nat} (h : s.size = m + 1) (hb : byteN s m ≠ 39) : trimQ s = s := by
 unfold trimQ
 rw [h, trimF, if_neg (fun hx => hb (by have := hx.2; rw [h] at this; exact this))]
theorem trim_none {s : ByteArray} (h : s.size = 0) : trimQ s = s := by
 unfold trimQ
 rw [h]; rfl
theorem wrap_small {n : Int} (h : 0 ≤ n) (h2 : n ≤ 1000000000000000000) : wrap64 n = n := by
 have e : IntKind.i64.wrap n = wrap64 n := by unfold wrap64; exact IntKind.wrap_i64 n
 rw [← e]
 simp [IntKind.wrap, IntKind.bits, IntKind.signed]
 omega
theorem trimF_size : ∀ n s, (trimF n s).size ≤ s.size
 | 0, _ => Nat.le_refl _
 | n + 1, s => by
  rw [trimF]
  split
  ·refine Nat.le_trans (trimF_size n _) ?_
   rw [ByteArray.size_extract]; omega
  ·exact Nat.le_refl _
theorem trimQ_size (s : ByteArray) : (trimQ s).size ≤ s.size := trimF_size _ _
theorem sz_extract (t : ByteArray) {m : Nat} (h : t.size = m + 1) : (t.extract 0 m).size = m := by rw [ByteArray.size_extract]; omega
theorem trimR_prog (s : ByteArray) (w : World) (hs : s.size ≤ 1000000000000000) :
  Calls Tryz.prog 111 #[.string s, .int .u8 39] w fun e w' => e = .returned (.string (trimQ s)) ∧ w' = w := by
 go_enter Tryz.func111, Tryz.ntmps111
 go_wp2_with fail
 go_loopw [0] (fun v wr => ∃ t : ByteArray, v = .string t ∧ t.size ≤ s.size ∧ trimQ t = trimQ s ∧ wr = w) (fun v _ => match v with | .string t => t.size | _ => 0)
 case atStart => exact ⟨s, rfl, Nat.le_refl _, rfl, rfl⟩
 case round =>
  obtain ⟨t, rfl, ht, hq, rfl⟩ := hrel
  have HQ := Hd hq
  clear hq
  cases hm : t.size with
  | zero =>
   have HF := Hd (trim_none hm)
   go_wp2_with fail
   go_ret
   exact ⟨by rw [← HQ.out, HF.out]; rfl, rfl⟩
  | succ m =>
   have hb := byteN_at t m (by omega)
   have HM := Hd hm
   have i0 : (0 : Int) ≤ (m : Int) := by omega
   have i1 : (m : Int) < (m : Int) + 1 := by omega
   have wr1 : wrap64 (((m + 1 : Nat) : Int) - 1) = (m : Int) := by rw [wrap_small (by omega) (by omega)]; omega
   have wr3 : wrap64 (m : Int) = (m : Int) := wrap_small (by omega) (by omega)
   have HSZ := Hd (sz_extract t hm)
   by_cases h39 : byteN t m = 39
   ·have HG := Hd (trim_go hm h39)
    have te : ((byteN t m : Int) == 39) = true := by simp; omega
    have HT := Hd ht
    clear h39 ht
    generalize byteN t m = bb at hb te
    go_wp2_with fail
    refine ⟨⟨t.extract 0 m, by first | rfl | (rw [wr3]; rfl), by rw [HSZ.out]; have := HT.out; have := HM.out; omega, by rw [← HG.out, HQ.out], by first | rfl | trivial⟩, ?_⟩
    try rw [wr3]
    show (t.extract 0 m).size < t.size
    rw [HSZ.out, HM.out]; omega
   ·have HF := Hd (trim_stop hm h39)
    have te : ((byteN t m : Int) == 39) = false := by simp; omega
    have te2 : (byteN t m == 39) = false := by simpa using h39
    clear ht
    generalize byteN t m = bb at hb te te2 h39
    go_wp2_with fail
    go_ret
    exact ⟨by rw [← HQ.out, HF.out]; rfl, rfl⟩
theorem trim_prog (s : ByteArray) (w : World) (hs : s.size ≤ 1000000000000000) :
  Calls Tryz.prog 89 #[.string s, .string ⟨#[39]⟩] w fun e w' => e = .returned (.string (trimQ s)) ∧ w' = w := by
 cases hl : s.toList with
 | nil =>
  have HF := Hd (trim_none (size_nil hl))
  have HQ := Hd hl
  go_enter Tryz.func89, Tryz.ntmps89
  go_wp2_with fail
  go_ret
  exact ⟨by rw [HF.out]; rfl, rfl⟩
 | cons a l =>
  have KT := Hd (trimR_prog s w hs)
  go_enter Tryz.func89, Tryz.ntmps89
  go_wp2_with fail
  refine KT.out.mono ?_
  rintro e w1 ⟨rfl, rfl⟩
  go_wp2_with fail
  go_ret
  exact ⟨rfl, rfl⟩
theorem name_prog (s : ByteArray) (w : World) (hs : s.size ≤ 1000000000000000) :
  Calls Tryz.prog 69 #[.string s] w fun e w' => e = .returned (.bool (nameT s)) ∧ Below w.heap.size w w' := by
 have KT := Hd (trim_prog s w hs)
 have KI := Hd (isname_prog (trimQ s) w (Nat.le_trans (trimQ_size s) hs))
 unfold nameT
 generalize idB (trimQ s) = r at KI ⊢
 generalize trimQ s = q at KT KI
 go_enter Tryz.func69, Tryz.ntmps69
 go_wp2_with fail
 refine KT.out.mono ?_
 rintro e w1 ⟨rfl, rfl⟩
 go_wp2_with fail
 refine KI.out.mono ?_
 rintro e w2 ⟨rfl, hb⟩
 have HB := Hd hb
 clear hb
 go_wp2_with fail
 go_ret
 exact ⟨rfl, HB.out⟩
theorem name_ref (s : ByteArray) (w : World) (hs : s.size ≤ 1000000000000000) :
  Calls Tryz.prog 60 #[.string s] w fun e w' => e = .returned (.bool (nameT s)) ∧ Below w.heap.size w w' := by
 have KI : Hid (∀ t : ByteArray, t.size ≤ s.size → trimQ t = t → trimQ t = trimQ s → Calls Tryz.prog 86 #[.string t] w fun e w' => e = .returned (.bool (nameT s)) ∧ Below w.heap.size w w') := Hd fun t ht h1 h2 => by
  unfold nameT
  rw [← h2, h1]
  exact isname_ref t w (Nat.le_trans ht hs)
 generalize nameT s = r at KI ⊢
 go_enter Tryz.func60, Tryz.ntmps60
 go_wp2_with fail
 go_loopw [0] (fun v wr => ∃ t : ByteArray, v = .string t ∧ t.size ≤ s.size ∧ trimQ t = trimQ s ∧ wr = w) (fun v _ => match v with | .string t => t.size | _ => 0)
 case atStart => exact ⟨s, rfl, Nat.le_refl _, rfl, rfl⟩
 case round =>
  obtain ⟨t, rfl, ht, hq, rfl⟩ := hrel
  have HQ := Hd hq
  clear hq
  cases hm : t.size with
  | zero =>
   have KT := Hd (KI.out t ht (trim_none hm) HQ.out)
   clear ht
   go_wp2_with fail
   refine KT.out.mono ?_
   rintro e w2 ⟨rfl, hb⟩
   have HB := Hd hb
   clear hb
   go_wp2_with fail
   go_ret
   exact ⟨rfl, HB.out⟩
  | succ m =>
   have hb := byteN_at t m (by omega)
   have HM := Hd hm
   have i0 : (0 : Int) ≤ (m : Int) := by omega
   have i1 : (m : Int) < (m : Int) + 1 := by omega
   have wr1 : wrap64 (((m + 1 : Nat) : Int) - 1) = (m : Int) := by rw [wrap_small (by omega) (by omega)]; omega
   have wr3 : wrap64 (m : Int) = (m : Int) := wrap_small (by omega) (by omega)
   have HSZ := Hd (sz_extract t hm)
   by_cases h39 : byteN t m = 39
   ·have HG := Hd (trim_go hm h39)
    have te : ((byteN t m : Int) == 39) = true := by simp; omega
    have HT := Hd ht
    clear h39 ht
    generalize byteN t m = bb at hb te
    go_wp2_with fail
    refine ⟨⟨t.extract 0 m, by first | rfl | (rw [wr3]; rfl), by rw [HSZ.out]; have := HT.out; have := HM.out; omega, by rw [← HG.out, HQ.out], by first | rfl | trivial⟩, ?_⟩
    try rw [wr3]
    show (t.extract 0 m).size < t.size
    rw [HSZ.out, HM.out]; omega
   ·have KT := Hd (KI.out t ht (trim_stop hm h39) HQ.out)
    have te : ((byteN t m : Int) == 39) = false := by simp; omega
    have te2 : (byteN t m == 39) = false := by simpa using h39
    clear ht
    generalize byteN t m = bb at hb te te2 h39
    go_wp2_with fail
    refine KT.out.mono ?_
    rintro e w2 ⟨rfl, hb⟩
    have HB := Hd hb
    clear hb
    go_wp2_with fail
    go_ret
    exact ⟨rfl, HB.out⟩
theorem all_fields {α : Type} (E : α → List Tok) (hE : ∀ x y, Clean (E x) (E y) (lexC (E x) (E y))) (R R' : α → World → Nat → Nat → Prop) (hR : ∀ x w w' b o, Below w.heap.size w w' → R x w b o → R x w' b o) (hR' : ∀ x w w' b o, Below w.heap.size w w' → R' x w b o → R' x w' b o)
  (l l' : List α) (hl : ∀ x ∈ l, ∀ y, OrdP 83 (R x) (R' y) (lexC (E x) (E y))) (A A' : Option Addr) (c c' : Nat) (w : World) (b o b' o' : Nat) (hA : 0 < l.length → A = some ⟨b, o, none⟩) (hA' : 0 < l'.length → A' = some ⟨b', o', none⟩) (hlen : l.length ≤ 1000000000000000) (_hlen' : l'.length ≤ 1000000000000000)
  (hx : ∀ i (h : i < l.length), R l[i] w b (o + i * 8)) (hx' : ∀ i (h : i < l'.length), R' l'[i] w b' (o' + i * 8)) :
  Calls Tryz.prog 82 #[.slice A l.length c, .slice A' l'.length c', .func (.func 83) #[] #[]] w fun e w' => e = .returned (.int .i64 (lexC (rowE E l) (rowE E l'))) ∧ Gw w w' := by
 by_cases heq : l.length = l'.length
 case neg =>
  rw [row_len E heq]
  have tc : (cmpZ l.length l'.length != 0) = true := by
   rw [bne_iff_ne]
   exact fun h => heq (by have := cmpZ_zero h; omega)
  have KC := Hd (compare_i (l.length : Int) (l'.length : Int))
  generalize cmpZ (l.length : Int) (l'.length : Int) = cz at tc KC
  clear heq hx hx' hl hR hR' hA hA'
  go_enter Tryz.func82, Tryz.ntmps82
  go_wp2_with fail
  refine (KC.out _).mono ?_
  rintro e w1 ⟨rfl, rfl⟩
  go_wp2_with fail
  go_ret
  exact ⟨rfl, Gw.refl _⟩
 rw [row_same E heq]
 have HE := Hd hE
 have HR := Hd hR
 have HR' := Hd hR'
 have HO := Hd hl
 have HA := Hd hA
 have HA' := Hd hA'
 have HX := Hd hx
 have HX' := Hd hx'
 have HBg := Hd hlen
 have HQ := Hd heq
 have KC := Hd (compare_i (l.length : Int) (l'.length : Int))
 rw [show cmpZ (l.length : Int) (l'.length : Int) = 0 from by rw [heq]; exact cmpZ_self _] at KC
 generalize hres : restC E l l' 0 = res
 have HRes := Hd hres
 clear hE hR hR' hl hA hA' hx hx' hres
 obtain ⟨m, hm⟩ : ∃ m, m = l.length := ⟨_, rfl⟩
 obtain ⟨m', hm'⟩ : ∃ m', m' = l'.length := ⟨_, rfl⟩
 rw [← hm, ← hm'] at heq KC
 rw [← hm, ← hm']
 rw [← hm] at hlen HBg
 have HM := Hd (And.intro hm hm')
 subst heq
 clear _hlen' hm hm'
 go_enter Tryz.func82, Tryz.ntmps82
 go_wp2_with fail
 refine (KC.out _).mono ?_
 rintro e w1 ⟨rfl, rfl⟩
 go_wp2_with fail
 go_loopw [20] (fun v wr => ∃ n : Nat, n ≤ m ∧ v = .int .i64 n ∧ Gw w wr ∧ restC E l l' n = res) (fun v _ => m - (intOf v).toNat)
 case atStart => exact ⟨0, by omega, rfl, Gw.refl _, HRes.out⟩
 case round =>
  obtain ⟨n, hn, rfl, hb, hrest⟩ := hrel
  have HB := Hd hb
  have HRst := Hd hrest
  clear hb hrest
  by_cases hlt : n < m
  case neg =>
   obtain rfl : n = m := by omega
   have tl : decide ((n : Int) < (n : Int)) = false := by simp
   have h0 : res = 0 := by rw [← HRst.out, HM.out.1]; exact rest_end E HQ.out
   have H0 := Hd h0
   clear hlt h0
   go_wp2_with fail
   go_ret
   exact ⟨by rw [H0.out]; rfl, HB.out⟩
  have tl : decide ((n : Int) < (m : Int)) = true := by simp; omega
  have hn1 : n < l.length := by rw [← HM.out.1]; exact hlt
  have hn2 : n < l'.length := by rw [← HM.out.2]; exact hlt
  have hA := HA.out (by omega)
  have hA' := HA'.out (by omega)
  subst hA hA'
  have HL := Hd hlt
  have hstep := rest_step E HE.out HQ.out hn1 hn2
  rw [HRst.out] at hstep
  have K7 := Hd ((HO.out l[n] (List.getElem_mem hn1) l'[n]).ok wr.drew b (o + n * 8) b' (o' + n * 8) (HR.out _ _ _ _ _ HB.out.drew.below (HX.out n hn1)) (HR'.out _ _ _ _ _ HB.out.drew.below (HX'.out n hn2)))
  generalize lexC (E l[n]) (E l'[n]) = c7 at hstep K7
  have HNext : Hid (c7 = 0 → restC E l l' (n + 1) = res) := Hd fun h => by rw [hstep, h, or2_zero]
  have HStop : Hid (c7 ≠ 0 → res = c7) := Hd fun h => by rw [hstep, or2_ne h]
  have hltn : n < m := hlt
  clear hstep hlt hn1 hn2
  go_wp2_with fail
  go_wp2_with fail
  refine wp_region_held_drew (S := (fun _ => True)) (by kernel_rfl) trivial (fun hHeld => ?_)
  refine Plan.start [0, 1, 2, 3, 4, 5, 6] ?_
  iterate 7 (refine Plan.tk (so rfl) hHeld ?_; try simp only [Act.put, pz1, pz2, pz3])
  refine Plan.done ?_
  refine wpAnyH_ready (rs := [7]) (by kernel_rfl) (by simp) ?_
  refine AllReadyH.cons (sd (some 30) rfl) (fun K hK => ?_) AllReadyH.nil
  go_simp
  refine K7.out.mono ?_
  rintro e w7 ⟨rfl, hb7⟩
  have HB7 := Hd hb7
  clear hb7
  go_wp2_with fail
  refine hK.out _ _ (trivial) (fun hHeld => ?_)
  clear hK K
  try simp only [Act.put, pz1, pz2, pz3]
  refine Plan.start [8] ?_
  refine Plan.tk (so rfl) hHeld ?_
  try simp only [Act.put, pz1, pz2, pz3]
  refine Plan.done ?_
  refine wpAnyH_done (by kernel_rfl) ?_ _
  clear hHeld
  by_cases hc : c7 = 0
  ·have tc : (c7 != 0) = false := by simpa using hc
   have HR2 := Hd (HNext.out hc)
   clear hc
   go_wp2_with fail
   refine ⟨⟨n + 1, HL.out, by go_num, HB.out.drew.trans HB7.out, HR2.out⟩, ?meas⟩
   case meas => exact measT HL.out
  ·have tc : (c7 != 0) = true := by simpa using hc
   have HR2 := Hd (HStop.out hc)
   clear hc
   go_wp2_with fail
   go_ret
   exact ⟨by rw [← HR2.out]; rfl, HB.out.drew.trans HB7.out⟩
theorem all_vars {α : Type} (E : α → List Tok) (hE : ∀ x y, Clean (E x) (E y) (lexC (E x) (E y))) (R R' : α → World → Nat → Nat → Prop) (hR : ∀ x w w' b o, Below w.heap.size w w' → R x w b o → R x w' b o) (hR' : ∀ x w w' b o, Below w.heap.size w w' → R' x w b o → R' x w' b o)
  (l l' : List α) (hl : ∀ x ∈ l, ∀ y, OrdP 85 (R x) (R' y) (lexC (E x) (E y))) (A A' : Option Addr) (c c' : Nat) (w : World) (b o b' o' : Nat) (hA : 0 < l.length → A = some ⟨b, o, none⟩) (hA' : 0 < l'.length → A' = some ⟨b', o', none⟩) (hlen : l.length ≤ 1000000000000000) (_hlen' : l'.length ≤ 1000000000000000)
  (hx : ∀ i (h : i < l.length), R l[i] w b (o + i * 2)) (hx' : ∀ i (h : i < l'.length), R' l'[i] w b' (o' + i * 2)) :
  Calls Tryz.prog 84 #[.slice A l.length c, .slice A' l'.length c', .func (.func 85) #[] #[]] w fun e w' => e = .returned (.int .i64 (lexC (rowE E l) (rowE E l'))) ∧ Gw w w' := by
 by_cases heq : l.length = l'.length
 case neg =>
  rw [row_len E heq]
  have tc : (cmpZ l.length l'.length != 0) = true := by
   rw [bne_iff_ne]
   exact fun h => heq (by have := cmpZ_zero h; omega)
  have KC := Hd (compare_i (l.length : Int) (l'.length : Int))
  generalize cmpZ (l.length : Int) (l'.length : Int) = cz at tc KC
  clear heq hx hx' hl hR hR' hA hA'
  go_enter Tryz.func84, Tryz.ntmps84
  go_wp2_with fail
  refine (KC.out _).mono ?_
  rintro e w1 ⟨rfl, rfl⟩
  go_wp2_with fail
  go_ret
  exact ⟨rfl, Gw.refl _⟩
 rw [row_same E heq]
 have HE := Hd hE
 have HR := Hd hR
 have HR' := Hd hR'
 have HO := Hd hl
 have HA := Hd hA
 have HA' := Hd hA'
 have HX := Hd hx
 have HX' := Hd hx'
 have HBg := Hd hlen
 have HQ := Hd heq
 have KC := Hd (compare_i (l.length : Int) (l'.length : Int))
 rw [show cmpZ (l.length : Int) (l'.length : Int) = 0 from by rw [heq]; exact cmpZ_self _] at KC
 generalize hres : restC E l l' 0 = res
 have HRes := Hd hres
 clear hE hR hR' hl hA hA' hx hx' hres
 obtain ⟨m, hm⟩ : ∃ m, m = l.length := ⟨_, rfl⟩
 obtain ⟨m', hm'⟩ : ∃ m', m' = l'.length := ⟨_, rfl⟩
 rw [← hm, ← hm'] at heq KC
 rw [← hm, ← hm']
 rw [← hm] at hlen HBg
 have HM := Hd (And.intro hm hm')
 subst heq
 clear _hlen' hm hm'
 go_enter Tryz.func84, Tryz.ntmps84
 go_wp2_with fail
 refine (KC.out _).mono ?_
 rintro e w1 ⟨rfl, rfl⟩
 go_wp2_with fail
 go_loopw [20] (fun v wr => ∃ n : Nat, n ≤ m ∧ v = .int .i64 n ∧ Gw w wr ∧ restC E l l' n = res) (fun v _ => m - (intOf v).toNat)
 case atStart => exact ⟨0, by omega, rfl, Gw.refl _, HRes.out⟩
 case round =>
  obtain ⟨n, hn, rfl, hb, hrest⟩ := hrel
  have HB := Hd hb
  have HRst := Hd hrest
  clear hb hrest
  by_cases hlt : n < m
  case neg =>
   obtain rfl : n = m := by omega
   have tl : decide ((n : Int) < (n : Int)) = false := by simp
   have h0 : res = 0 := by rw [← HRst.out, HM.out.1]; exact rest_end E HQ.out
   have H0 := Hd h0
   clear hlt h0
   go_wp2_with fail
   go_ret
   exact ⟨by rw [H0.out]; rfl, HB.out⟩
  have tl : decide ((n : Int) < (m : Int)) = true := by simp; omega
  have hn1 : n < l.length := by rw [← HM.out.1]; exact hlt
  have hn2 : n < l'.length := by rw [← HM.out.2]; exact hlt
  have hA := HA.out (by omega)
  have hA' := HA'.out (by omega)
  subst hA hA'
  have HL := Hd hlt
  have hstep := rest_step E HE.out HQ.out hn1 hn2
  rw [HRst.out] at hstep
  have K7 := Hd ((HO.out l[n] (List.getElem_mem hn1) l'[n]).ok wr.drew b (o + n * 2) b' (o' + n * 2) (HR.out _ _ _ _ _ HB.out.drew.below (HX.out n hn1)) (HR'.out _ _ _ _ _ HB.out.drew.below (HX'.out n hn2)))
  generalize lexC (E l[n]) (E l'[n]) = c7 at hstep K7
  have HNext : Hid (c7 = 0 → restC E l l' (n + 1) = res) := Hd fun h => by rw [hstep, h, or2_zero]
  have HStop : Hid (c7 ≠ 0 → res = c7) := Hd fun h => by rw [hstep, or2_ne h]
  have hltn : n < m := hlt
  clear hstep hlt hn1 hn2
  go_wp2_with fail
  go_wp2_with fail
  refine wp_region_held_drew (S := (fun _ => True)) (by kernel_rfl) trivial (fun hHeld => ?_)
  refine Plan.start [0, 1, 2, 3, 4, 5, 6] ?_
  iterate 7 (refine Plan.tk (so rfl) hHeld ?_; try simp only [Act.put, pz1, pz2, pz3])
  refine Plan.done ?_
  refine wpAnyH_ready (rs := [7]) (by kernel_rfl) (by simp) ?_
  refine AllReadyH.cons (sd (some 30) rfl) (fun K hK => ?_) AllReadyH.nil
  go_simp
  refine K7.out.mono ?_
  rintro e w7 ⟨rfl, hb7⟩
  have HB7 := Hd hb7
  clear hb7
  go_wp2_with fail
  refine hK.out _ _ (trivial) (fun hHeld => ?_)
  clear hK K
  try simp only [Act.put, pz1, pz2, pz3]
  refine Plan.start [8] ?_
  refine Plan.tk (so rfl) hHeld ?_
  try simp only [Act.put, pz1, pz2, pz3]
  refine Plan.done ?_
  refine wpAnyH_done (by kernel_rfl) ?_ _
  clear hHeld
  by_cases hc : c7 = 0
  ·have tc : (c7 != 0) = false := by simpa using hc
   have HR2 := Hd (HNext.out hc)
   clear hc
   go_wp2_with fail
   refine ⟨⟨n + 1, HL.out, by go_num, HB.out.drew.trans HB7.out, HR2.out⟩, ?meas⟩
   case meas => exact measT HL.out
  ·have tc : (c7 != 0) = true := by simpa using hc
   have HR2 := Hd (HStop.out hc)
   clear hc
   go_wp2_with fail
   go_ret
   exact ⟨by rw [← HR2.out]; rfl, HB.out.drew.trans HB7.out⟩
def sortTy_ren : Go.Shelf.Ren := ⟨fun | 6 => 50 | 15 => 76 | 14 => 75 | 28 => 99 | 29 => 100 | 20 => 91 | 21 => 92 | 22 => 93 | 23 => 94 | 24 => 95 | 25 => 96 | 26 => 97 | 27 => 98 | 46 => 115 | 47 => 116 | 48 => 117 | 49 => 118 | 50 => 119 | 57 => 127 | n => n, fun | 22 => 22 | 24 => 26 | 25 => 42 | 3 => 3 | 39 => 91 | 0 => 0 | 53 => 114 | 55 => 116 | 4 => 4 | 46 => 107 | 45 => 106 | 50 => 111 | 5 => 5 | 9 => 9 | 66 => 131 | 70 => 60 | 76 => 141 | 77 => 142 | n => n, fun n => n⟩
theorem sortTy : Go.Proofs.SlLaysF0.n6 Tryz.prog sortTy_ren := {
 mixed := by kernel_rfl
 f6 := ⟨ "slices.SortFunc[[]plinth/api.Type,plinth/api.Type]", by decide, Tryz.func50.trans (congrArg some (by kernel_rfl))⟩
 f14 := ⟨ "slices.pdqsortCmpFunc[plinth/api.Type]", by decide, Tryz.func75.trans (congrArg some (by kernel_rfl))⟩
 f15 := Tryz.func76.trans (congrArg some (by kernel_rfl))
 f20 := ⟨ "slices.insertionSortCmpFunc[plinth/api.Type]", by decide, Tryz.func91.trans (congrArg some (by kernel_rfl))⟩
 f21 := ⟨ "slices.heapSortCmpFunc[plinth/api.Type]", by decide, Tryz.func92.trans (congrArg some (by kernel_rfl))⟩
 f22 := ⟨ "slices.breakPatternsCmpFunc[plinth/api.Type]", by decide, Tryz.func93.trans (congrArg some (by kernel_rfl))⟩
 f23 := ⟨ "slices.choosePivotCmpFunc[plinth/api.Type]", by decide, Tryz.func94.trans (congrArg some (by kernel_rfl))⟩
 f24 := ⟨ "slices.reverseRangeCmpFunc[plinth/api.Type]", by decide, Tryz.func95.trans (congrArg some (by kernel_rfl))⟩
 f25 := ⟨ "slices.partialInsertionSortCmpFunc[plinth/api.Type]", by decide, Tryz.func96.trans (congrArg some (by kernel_rfl))⟩
 f26 := ⟨ "slices.partitionEqualCmpFunc[plinth/api.Type]", by decide, Tryz.func97.trans (congrArg some (by kernel_rfl))⟩
 f27 := ⟨ "slices.partitionCmpFunc[plinth/api.Type]", by decide, Tryz.func98.trans (congrArg some (by kernel_rfl))⟩
 f28 := Tryz.func99.trans (congrArg some (by kernel_rfl))
 f29 := Tryz.func100.trans (congrArg some (by kernel_rfl))
 f46 := ⟨ "slices.siftDownCmpFunc[plinth/api.Type]", by decide, Tryz.func115.trans (congrArg some (by kernel_rfl))⟩
 f47 := Tryz.func116.trans (congrArg some (by kernel_rfl))
 f48 := Tryz.func117.trans (congrArg some (by kernel_rfl))
 f49 := ⟨ "slices.medianAdjacentCmpFunc[plinth/api.Type]", by decide, Tryz.func118.trans (congrArg some (by kernel_rfl))⟩
 f50 := ⟨ "slices.medianCmpFunc[plinth/api.Type]", by decide, Tryz.func119.trans (congrArg some (by kernel_rfl))⟩
 f57 := ⟨ "slices.order2CmpFunc[plinth/api.Type]", by decide, Tryz.func127.trans (congrArg some (by kernel_rfl))⟩
 t0 := Tryz.underlying0
 a0 := Tryz.isAgg0
 z0 := Tryz.sizeOf0
 v0 := Tryz.zeroValue0
 t3 := Tryz.underlying3
 a3 := Tryz.isAgg3
 z3 := Tryz.sizeOf3
 v3 := Tryz.zeroValue3
 t4 := Tryz.underlying4
 a4 := Tryz.isAgg4
 z4 := Tryz.sizeOf4
 v4 := Tryz.zeroValue4
 t5 := Tryz.underlying5
 a5 := Tryz.isAgg5
 z5 := Tryz.sizeOf5
 v5 := Tryz.zeroValue5
 t9 := Tryz.underlying9
 a9 := Tryz.isAgg9
 z9 := Tryz.sizeOf9
 v9 := Tryz.zeroValue9
 t22 := Tryz.underlying22
 a22 := Tryz.isAgg22
 z22 := Tryz.sizeOf22
 v22 := Tryz.zeroValue22
 t25 := Tryz.underlying42
 a25 := Tryz.isAgg42
 z25 := Tryz.sizeOf42
 v25 := Tryz.zeroValue42
 t39 := Tryz.underlying91
 a39 := Tryz.isAgg91
 z39 := Tryz.sizeOf91
 v39 := Tryz.zeroValue91
 t45 := Tryz.underlying106
 a45 := Tryz.isAgg106
 z45 := Tryz.sizeOf106
 v45 := Tryz.zeroValue106
 t46 := Tryz.underlying107
 a46 := Tryz.isAgg107
 z46 := Tryz.sizeOf107
 v46 := Tryz.zeroValue107
 t50 := Tryz.underlying111
 a50 := Tryz.isAgg111
 z50 := Tryz.sizeOf111
 v50 := Tryz.zeroValue111
 t53 := Tryz.underlying114
 a53 := Tryz.isAgg114
 z53 := Tryz.sizeOf114
 v53 := Tryz.zeroValue114
 t55 := Tryz.underlying116
 a55 := Tryz.isAgg116
 z55 := Tryz.sizeOf116
 v55 := Tryz.zeroValue116
 t66 := Tryz.underlying131
 a66 := Tryz.isAgg131
 z66 := Tryz.sizeOf131
 v66 := Tryz.zeroValue131
 t70 := Tryz.underlying60
 a70 := Tryz.isAgg60
 z70 := Tryz.sizeOf60
 v70 := Tryz.zeroValue60
 t76 := Tryz.underlying141
 a76 := Tryz.isAgg141
 z76 := Tryz.sizeOf141
 v76 := Tryz.zeroValue141
 t77 := Tryz.underlying142
 a77 := Tryz.isAgg142
 z77 := Tryz.sizeOf142
 v77 := Tryz.zeroValue142
}
def strT (s : ByteArray) : Ty := .mk 10 s 0 [] [] []
theorem strT_k (s : ByteArray) : (strT s).k = 10 := rfl
theorem any_mem {b : List ByteArray} {x : ByteArray} : (b.any fun y => decide (y = x)) = true ↔ x ∈ b := by
 rw [List.any_eq_true]
 simp
theorem strT_inj {a b : ByteArray} (h : strT a = strT b) : a = b := by injection h
def commonK : Option (List ByteArray) → Option (List ByteArray) → Option (List ByteArray)
 | none, b => b
 | some a, none => some a
 | some a, some b => some (a.filter fun x => b.any fun y => decide (y = x))
def keysN : Ty → Option (List ByteArray)
 | .mk k _ _ ps fs _ => if k = 3 ∨ k = 1 then none else if k = 14 then some (fs.map fun f => f.1) else if k = 15 then (ps.attach.map fun ⟨p, _⟩ => keysN p).foldl commonK none else some []
termination_by t => SizeOf.sizeOf t
decreasing_by exact ty_lt_p ‹_›
theorem keysN_mk (k t n ps fs vs) : keysN (.mk k t n ps fs vs) = if k = 3 ∨ k = 1 then none else if k = 14 then some (fs.map fun f => f.1) else if k = 15 then (ps.map keysN).foldl commonK none else some [] := by
 rw [keysN]
 simp only [List.map_attach_eq_pmap, List.pmap_eq_map]
def keysU : Option (List ByteArray) → Ty
 | none => tyK 8
 | some l => unionT (l.map strT)
def keysT (t : Ty) : Ty := keysU (keysN t)
theorem flat_strs (l : List ByteArray) : flatU (l.map strT) = l.map strT := flat_self fun x hx => by
 obtain ⟨s, _, rfl⟩ := List.mem_map.1 hx
 rw [strT_k]; decide
theorem hasK_strs (l : List ByteArray) {k : Int} (h : k ≠ 10) : hasK k (l.map strT) = false := by
 cases e : hasK k (l.map strT)
 ·rfl
 ·obtain ⟨t, ht, hk⟩ := hasKc.1 e
  obtain ⟨s, _, rfl⟩ := List.mem_map.1 ht
  exact absurd (show k = 10 from hk.symm) h
theorem kept_strs (l : List ByteArray) : keptU (l.map strT) = l.map strT := by
 unfold keptU
 rw [flat_strs, List.filter_eq_self]
 intro x hx
 obtain ⟨s, _, rfl⟩ := List.mem_map.1 hx
 rw [keepT_free _ (by rw [strT_k]; decide) (by rw [strT_k]; decide) (by rw [strT_k]; decide) (by rw [a_of]; exact hasK_strs l (by decide)) (by rw [u_of]; exact hasK_strs l (by decide)), if_neg (by rw [strT_k]; decide), if_pos (strT_k s), s_of, hasK_strs l (by decide)]
 rfl
theorem mem_strs {l : List ByteArray} {s : ByteArray} : strT s ∈ l.map strT ↔ s ∈ l := by
 rw [List.mem_map]
 constructor
 ·rintro ⟨a, h, e⟩; rw [← strT_inj e]; exact h
 ·intro h; exact ⟨s, h, rfl⟩
theorem parts_strs {l : List ByteArray} {x : Ty} : x ∈ prtsT (unionT (l.map strT)) ↔ x ∈ l.map strT := by rw [mem_parts_union, kept_strs]
theorem shut_k {s : List Ty} {k : Int} (hk : k ≠ 1 ∧ k ≠ 15) (h : ∀ x ∈ s, x.k ≠ k) : (shutU s).k ≠ k := by
 rcases s with _ | ⟨a, _ | ⟨b, s⟩⟩
 ·exact fun e => hk.1 e.symm
 ·exact h a (by simp)
 ·exact fun e => hk.2 e.symm
theorem union_strs_k (l : List ByteArray) {k : Int} (h : k ≠ 1 ∧ k ≠ 15 ∧ k ≠ 10) : (unionT (l.map strT)).k ≠ k := shut_k ⟨h.1, h.2.1⟩ fun x hx => by
 rw [mem_sortT, kept_strs] at hx
 obtain ⟨s, _, rfl⟩ := List.mem_map.1 hx
 exact fun e => h.2.2 e.symm
def amongT (b x : Ty) : Bool := b.k == 8 || (prtsT b).any fun p => decide (ordT p x = 0)
def commonT (a b : Ty) : Ty := if a.k = 8 then b else unionT ((prtsT a).filter (amongT b))
theorem among_none (x : Ty) : amongT (keysU none) x = true := by unfold amongT; rfl
theorem among_some (m : List ByteArray) (s : ByteArray) : amongT (keysU (some m)) (strT s) = m.any fun y => decide (y = s) := by
 unfold amongT keysU
 have h8 : ((unionT (m.map strT)).k == 8) = false := by simpa using union_strs_k m (k := 8) (by decide)
 rw [Bool.eq_iff_iff, any_mem]
 simp only [h8, Bool.false_or, List.any_eq_true, decide_eq_true_eq, ordT_zero]
 constructor
 ·rintro ⟨p, hp, rfl⟩; exact mem_strs.1 (parts_strs.1 hp)
 ·intro h; exact ⟨_, parts_strs.2 (mem_strs.2 h), rfl⟩
theorem keysU_common (x y : Option (List ByteArray)) : commonT (keysU x) (keysU y) = keysU (commonK x y) := by
 rcases x with _ | l
 ·have h8 : (keysU none).k = 8 := rfl
  unfold commonT
  rw [if_pos h8]; rfl
 ·have h8 : ¬ (keysU (some l)).k = 8 := union_strs_k l (by decide)
  unfold commonT
  rw [if_neg h8]
  rcases y with _ | m
  ·show unionT _ = unionT _
   refine union_same fun z => ?_
   rw [List.mem_filter]
   show _ ∧ amongT (keysU none) z = true ↔ _
   rw [among_none]
   simp only [and_true]
   exact parts_strs
  ·show unionT _ = unionT _
   refine union_same fun z => ?_
   rw [List.mem_filter]
   show z ∈ prtsT (unionT (l.map strT)) ∧ _ ↔ _
   rw [parts_strs]
   constructor
   ·rintro ⟨h1, h2⟩
    obtain ⟨s, hs, rfl⟩ := List.mem_map.1 h1
    have h3 : amongT (keysU (some m)) (strT s) = true := h2
    rw [among_some] at h3
    exact mem_strs.2 (List.mem_filter.2 ⟨hs, h3⟩)
   ·intro h
    obtain ⟨s, hs, rfl⟩ := List.mem_map.1 h
    obtain ⟨h1, h2⟩ := List.mem_filter.1 hs
    exact ⟨mem_strs.2 h1, (among_some m s).trans h2⟩
def heldT (f : ByteArray × Int × Ty) : Ty := if f.2.1 % 2 = 1 then unionT [tyK 4, f.2.2] else f.2.2
def fieldT (fs : FsT) (s : ByteArray) : Ty := match fs.find? fun f => decide (f.1 = s) with
 | none => tyK 2
 | some f => heldT f
def rowT (t k : Ty) : Ty :=
 if t.k = 11 ∧ (k.k = 7 ∨ k.k = 9) then unionT (tyK 4 :: t.ps)
 else if t.k = 12 ∧ k.k = 9 then (if k.n < 0 then tyK 4 else (t.ps[k.n.toNat]?).getD (tyK 4))
 else if t.k = 12 ∧ k.k = 7 then unionT (tyK 4 :: t.ps) else tyK 2
theorem lt_ps {t p : Ty} (h : p ∈ t.ps) : SizeOf.sizeOf p < SizeOf.sizeOf t := by
 obtain ⟨k, s, n, ps, fs, vs⟩ := t
 exact ty_lt_p h
def atT (t k : Ty) : Ty := if k.k = 1 then k else if t.k = 3 ∨ t.k = 1 then t else if k.k = 15 then unionT (k.ps.attach.map fun ⟨p, _⟩ => atT t p) else if t.k = 15 then unionT (t.ps.attach.map fun ⟨p, _⟩ => atT p k) else if t.k = 14 ∧ k.k = 10 then fieldT t.fs k.t else rowT t k
termination_by SizeOf.sizeOf t + SizeOf.sizeOf k
decreasing_by
 ·have := lt_ps ‹_›; omega
 ·have := lt_ps ‹_›; omega
theorem atT_eq (t k : Ty) : atT t k = if k.k = 1 then k else if t.k = 3 ∨ t.k = 1 then t else if k.k = 15 then unionT (k.ps.map (atT t)) else if t.k = 15 then unionT (t.ps.map fun p => atT p k) else if t.k = 14 ∧ k.k = 10 then fieldT t.fs k.t else rowT t k := by
 rw [atT]
 simp only [List.map_attach_eq_pmap, List.pmap_eq_map]
theorem two_ind {C : Ty → Ty → Prop} (step : ∀ t k, (∀ p ∈ k.ps, C t p) → (∀ p ∈ t.ps, C p k) → C t k) (t k : Ty) : C t k := by
 have key : ∀ s (t k : Ty), SizeOf.sizeOf t + SizeOf.sizeOf k = s → C t k := by
  intro s
  induction s using Nat.strongRecOn with
  | _ s ih =>
   intro t k hs
   exact step t k (fun p hp => ih _ (by have := lt_ps hp; omega) _ _ rfl) (fun p hp => ih _ (by have := lt_ps hp; omega) _ _ rfl)
 exact key _ t k rfl
end Go.Proofs.YteakkjhcdpbidaaGreatDoor
