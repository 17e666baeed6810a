import Derived.Test.YtfchnfnifpopnaaGreatDoorMa0
import Derived.Test.YtfchnfnifpopnaaGreatDoorMa10
import Derived.Test.YtfchnfnifpopnaaGreatDoorMa23
import Derived.Test.YtfchnfnifpopnaaGreatDoorMa26
import Derived.Test.YtfchnfnifpopnaaGreatDoorMa27
namespace Go.Proofs.YtfchnfnifpopnaaGreatDoor
open Go.RowKit
theorem union_p : UnionP := fun _ _ _ _ _ hL hn hlo => union_all hL hn hlo
def AtP (t k : Ty) : Prop := ∀ (K : Nat → Prop) (w : World) (cs ds : List Value), RepT K w t cs → RepT K w k ds → (∀ b, K b → b < w.heap.size) → formT t = true → formT k = true → cntT t ≤ 5000 → cntT k ≤ 5000 →
 Calls Tryz.prog 19 #[.agg cs.toArray, .agg ds.toArray] w (TyPost K w (atT t k))
theorem flat_len (l : List Ty) : (flatU l).length ≤ cntL l := (flatU_cnt l).1
theorem cnt_num {a b c : Nat} (h : c ≤ 2 * a * b) (ha : a ≤ 5000) (hb : b ≤ 5000) : c ≤ 50000000 := by
 have h1 : 2 * a ≤ 10000 := by omega
 have h2 : 2 * a * b ≤ 10000 * 5000 := Nat.mul_le_mul h1 hb
 omega
theorem at_step (t k : Ty) (h1 : ∀ p ∈ k.ps, AtP t p) (h2 : ∀ p ∈ t.ps, AtP p k) : AtP t k := by
 intro K w cs ds hr hp hlo ht hk hct hck
 have hpsk := form_ps hk
 have hpst := form_ps ht
 have hcp := cnt_ps k
 have hct2 := cnt_ps t
 have hL1 : cntL (k.ps.map (atT t)) ≤ 50000000 := by
  have h := cntL_map_le (g := atT t) (c := 2 * cntT t) (l := k.ps) fun p _ => cnt_at t p
  exact cnt_num h hct (by omega)
 have hL2 : cntL (t.ps.map fun p => atT p k) ≤ 50000000 := by
  have h := cntL_map_le (g := fun p => atT p k) (c := 2 * cntT k) (l := t.ps) fun p _ => by
   have := cnt_at p k
   rw [Nat.mul_right_comm] at this; exact this
  exact cnt_num h hck (by omega)
 have hl1 := Nat.le_trans (flat_len (k.ps.map (atT t))) hL1
 have hl2 := Nat.le_trans (flat_len (t.ps.map fun p => atT p k)) hL2
 have hl3 := flat_len (tyK 4 :: t.ps)
 rw [cntL_cons, cnt_kind] at hl3
 have len : ∀ l : List Ty, l.length ≤ cntL l := fun l => by
  induction l with
  | nil => simp
  | cons a l ih => rw [cntL_cons, List.length_cons]; have := cntT_pos a; omega
 have hn1 := len k.ps
 have hn2 := len t.ps
 have hAt := atT_eq t k
 have KA1 : ∀ p ∈ k.ps, ∀ wx dx, Below w.heap.size w wx → RepT K wx p dx → Calls Tryz.prog 19 #[.agg cs.toArray, .agg dx.toArray] wx (TyPost K wx (atT t p)) := fun p hpm wx dx hx hd =>
  h1 p hpm K wx cs dx (hr.later hx) hd (fun b h => Nat.lt_of_lt_of_le (hlo b h) hx.size) ht (hpsk p hpm) hct (by have := cntL_mem hpm; omega)
 have KA2 : ∀ p ∈ t.ps, ∀ wx dx, Below w.heap.size w wx → RepT K wx p dx → Calls Tryz.prog 19 #[.agg dx.toArray, .agg ds.toArray] wx (TyPost K wx (atT p k)) := fun p hpm wx dx hx hd =>
  h2 p hpm K wx dx ds hd (hp.later hx) (fun b h => Nat.lt_of_lt_of_le (hlo b h) hx.size) (hpst p hpm) hk (by have := cntL_mem hpm; omega) hck
 obtain ⟨kt, s, n, ps, fs, vs⟩ := t
 obtain ⟨kk, s3, n3, ps3, fs3, vs3⟩ := k
 have e1 : Ty.ps (.mk kt s n ps fs vs) = ps := rfl
 have e2 : Ty.ps (.mk kk s3 n3 ps3 fs3 vs3) = ps3 := rfl
 have e3 : Ty.k (.mk kt s n ps fs vs) = kt := rfl
 have e4 : Ty.k (.mk kk s3 n3 ps3 fs3 vs3) = kk := rfl
 have e5 : Ty.fs (.mk kt s n ps fs vs) = fs := rfl
 have e6 : Ty.t (.mk kk s3 n3 ps3 fs3 vs3) = s3 := rfl
 have e7 : Ty.n (.mk kk s3 n3 ps3 fs3 vs3) = n3 := rfl
 rw [e1] at hl2 hl3 hn2 KA2 hct2
 rw [e2] at hl1 hn1 KA1 hcp
 rw [e1, e2, e3, e4, e5, e6] at hAt
 rw [hAt]
 by_cases c1 : kk = 1
 ·subst c1; rw [if_pos rfl]
  exact at_c1 union_p kt s n ps fs vs s3 n3 ps3 fs3 vs3 hr hp hlo
 rw [if_neg c1]
 by_cases c2 : kt = 3
 ·subst c2; rw [if_pos (.inl rfl)]
  exact at_c2 union_p s n ps fs vs kk s3 n3 ps3 fs3 vs3 hr hp hlo c1
 by_cases c3 : kt = 1
 ·subst c3; rw [if_pos (.inr rfl)]
  exact at_c3 union_p s n ps fs vs kk s3 n3 ps3 fs3 vs3 hr hp hlo c1
 rw [if_neg (by omega)]
 by_cases c4 : kk = 15
 ·subst c4; rw [if_pos rfl]
  exact at_c4 union_p kt s n ps fs vs s3 n3 ps3 fs3 vs3 hr hp hlo c2 c3 KA1 (by omega) (by omega)
 rw [if_neg c4]
 by_cases c5 : kt = 15
 ·subst c5; rw [if_pos rfl]
  exact at_c5 union_p s n ps fs vs kk s3 n3 ps3 fs3 vs3 hr hp hlo c1 c4 KA2 (by omega) (by omega)
 rw [if_neg c5]
 have hrow : ∀ u, rowT (.mk kt s n ps fs vs) (.mk kk s3 n3 ps3 fs3 vs3) = u → (¬ (kt = 14 ∧ kk = 10)) → (if kt = 14 ∧ kk = 10 then fieldT fs s3 else rowT (.mk kt s n ps fs vs) (.mk kk s3 n3 ps3 fs3 vs3)) = u := fun u h1 h2 => by rw [if_neg h2]; exact h1
 by_cases c6 : kt = 14
 ·subst c6
  by_cases c7 : kk = 10
  ·subst c7; rw [if_pos ⟨rfl, rfl⟩]
   exact at_c6 union_p s n ps fs vs s3 n3 ps3 fs3 vs3 hr hp hlo ht (by omega)
  ·rw [hrow (tyK 2) (by unfold rowT; rw [e3, e4, if_neg (by omega), if_neg (by omega), if_neg (by omega)]) (by omega)]
   exact at_u1 union_p s n ps fs vs kk s3 n3 ps3 fs3 vs3 hr hp hlo c1 c4 c7
 by_cases c8 : kt = 11
 ·subst c8
  by_cases c9 : kk = 7
  ·subst c9
   rw [hrow (unionT (tyK 4 :: ps)) (by unfold rowT; rw [e3, e4, e1, if_pos ⟨rfl, .inl rfl⟩]) (by omega)]
   exact at_n0 union_p s n ps fs vs s3 n3 ps3 fs3 vs3 hr hp hlo (by omega) (by omega)
  ·by_cases c10 : kk = 9
   ·subst c10
    rw [hrow (unionT (tyK 4 :: ps)) (by unfold rowT; rw [e3, e4, e1, if_pos ⟨rfl, .inr rfl⟩]) (by omega)]
    exact at_n1 union_p s n ps fs vs s3 n3 ps3 fs3 vs3 hr hp hlo (by omega) (by omega)
   ·rw [hrow (tyK 2) (by unfold rowT; rw [e3, e4, if_neg (by omega), if_neg (by omega), if_neg (by omega)]) (by omega)]
    exact at_u2 union_p s n ps fs vs kk s3 n3 ps3 fs3 vs3 hr hp hlo c1 c4 c9 c10
 by_cases c11 : kt = 12
 ·subst c11
  by_cases c9 : kk = 7
  ·subst c9
   rw [hrow (unionT (tyK 4 :: ps)) (by unfold rowT; rw [e3, e4, e1, if_neg (by omega), if_neg (by omega), if_pos ⟨rfl, rfl⟩]) (by omega)]
   exact at_n2 union_p s n ps fs vs s3 n3 ps3 fs3 vs3 hr hp hlo (by omega) (by omega)
  ·by_cases c10 : kk = 9
   ·subst c10
    have hn0 : 0 ≤ n3 := by
     have := form_self hk
     unfold selfB at this
     simpa using this
    obtain ⟨m, rfl⟩ := Int.eq_ofNat_of_zero_le hn0
    by_cases hm : m < ps.length
    ·rw [hrow ps[m] (by unfold rowT; rw [e3, e4, e1, e7, if_neg (by omega), if_pos ⟨rfl, rfl⟩, if_neg (by omega), Int.toNat_natCast, List.getElem?_eq_getElem hm]; rfl) (by omega)]
     exact at_i1 union_p s n ps fs vs s3 m ps3 fs3 vs3 hr hp hlo hm
    ·rw [hrow (tyK 4) (by unfold rowT; rw [e3, e4, e1, e7, if_neg (by omega), if_pos ⟨rfl, rfl⟩, if_neg (by omega), Int.toNat_natCast, List.getElem?_eq_none (by omega)]; rfl) (by omega)]
     exact at_i0 union_p s n ps fs vs s3 m ps3 fs3 vs3 hr hp hlo (by omega)
   ·rw [hrow (tyK 2) (by unfold rowT; rw [e3, e4, if_neg (by omega), if_neg (by omega), if_neg (by omega)]) (by omega)]
    exact at_u3 union_p s n ps fs vs kk s3 n3 ps3 fs3 vs3 hr hp hlo c1 c4 c9 c10
 ·rw [hrow (tyK 2) (by unfold rowT; rw [e3, e4, if_neg (by omega), if_neg (by omega), if_neg (by omega)]) (by omega)]
  exact at_u0 union_p kt s n ps fs vs kk s3 n3 ps3 fs3 vs3 hr hp hlo c1 c4 c2 c3 c5 c6 c8 c11
theorem at_any (t k : Ty) : AtP t k := two_ind (C := AtP) (fun t k h1 h2 => at_step t k h1 h2) t k
def overT (l : List Ty) : Bool := l.all fun t => t.k == 13
set_option maxRecDepth 100000 in
set_option maxHeartbeats 8000000 in
theorem over_ref {K : Nat → Prop} {w : World} {l : List Ty} {A : Option Addr} {c : Nat} (hL : ListT K w l A c) :
  Calls Tryz.prog 30 #[.slice A l.length c] w fun e w' => e = .returned (.bool (overT l)) ∧ w' = w := by
 have HL := Lib.hid hL
 have hll := hL.short
 clear hL
 go_enter Tryz.func30, Tryz.ntmps30
 go_wp2_with fail
 go_loopw [3] (fun v wr => ∃ (i : Nat), i ≤ l.length ∧ v = .int .i64 i ∧ overT l = overT (l.drop i) ∧ wr = w) (fun v _ => l.length - (intOf v).toNat)
 case atStart => exact ⟨0, by omega, rfl, by rw [List.drop_zero], rfl⟩
 case round =>
  obtain ⟨i, hi, rfl, he, rfl⟩ := hrel
  have HE := Lib.hid he
  clear he
  by_cases hin : i < l.length
  ·have t1 : decide ((i : Int) < (l.length : Int)) = true := by simp; omega
   have wr2 : wrap64 ((i : Int) + 1) = ((i + 1 : Nat) : Int) := wrap_one (by omega)
   obtain ⟨b, o, hA, _, hat⟩ := HL.out.at (by omega)
   subst hA
   obtain ⟨q, hq, hcq⟩ : ∃ q, (l[i]'hin).k = q ∧ wr.cell? ⟨b, o + i * 6, none⟩ = some (.int .i64 q) := by
    have h1 := hat i hin
    generalize l[i] = t at h1
    obtain ⟨k, s, n, ps, fs, vs⟩ := t
    obtain ⟨_, _, _, _, _, _, ⟨x0, _⟩, _⟩ := h1.six
    exact ⟨k, rfl, x0⟩
   have HS : Hid (overT (l.drop i) = ((l[i]'hin).k == 13 && overT (l.drop (i + 1)))) := Lib.hid (by rw [List.drop_eq_getElem_cons hin]; rfl)
   have HM := Lib.hid (measI hin)
   have HIn : Hid (i + 1 ≤ l.length) := Lib.hid hin
   by_cases hk : q = 13
   ·have HK : Hid (((l[i]'hin).k == 13) = true) := Lib.hid (by rw [hq]; simpa using hk)
    have e13 : (q != 13) = false := by simpa using hk
    clear hat hi hq hk
    go_wp2_with fail
    refine ⟨⟨i + 1, HIn.out, by first | rfl | rw [wr2], by rw [HE.out, HS.out, HK.out]; rfl, by first | rfl | trivial⟩, ?_⟩
    first | exact HM.out | (rw [wr2]; exact HM.out)
   ·have HK : Hid (((l[i]'hin).k == 13) = false) := Lib.hid (by rw [hq]; simpa using hk)
    have e13 : (q != 13) = true := by simpa using hk
    clear hat hi hq hk
    go_wp2_with fail
    go_ret
    exact ⟨by rw [HE.out, HS.out, HK.out]; rfl, rfl⟩
  ·have t1 : decide ((i : Int) < (l.length : Int)) = false := by simp; omega
   have HE1 : Hid (overT l = true) := Lib.hid (by rw [HE.out, List.drop_eq_nil_of_le (by omega)]; rfl)
   clear hi
   go_wp2_with fail
   go_ret
   exact ⟨by rw [HE1.out]; rfl, rfl⟩
set_option maxRecDepth 100000 in
set_option maxHeartbeats 8000000 in
theorem plain_ref {w : World} (k : Int) (s : ByteArray) (n : Int) (A : Option Addr) (a c : Nat) (A' : Option Addr) (a' c' : Nat) (A'' : Option Addr) (a'' c'' : Nat) :
  Calls Tryz.prog 26 #[.agg #[.int .i64 k, .string s, .int .i64 n, .slice A a c, .slice A' a' c', .slice A'' a'' c'']] w fun e w' => e = .returned (.bool (s.toList == [] && n == 0)) ∧ Below w.heap.size w w' := by
 have HBW : Hid (Below w.heap.size w (w.alloc (.cells #[.int .i64 k, .string s, .int .i64 n, .slice A a c, .slice A' a' c', .slice A'' a'' c''] 26))) := Lib.hid ((Below.refl _ _).alloc (Nat.le_refl _) _)
 have HC := Lib.hid (cellsT_new w [.int .i64 k, .string s, .int .i64 n, .slice A a c, .slice A' a' c', .slice A'' a'' c''] 26)
 have x1 : (w.alloc (.cells #[.int .i64 k, .string s, .int .i64 n, .slice A a c, .slice A' a' c', .slice A'' a'' c''] 26)).cell? ⟨w.heap.size, 1, none⟩ = some (.string s) := HC.out 1 _ rfl
 have x2 : (w.alloc (.cells #[.int .i64 k, .string s, .int .i64 n, .slice A a c, .slice A' a' c', .slice A'' a'' c''] 26)).cell? ⟨w.heap.size, 2, none⟩ = some (.int .i64 n) := HC.out 2 _ rfl
 cases h : (s.toList == []) with
 | true =>
  go_enter Tryz.func26, Tryz.ntmps26
  go_wp2_with fail
  go_ret
  exact ⟨by simp, HBW.out⟩
 | false =>
  go_enter Tryz.func26, Tryz.ntmps26
  go_wp2_with fail
  go_ret
  exact ⟨by simp, HBW.out⟩
def FormR (t : Ty) : Prop := ∀ (K : Nat → Prop) (w : World) (cs : List Value), RepT K w t cs → cntT t ≤ 1000000 → Calls Tryz.prog 15 #[.agg cs.toArray] w fun e w' => e = .returned (.bool (formT t)) ∧ Below w.heap.size w w'
theorem allF_drop {l : List Ty} {i : Nat} (h : i < l.length) : (l.drop i).all formT = (formT l[i] && (l.drop (i + 1)).all formT) := by rw [List.drop_eq_getElem_cons h]; rfl
set_option maxRecDepth 100000 in
set_option maxHeartbeats 16000000 in
theorem all_ref (l : List Ty) (h : ∀ p ∈ l, FormR p) {K : Nat → Prop} {w : World} {A : Option Addr} {c : Nat} (hL : ListT K w l A c) (hc : cntL l ≤ 1000000) :
  Calls Tryz.prog 25 #[.slice A l.length c] w fun e w' => e = .returned (.bool (l.all formT)) ∧ Below w.heap.size w w' := by
 have HL := Lib.hid hL
 have HH := Lib.hid h
 have HC := Lib.hid hc
 have hll := hL.short
 clear hL h hc
 go_enter Tryz.func25, Tryz.ntmps25
 go_wp2_with fail
 go_loopw [3] (fun v wr => ∃ (i : Nat), i ≤ l.length ∧ v = .int .i64 i ∧ l.all formT = (l.drop i).all formT ∧ Below w.heap.size w wr) (fun v _ => l.length - (intOf v).toNat)
 case atStart => exact ⟨0, by omega, rfl, by rw [List.drop_zero], Below.refl _ _⟩
 case round =>
  obtain ⟨i, hi, rfl, he, hb⟩ := hrel
  have HE := Lib.hid he
  have HB := Lib.hid hb
  clear he hb
  by_cases hin : i < l.length
  ·have t1 : decide ((i : Int) < (l.length : Int)) = true := by simp; omega
   have wr2 : wrap64 ((i : Int) + 1) = ((i + 1 : Nat) : Int) := wrap_one (by omega)
   have HM := Lib.hid (measI hin)
   obtain ⟨b, o, hA, _, hat⟩ := HL.out.at (by omega)
   have hti := hat i hin
   have hpi := HH.out _ (List.getElem_mem hin)
   have HS := Lib.hid (allF_drop hin)
   have hci := Nat.le_trans (cntL_mem (List.getElem_mem hin)) HC.out
   have HIn : Hid (i + 1 ≤ l.length) := Lib.hid hin
   subst hA
   generalize l[i] = t at hti hpi HS hci
   obtain ⟨cs, hcs, hrep⟩ := hti
   have KI := Lib.hid (hpi K wr cs (hrep.later HB.out) hci)
   generalize formT t = q at HS KI
   obtain ⟨k2, s2, n2, ps2, fs2, vs2⟩ := t
   obtain ⟨Aq, cq, Ag, cg, Ah, ch, rfl, -⟩ := hrep.inv
   have y0 := cell_stays HB.out (hcs 0 _ rfl)
   have y1 := cell_stays HB.out (hcs 1 _ rfl)
   have y2 := cell_stays HB.out (hcs 2 _ rfl)
   have y3 := cell_stays HB.out (hcs 3 _ rfl)
   have y4 := cell_stays HB.out (hcs 4 _ rfl)
   have y5 := cell_stays HB.out (hcs 5 _ rfl)
   rw [Nat.add_zero] at y0
   simp only [cells6T] at KI
   clear hi hat hpi hcs hrep hci
   go_wp2_with fail
   refine KI.out.mono ?_
   rintro e w2 ⟨rfl, hb2⟩
   have HB2 := Lib.hid (below_then HB.out hb2)
   clear hb2 KI y0 y1 y2 y3 y4 y5
   cases q with
   | true =>
    go_wp2_with fail
    refine ⟨⟨i + 1, HIn.out, by first | rfl | rw [wr2], by rw [HE.out, HS.out]; rfl, HB2.out⟩, ?_⟩
    first | exact HM.out | (rw [wr2]; exact HM.out)
   | false =>
    go_wp2_with fail
    go_ret
    exact ⟨by rw [HE.out, HS.out]; rfl, HB2.out⟩
  ·have t1 : decide ((i : Int) < (l.length : Int)) = false := by simp; omega
   have HE1 : Hid (l.all formT = true) := Lib.hid (by rw [HE.out, List.drop_eq_nil_of_le (by omega)]; rfl)
   clear hi
   go_wp2_with fail
   go_ret
   exact ⟨by rw [HE1.out]; rfl, HB.out⟩
theorem cntV_mem : ∀ {l : List (ByteArray × List Ty)} {v : ByteArray × List Ty}, v ∈ l → cntL v.2 ≤ cntV l
 | a :: l, v, h => by
  have e : cntV (a :: l) = cntL a.2 + cntV l := by simp [cntV]
  rw [e]
  rcases List.mem_cons.1 h with rfl | h
  ·omega
  ·have := cntV_mem h; omega
theorem any_none {l : List (ByteArray × List Ty)} {i : Nat} {nm : ByteArray} (h : ∀ j (hj : j < l.length), j < i → l[j].1 ≠ nm) : ((l.take i).any fun x => decide (x.1 = nm)) = false := by
 rw [List.any_eq_false]
 intro x hx
 obtain ⟨j, hj, rfl⟩ := List.getElem_of_mem hx
 simp only [List.length_take] at hj
 rw [List.getElem_take]
 simpa using h j (by omega) (by omega)
theorem any_some {l : List (ByteArray × List Ty)} {i j : Nat} {nm : ByteArray} (hj : j < l.length) (hji : j < i) (h : l[j].1 = nm) : ((l.take i).any fun x => decide (x.1 = nm)) = true := by
 rw [List.any_eq_true]
 refine ⟨l[j], ?_, by simpa using h⟩
 have : (l.take i)[j]'(by simp; omega) = l[j] := List.getElem_take
 rw [← this]
 exact List.getElem_mem _
set_option maxRecDepth 100000 in
set_option maxHeartbeats 16000000 in
theorem binds_ref (l : List (ByteArray × List Ty)) (h : ∀ v ∈ l, ∀ b ∈ v.2, FormR b) {K : Nat → Prop} {w : World} {A : Option Addr} {c : Nat} (hL : ListV K w l A c) (hll : l.length ≤ 1000000000000000) (hc : cntV l ≤ 1000000) :
  Calls Tryz.prog 27 #[.slice A l.length c] w fun e w' => e = .returned (.bool (varsB (varsT l formT))) ∧ Below w.heap.size w w' := by
 have HL := Lib.hid hL
 have HH := Lib.hid h
 have HC := Lib.hid hc
 clear hL h hc
 go_enter Tryz.func27, Tryz.ntmps27
 go_wp2_with fail
 go_loopw [3] (fun v wr => ∃ (i : Nat), i ≤ l.length ∧ v = .int .i64 i ∧ (∀ j, j < i → okV (varsT l formT) j = true) ∧ Below w.heap.size w wr) (fun v _ => l.length - (intOf v).toNat)
 case atStart => exact ⟨0, by omega, rfl, fun j hj => absurd hj (by omega), Below.refl _ _⟩
 case round =>
  obtain ⟨i, hi, rfl, he, hb⟩ := hrel
  have HE := Lib.hid he
  have HB := Lib.hid hb
  clear he hb
  by_cases hin : i < l.length
  ·have t1 : decide ((i : Int) < (l.length : Int)) = true := by simp; omega
   have wr2 : wrap64 ((i : Int) + 1) = ((i + 1 : Nat) : Int) := wrap_one (by omega)
   have HM := Lib.hid (measI hin)
   obtain ⟨b, o, hA, hat⟩ : ∃ b o, A = some ⟨b, o, none⟩ ∧ ∀ i (h : i < l.length), ∃ B d, w.cell? ⟨b, o + i * 2, none⟩ = some (.string l[i].1) ∧ w.cell? ⟨b, o + i * 2 + 1, none⟩ = some (.slice B l[i].2.length d) ∧ l[i].1.size ≤ 1000000000000000 ∧ ListT K w l[i].2 B d := by
    obtain ⟨b, o, h1, h2⟩ := HL.out
    exact ⟨b, o, (h1.some (by omega)).1, h2⟩
   obtain ⟨B, d, hc0, hc1, hsz, hT⟩ := hat i hin
   have HOK := Lib.hid (okV_at (fv := formT) hin)
   subst hA
   have HNO : Hid (okV (varsT l formT) i = false → varsB (varsT l formT) = false) := Lib.hid fun e => by unfold varsB; exact allB_no (by rw [varsT_len]; exact hin) e
   have HCell : Hid (∀ k (h : k < l.length), ∃ q, q = l[k].1 ∧ w.cell? ⟨b, o + k * 2, none⟩ = some (.string q)) := Lib.hid fun k h => ⟨_, rfl, (by obtain ⟨B, d, h1, -⟩ := hat k h; exact h1)⟩
   have KAll := Lib.hid fun wx (hx : Below w.heap.size w wx) => all_ref l[i].2 (HH.out _ (List.getElem_mem hin)) (hT.later hx) (Nat.le_trans (cntV_mem (List.getElem_mem hin)) HC.out)
   generalize l[i].1 = nm at hc0 hsz HOK
   generalize l[i].2 = bs at hc1 hT HOK KAll
   have x0 := cell_stays HB.out hc0
   have x1 := cell_stays HB.out hc1
   have KN := Lib.hid (name_ref nm wr hsz)
   have hbl := hT.short
   have HX : Hid (∀ wx, Below w.heap.size w wx → wx.cell? ⟨b, o + i * 2, none⟩ = some (.string nm) ∧ wx.cell? ⟨b, o + i * 2 + 1, none⟩ = some (.slice B bs.length d)) := Lib.hid fun wx hx => ⟨cell_stays hx hc0, cell_stays hx hc1⟩
   have HIn : Hid (i + 1 ≤ l.length) := Lib.hid hin
   clear hi hT hc0 hc1 hat
   go_wp2_with fail
   refine KN.out.mono ?_
   rintro e w2 ⟨rfl, hb2⟩
   have HB2 := Lib.hid (below_then HB.out hb2)
   obtain ⟨y0, y1⟩ := HX.out _ HB2.out
   clear x0 x1 hb2 KN
   cases hn : nameT nm with
   | false =>
    have HF := Lib.hid (HNO.out (by rw [HOK.out, hn]; rfl))
    clear hn
    go_wp2_with fail
    go_ret
    exact ⟨by rw [HF.out]; rfl, HB2.out⟩
   | true =>
    have HN := Lib.hid hn
    clear hn
    by_cases hlen : 1 < bs.length
    ·have t2 : decide (1 < bs.length) = true := decide_eq_true hlen
     have HF := Lib.hid (HNO.out (by rw [HOK.out, HN.out, decide_eq_false (by omega)]; rfl))
     go_wp2_with fail
     go_ret
     exact ⟨by rw [HF.out]; rfl, HB2.out⟩
    ·have t2 : decide (1 < bs.length) = false := decide_eq_false hlen
     have HLe : Hid (decide (bs.length ≤ 1) = true) := Lib.hid (decide_eq_true (by omega))
     go_wp2_with fail
     refine (KAll.out _ HB2.out).mono ?_
     rintro e w3 ⟨rfl, hb3⟩
     have HB3 := Lib.hid (below_then HB2.out hb3)
     obtain ⟨z0, z1⟩ := HX.out _ HB3.out
     clear y0 y1 hb3 KAll
     cases hal : bs.all formT with
     | false =>
      have HF := Lib.hid (HNO.out (by rw [HOK.out, HN.out, HLe.out, hal]; rfl))
      clear hal
      go_wp2_with fail
      go_ret
      exact ⟨by rw [HF.out]; rfl, HB3.out⟩
     | true =>
      have HAL := Lib.hid hal
      clear hal
      go_wp2_with fail
      go_loopw [4] (fun v wx => ∃ (k : Nat), k ≤ i ∧ v = .int .i64 k ∧ (∀ j (hj : j < l.length), j < k → l[j].1 ≠ nm) ∧ Below w3.heap.size w3 wx) (fun v _ => i - (intOf v).toNat)
      case atStart => exact ⟨0, by omega, rfl, fun j _ hj => absurd hj (by omega), Below.refl _ _⟩
      case round =>
       obtain ⟨k, hk, rfl, hne, hbx⟩ := hrel
       have HBX := Lib.hid hbx
       have HB4 := Lib.hid (below_then HB3.out hbx)
       replace z0 := cell_stays hbx z0
       replace z1 := cell_stays hbx z1
       clear hbx
       have HNE := Lib.hid hne
       clear hne
       by_cases hki : k < i
       ·have t3 : decide ((k : Int) < (i : Int)) = true := by simp; omega
        have t4 : decide (k < i) = true := decide_eq_true hki
        have wr3 : wrap64 ((k : Int) + 1) = ((k + 1 : Nat) : Int) := wrap_one (by omega)
        have HM3 := Lib.hid (measI hki)
        obtain ⟨q, hq, hcq0⟩ := HCell.out k (by omega)
        have hcq := cell_stays HB4.out hcq0
        have hkl : k < l.length := by omega
        have i1 : (k : Int) < (l.length : Int) := by omega
        have i2 : (0 : Int) ≤ (k : Int) := by omega
        have i3 : (i : Int) < (l.length : Int) := by omega
        have i4 : (0 : Int) ≤ (i : Int) := by omega
        have i5 : i < l.length := hin
        have HQ : Hid (∀ hkl : k < l.length, q = l[k].1) := Lib.hid fun _ => hq
        have HKI : Hid (k + 1 ≤ i) := Lib.hid hki
        have HCQ : Hid (∀ wx, Below wr.heap.size wr wx → wx.cell? ⟨b, o + k * 2, none⟩ = some (.string q)) := Lib.hid fun wx hx => cell_stays hx hcq
        have HCN : Hid (∀ wx, Below wr.heap.size wr wx → wx.cell? ⟨b, o + i * 2, none⟩ = some (.string nm)) := Lib.hid fun wx hx => cell_stays hx z0
        clear hq hcq0
        by_cases hqn : q = nm
        ·have e13 : (q.toList == nm.toList) = true := by rw [eqT]; exact decide_eq_true hqn
         have HF := Lib.hid (HNO.out (by rw [HOK.out, any_some hkl hki ((HQ.out hkl).symm.trans hqn), Bool.not_true, Bool.and_false]))
         clear hqn hk
         go_wp2_with fail
         refine wp_region_held_drew (S := (fun w' => w'.cell? ⟨b, o + k * 2, none⟩ = some (.string q) ∧ w'.cell? ⟨b, o + i * 2, none⟩ = some (.string nm))) (by kernel_rfl) ⟨HCQ.out _ (Below.refl _ _).drew, HCN.out _ (Below.refl _ _).drew⟩ (fun hHeld => ?_)
         refine Plan.start [0, 1, 2, 3, 4, 5, 6, 7, 8, 9, 10] ?_
         iterate 11 ((refine Plan.take (v := ?_) (so rfl) (by kernel_rfl) (by kernel_rfl) (by kernel_rfl) (fun _ _ _ h => h) (Or.inl ⟨by rfl, ?_⟩) hHeld ?_; rotate_left; focus (intro w' hSw; (try dsimp only at hSw); obtain ⟨hS1, hS2⟩ := hSw; go_simp; try with_reducible rfl)); try simp only [Act.put, List.setIfInBounds_toArray, List.set_cons_zero, List.set_cons_succ])
         refine Plan.done ?_
         refine wpAnyH_done (by kernel_rfl) ?_ _
         clear hHeld
         go_wp2_with fail
         go_ret
         exact ⟨by rw [HF.out]; rfl, HB4.out.drew⟩
        ·have e13 : (q.toList == nm.toList) = false := by rw [eqT]; exact decide_eq_false hqn
         have HNE2 : Hid (∀ j (hj : j < l.length), j < k + 1 → l[j].1 ≠ nm) := Lib.hid fun j hj hjk => by
          rcases Nat.lt_or_ge j k with h1 | h1
          ·exact HNE.out j hj h1
          ·have : j = k := by omega
           subst this
           rw [← HQ.out hj]; exact hqn
         clear hqn hk
         go_wp2_with fail
         refine wp_region_held_drew (S := (fun w' => w'.cell? ⟨b, o + k * 2, none⟩ = some (.string q) ∧ w'.cell? ⟨b, o + i * 2, none⟩ = some (.string nm))) (by kernel_rfl) ⟨HCQ.out _ (Below.refl _ _).drew, HCN.out _ (Below.refl _ _).drew⟩ (fun hHeld => ?_)
         refine Plan.start [0, 1, 2, 3, 4, 5, 6, 7, 8, 9, 10] ?_
         iterate 11 ((refine Plan.take (v := ?_) (so rfl) (by kernel_rfl) (by kernel_rfl) (by kernel_rfl) (fun _ _ _ h => h) (Or.inl ⟨by rfl, ?_⟩) hHeld ?_; rotate_left; focus (intro w' hSw; (try dsimp only at hSw); obtain ⟨hS1, hS2⟩ := hSw; go_simp; try with_reducible rfl)); try simp only [Act.put, List.setIfInBounds_toArray, List.set_cons_zero, List.set_cons_succ])
         refine Plan.done ?_
         refine wpAnyH_done (by kernel_rfl) ?_ _
         clear hHeld
         go_wp2_with fail
         refine ⟨⟨k + 1, HKI.out, by first | rfl | rw [wr3], HNE2.out, HBX.out.drew⟩, ?_⟩
         first | exact HM3.out | (rw [wr3]; exact HM3.out)
       ·have t3 : decide ((k : Int) < (i : Int)) = false := by simp; omega
        have t4 : decide (k < i) = false := decide_eq_false hki
        have HOK2 : Hid (∀ j, j < i + 1 → okV (varsT l formT) j = true) := Lib.hid fun j hj => by
         rcases Nat.lt_or_ge j i with h1 | h1
         ·exact HE.out j h1
         ·have : j = i := by omega
          subst this
          rw [HOK.out, HN.out, HLe.out, HAL.out, any_none fun a ha hai => HNE.out a ha (by omega)]
          rfl
        clear hk
        go_wp2_with fail
        refine ⟨⟨i + 1, HIn.out, by first | rfl | rw [wr2], HOK2.out, HB4.out⟩, ?_⟩
        first | exact HM.out | (rw [wr2]; exact HM.out)
  ·have t1 : decide ((i : Int) < (l.length : Int)) = false := by simp; omega
   have HT1 : Hid (varsB (varsT l formT) = true) := Lib.hid (by unfold varsB; rw [range_all]; exact fun j hj => HE.out j (by rw [varsT_len] at hj; omega))
   clear hi
   go_wp2_with fail
   go_ret
   exact ⟨by rw [HT1.out]; rfl, HB.out⟩
end Go.Proofs.YtfchnfnifpopnaaGreatDoor
