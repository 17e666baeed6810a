import Derived.Test.YtgjblmlibhppiaaGreatDoorMy4
namespace Go.Proofs.YtgjblmlibhppiaaGreatDoor
set_option maxRecDepth 100000
set_option maxHeartbeats 64000000
open Go.RowKit
theorem AtT.vals {K : Nat → Prop} {w : World} {t : Ty} {b o : Nat} (h : AtT K w t b o) :
  ∃ k s n A lp c A' lf c' A'' lv c'', RepT K w t [.int .i64 k, .string s, .int .i64 n, .slice A lp c, .slice A' lf c', .slice A'' lv c''] ∧ w.cell? ⟨b, o, none⟩ = some (.int .i64 k) ∧ w.cell? ⟨b, o + 1, none⟩ = some (.string s) ∧ w.cell? ⟨b, o + 2, none⟩ = some (.int .i64 n) ∧ w.cell? ⟨b, o + 3, none⟩ = some (.slice A lp c) ∧ w.cell? ⟨b, o + 4, none⟩ = some (.slice A' lf c') ∧ w.cell? ⟨b, o + 5, none⟩ = some (.slice A'' lv c'') := by
 obtain ⟨k, s, n, ps, fs, vs⟩ := t
 obtain ⟨cs, h1, h2⟩ := h
 obtain ⟨A, c, A', c', A'', c'', rfl, _⟩ := h2.inv
 exact ⟨k, s, n, A, ps.length, c, A', fs.length, c', A'', vs.length, c'', h2, h1 0 _ rfl, h1 1 _ rfl, h1 2 _ rfl, h1 3 _ rfl, h1 4 _ rfl, h1 5 _ rfl⟩
def NodP (t : Ty) : Prop := ∀ (K : Nat → Prop) (w : World) (cs : List Value), RepT K w t cs → Calls Tryz.prog 10 #[.agg cs.toArray] w fun e w' => e = .returned (.int .i64 (capN (cntT t) : Nat)) ∧ Gw w w'
def NodAt (wr : World) (b o x : Nat) : Prop := ∃ q1 q2 q3 B1 l1 d1 B2 l2 d2 B3 l3 d3, wr.cell? ⟨b, o, none⟩ = some (.int .i64 q1) ∧ wr.cell? ⟨b, o + 1, none⟩ = some (.string q2) ∧ wr.cell? ⟨b, o + 2, none⟩ = some (.int .i64 q3) ∧ wr.cell? ⟨b, o + 3, none⟩ = some (.slice B1 l1 d1) ∧ wr.cell? ⟨b, o + 4, none⟩ = some (.slice B2 l2 d2) ∧ wr.cell? ⟨b, o + 5, none⟩ = some (.slice B3 l3 d3) ∧ Calls Tryz.prog 10 #[.agg #[.int .i64 q1, .string q2, .int .i64 q3, .slice B1 l1 d1, .slice B2 l2 d2, .slice B3 l3 d3]] wr fun e w' => e = .returned (.int .i64 (capN x : Nat)) ∧ Gw wr w'
theorem nod_at {K : Nat → Prop} {t : Ty} (h : NodP t) {wr : World} {b o : Nat} (ha : AtT K wr t b o) : NodAt wr b o (cntT t) := by
 obtain ⟨q1, q2, q3, B1, l1, d1, B2, l2, d2, B3, l3, d3, hrep, e0, e1, e2, e3, e4, e5⟩ := ha.vals
 exact ⟨q1, q2, q3, B1, l1, d1, B2, l2, d2, B3, l3, d3, e0, e1, e2, e3, e4, e5, h K wr _ hrep⟩
theorem nod_p {K : Nat → Prop} {ps : List Ty} {w0 wr : World} {A : Option Addr} {c i : Nat} (hP : ListT K w0 ps A c) (h : ∀ p ∈ ps, NodP p) (hi : i < ps.length) (hb : Gw w0 wr) : ∃ b o x, A = some ⟨b, o, none⟩ ∧ cntL (ps.take (i + 1)) = cntL (ps.take i) + x ∧ NodAt wr b (o + i * 6) x := by
 obtain ⟨b, o, hA, _, hr⟩ := hP.at (by omega)
 exact ⟨b, o, _, hA, cntL_take hi, nod_at (h _ (List.getElem_mem hi)) ((hr i hi).later hb.below)⟩
theorem nod_f {K : Nat → Prop} {fs : FsT} {w0 wr : World} {A : Option Addr} {c i : Nat} (hP : ListF K w0 fs A c) (h : ∀ f ∈ fs, NodP f.2.2) (hi : i < fs.length) (hb : Gw w0 wr) : ∃ b o x, A = some ⟨b, o, none⟩ ∧ cntF (fs.take (i + 1)) = cntF (fs.take i) + x ∧ NodAt wr b (o + i * 8 + 2) x := by
 obtain ⟨b, o, hA, _, hr⟩ := hP.at (by omega)
 exact ⟨b, o, _, hA, cntF_take hi, nod_at (h _ (List.getElem_mem hi)) ((hr i hi).2.2.2.later hb.below)⟩
theorem nod_v {K : Nat → Prop} {vs : VsT} {w0 : World} {A : Option Addr} {c i : Nat} (hP : ListV K w0 vs A c) (h : ∀ v ∈ vs, ∀ b ∈ v.2, NodP b) (hi : i < vs.length) : ∃ b o B d, ∃ l : List Ty, A = some ⟨b, o, none⟩ ∧ cntV (vs.take (i + 1)) = cntV (vs.take i) + cntL l ∧ (∀ wr, Gw w0 wr → wr.cell? ⟨b, o + i * 2 + 1, none⟩ = some (.slice B l.length d)) ∧ ListT K w0 l B d ∧ (∀ p ∈ l, NodP p) := by
 obtain ⟨b, o, hA, _, hr⟩ := hP.at (by omega)
 obtain ⟨B, d, _, h1, _, h2⟩ := hr i hi
 exact ⟨b, o, B, d, vs[i].2, hA, cntV_take hi, fun wr hb => cell_stays hb.below h1, h2, h _ (List.getElem_mem hi)⟩
theorem ListT.short {K : Nat → Prop} {w : World} {l : List Ty} {A : Option Addr} {c : Nat} (h : ListT K w l A c) : l.length ≤ 1000000000000000 := by
 obtain ⟨_, _, hr, _⟩ := h
 exact hr.big
theorem wrap_in {n : Int} (h : 0 ≤ n) (h' : n ≤ 1000000000000000000) : wrap64 n = n := by
 have e : IntKind.i64.wrap n = wrap64 n := by unfold wrap64; exact IntKind.wrap_i64 n
 rw [← e]
 simp [IntKind.wrap, IntKind.bits, IntKind.signed]
 omega
theorem measI {i k : Nat} (h : i < k) : k - (intOf (Value.int .i64 ((i + 1 : Nat) : Int))).toNat < k - (intOf (Value.int .i64 (i : Int))).toNat := by
 simp only [intOf]
 omega
theorem wrap_add {a b : Nat} (h : a + b ≤ 1000000000000000000) : wrap64 ((a : Int) + (b : Int)) = ((a + b : Nat) : Int) := by rw [wrap_in (by omega) (by omega)]; omega
theorem wrap_one {a : Nat} (h : a ≤ 100000000000000000) : wrap64 ((a : Int) + 1) = ((a + 1 : Nat) : Int) := by rw [wrap_in (by omega) (by omega)]; omega
theorem nod_step (k : Int) (t : ByteArray) (n : Int) (ps : List Ty) (fs : FsT) (vs : VsT) (hp : ∀ p ∈ ps, NodP p) (hf : ∀ f ∈ fs, NodP f.2.2) (hv : ∀ v ∈ vs, ∀ b ∈ v.2, NodP b) : NodP (.mk k t n ps fs vs) := by
 intro K w cs h
 have ha := (AtT.box 26 h)
 obtain ⟨A, c, A2, c2, A3, c3, rfl, -⟩ := h.inv
 simp only [cells6T] at ha ⊢
 have HB0 : Hid (Gw w (w.alloc (.cells #[.int .i64 k, .string t, .int .i64 n, .slice A ps.length c, .slice A2 fs.length c2, .slice A3 vs.length c3] 26))) := Hd ((Gw.refl w).alloc _)
 obtain ⟨A', c', A2', c2', A3', c3', ⟨x0, x1, x2, x3, x4, x5⟩, -, hP, hF, hV⟩ := ha.six
 generalize hw0 : w.alloc (.cells #[.int .i64 k, .string t, .int .i64 n, .slice A ps.length c, .slice A2 fs.length c2, .slice A3 vs.length c3] 26) = w0 at HB0 x0 x1 x2 x3 x4 x5 hP hF hV
 have HW0 := Hd hw0
 have HX : Hid (∀ wx, Gw w0 wx → wx.cell? ⟨w.heap.size, 3, none⟩ = some (.slice A' ps.length c') ∧ wx.cell? ⟨w.heap.size, 4, none⟩ = some (.slice A2' fs.length c2') ∧ wx.cell? ⟨w.heap.size, 5, none⟩ = some (.slice A3' vs.length c3')) := Hd fun wx hb => by
  rw [Nat.zero_add] at x3 x4 x5
  exact ⟨cell_stays hb.below x3, cell_stays hb.below x4, cell_stays hb.below x5⟩
 have HP := Hd hP
 have HF := Hd hF
 have HV := Hd hV
 have HIp := Hd hp
 have HIf := Hd hf
 have HIv := Hd hv
 have hlp : ps.length ≤ 1000000000000000 := by obtain ⟨_, _, hr, _⟩ := hP; exact hr.big
 have hlf : fs.length ≤ 1000000000000000 := by obtain ⟨_, _, hr, _⟩ := hF; exact hr.big
 have hlv : vs.length ≤ 1000000000000000 := by obtain ⟨_, _, hr, _⟩ := hV; exact hr.big
 clear h ha hP hF hV hp hf hv x0 x1 x2 x3 x4 x5 hw0
 go_enter Tryz.func10, Tryz.ntmps10
 go_wp2_with fail
 rw [HW0.out]
 go_loopw [3, 4] (fun nv v wr => ∃ (m i : Nat), i ≤ ps.length ∧ v = .int .i64 i ∧ nv = .int .i64 m ∧ Told m (1 + cntL (ps.take i)) ∧ Gw w0 wr) (fun _ v _ => ps.length - (intOf v).toNat)
 case atStart => exact ⟨1, 0, by omega, rfl, rfl, ⟨rfl, by omega⟩, Gw.refl _⟩
 case round =>
  obtain ⟨m, i, hi, rfl, rfl, ht, hb⟩ := hrel
  have HT := Hd ht
  have HB := Hd hb
  obtain ⟨y3, y4, y5⟩ := HX.out _ hb
  have hm := ht.2
  by_cases hin : i < ps.length ∧ m ≤ 4096
  ·have t1 : decide ((i : Int) < (ps.length : Int)) = true := by simp; omega
   have t2 : decide ((m : Int) ≤ 4096) = true := by simp; omega
   obtain ⟨b, o, x, hA, htk, q1, q2, q3, B1, l1, d1, B2, l2, d2, B3, l3, d3, e0, e1, e2, e3, e4, e5, hN⟩ := nod_p HP.out HIp.out hin.1 hb
   subst hA
   have KN := Hd hN
   have HT2 := Hd (by rw [htk, ← Nat.add_assoc]; exact ht.more (x := x) hin.2 : Told (m + capN x) (1 + cntL (ps.take (i + 1))))
   have hcx : capN x ≤ 4097 := Nat.min_le_right _ _
   generalize capN x = cc at KN HT2 hcx
   have wr1 : wrap64 ((m : Int) + (cc : Int)) = ((m + cc : Nat) : Int) := wrap_add (by omega)
   have wr2 : wrap64 ((i : Int) + 1) = ((i + 1 : Nat) : Int) := wrap_one (by omega)
   have HIn := Hd hin
   have hii := hin.1
   clear hin ht hb hi hN htk
   go_wp2_with fail
   refine KN.out.mono ?_
   rintro e w2 ⟨rfl, hb2⟩
   have HB2 := Hd (HB.out.trans hb2)
   clear hb2 KN
   go_wp2_with fail
   refine ⟨⟨m + cc, i + 1, HIn.out.1, rfl, rfl, HT2.out, HB2.out⟩, ?meas⟩
   case meas => exact measI HIn.out.1
  ·by_cases hie : i < ps.length
   ·have t1 : decide ((i : Int) < (ps.length : Int)) = true := by simp; omega
    have t2 : (4096 : Int) < (m : Int) := by omega
    have HT2 := Hd (show Told m (1 + cntL ps) from by obtain ⟨x, hx⟩ := cntL_split ps i; rw [hx, ← Nat.add_assoc]; exact ht.full (x := x) (by omega))
    clear hin ht hb hi hm
    go_wp2_with fail
    go_loopw [3, 5] (fun nv v wr => ∃ (m i : Nat), i ≤ fs.length ∧ v = .int .i64 i ∧ nv = .int .i64 m ∧ Told m (1 + cntL ps + cntF (fs.take i)) ∧ Gw w0 wr) (fun _ v _ => fs.length - (intOf v).toNat)
    case atStart => exact ⟨_, 0, by omega, rfl, rfl, by simpa [cntF] using HT2.out, HB.out⟩
    case round =>
     obtain ⟨m, i, hi, rfl, rfl, ht, hb⟩ := hrel
     have HT := Hd ht
     have HB := Hd hb
     obtain ⟨y3, y4, y5⟩ := HX.out _ hb
     have hm := ht.2
     by_cases hin : i < fs.length ∧ m ≤ 4096
     ·have t1 : decide ((i : Int) < (fs.length : Int)) = true := by simp; omega
      have t2 : decide ((m : Int) ≤ 4096) = true := by simp; omega
      obtain ⟨b, o, x, hA, htk, q1, q2, q3, B1, l1, d1, B2, l2, d2, B3, l3, d3, e0, e1, e2, e3, e4, e5, hN⟩ := nod_f HF.out HIf.out hin.1 hb
      subst hA
      have KN := Hd hN
      have HT2 := Hd (by rw [htk, ← Nat.add_assoc]; exact ht.more (x := x) hin.2 : Told (m + capN x) (1 + cntL ps + cntF (fs.take (i + 1))))
      have hcx : capN x ≤ 4097 := Nat.min_le_right _ _
      generalize capN x = cc at KN HT2 hcx
      have wr1 : wrap64 ((m : Int) + (cc : Int)) = ((m + cc : Nat) : Int) := wrap_add (by omega)
      have wr2 : wrap64 ((i : Int) + 1) = ((i + 1 : Nat) : Int) := wrap_one (by omega)
      have HIn := Hd hin
      have hii := hin.1
      clear hin ht hb hi hN htk
      go_wp2_with fail
      refine KN.out.mono ?_
      rintro e w2 ⟨rfl, hb2⟩
      have HB2 := Hd (HB.out.trans hb2)
      clear hb2 KN
      go_wp2_with fail
      refine ⟨⟨m + cc, i + 1, HIn.out.1, rfl, rfl, HT2.out, HB2.out⟩, ?meas⟩
      case meas => exact measI HIn.out.1
     ·by_cases hie : i < fs.length
      ·have t1 : decide ((i : Int) < (fs.length : Int)) = true := by simp; omega
       have t2 : (4096 : Int) < (m : Int) := by omega
       have HT3 := Hd (show Told m (1 + cntL ps + cntF fs) from by obtain ⟨x, hx⟩ := cntF_split fs i; rw [hx, ← Nat.add_assoc]; exact ht.full (x := x) (by omega))
       clear hin ht hb hi hm
       go_wp2_with fail
       go_loopw [3, 6] (fun nv v wr => ∃ (m i : Nat), i ≤ vs.length ∧ v = .int .i64 i ∧ nv = .int .i64 m ∧ Told m (1 + cntL ps + cntF fs + cntV (vs.take i)) ∧ Gw w0 wr) (fun _ v _ => vs.length - (intOf v).toNat)
       case atStart => exact ⟨_, 0, by omega, rfl, rfl, by simpa [cntV] using HT3.out, HB.out⟩
       case round =>
        obtain ⟨m, i, hi, rfl, rfl, ht, hb⟩ := hrel
        have HT := Hd ht
        have HB := Hd hb
        obtain ⟨y3, y4, y5⟩ := HX.out _ hb
        have hm := ht.2
        by_cases hin : i < vs.length ∧ m ≤ 4096
        ·have t1 : decide ((i : Int) < (vs.length : Int)) = true := by simp; omega
         have t2 : decide ((m : Int) ≤ 4096) = true := by simp; omega
         obtain ⟨b, o, B, d, l, hA, htk, hcell, hL, hIl⟩ := nod_v HV.out HIv.out hin.1
         subst hA
         have hll := hL.short
         have HL := Hd hL
         have HIl := Hd hIl
         have HC := Hd hcell
         have HTk := Hd htk
         obtain ⟨S, hS⟩ : ∃ S, S = 1 + cntL ps + cntF fs + cntV (vs.take i) := ⟨_, rfl⟩
         have HS := Hd hS.symm
         rw [← hS] at ht
         have HTs := Hd ht
         have HIn := Hd hin
         have HW3 : Hid (wrap64 ((i : Int) + 1) = ((i + 1 : Nat) : Int)) := Hd (wrap_one (by omega))
         have hii := hin.1
         clear hin ht hb hi hcell hL hIl htk hS
         go_wp2_with fail
         clear t1 t2 y3 y4 y5 hm
         go_loopw [3, 7] (fun nv v wr => ∃ (m j : Nat), j ≤ l.length ∧ v = .int .i64 j ∧ nv = .int .i64 m ∧ Told m (S + cntL (l.take j)) ∧ Gw w0 wr) (fun _ v _ => l.length - (intOf v).toNat)
         case atStart => exact ⟨_, 0, by omega, rfl, rfl, by simpa [cntL] using HTs.out, HB.out⟩
         case round =>
          obtain ⟨m, j, hj, rfl, rfl, ht, hb⟩ := hrel
          have HB5 := Hd hb
          obtain ⟨y3, y4, y5⟩ := HX.out _ hb
          have yv := HC.out _ hb
          have hm := ht.2
          have hii := HIn.out.1
          by_cases hin : j < l.length ∧ m ≤ 4096
          ·have t1 : decide ((j : Int) < (l.length : Int)) = true := by simp; omega
           have t2 : decide ((m : Int) ≤ 4096) = true := by simp; omega
           obtain ⟨b4, o4, x, hA4, htk, q1, q2, q3, B1, l1, d1, B2, l2, d2, B3, l3, d3, e0, e1, e2, e3, e4, e5, hN⟩ := nod_p HL.out HIl.out hin.1 hb
           subst hA4
           have KN := Hd hN
           have HT2 := Hd (by rw [htk, ← Nat.add_assoc]; exact ht.more (x := x) hin.2 : Told (m + capN x) (S + cntL (l.take (j + 1))))
           have hcx : capN x ≤ 4097 := Nat.min_le_right _ _
           generalize capN x = cc at KN HT2 hcx
           have wr1 : wrap64 ((m : Int) + (cc : Int)) = ((m + cc : Nat) : Int) := wrap_add (by omega)
           have wr2 : wrap64 ((j : Int) + 1) = ((j + 1 : Nat) : Int) := wrap_one (by omega)
           have HJn := Hd hin
           have hjj := hin.1
           clear hin ht hb hj hN htk
           go_wp2_with fail
           refine KN.out.mono ?_
           rintro e w2 ⟨rfl, hb2⟩
           have HB2 := Hd (HB5.out.trans hb2)
           clear hb2 KN e0 e1 e2 e3 e4 e5 y3 y4 y5 yv t1 t2 hm hcx hii hjj hll hlp hlf hlv
           go_wp2_with fail
           refine ⟨⟨m + cc, j + 1, HJn.out.1, (by first | rfl | rw [wr2]), (by first | rfl | rw [wr1]), HT2.out, HB2.out⟩, ?_⟩
           first | exact measI HJn.out.1 | exact measT HJn.out.1 | (rw [wr2]; exact measI HJn.out.1)
          ·by_cases hje : j < l.length
           ·have t1 : decide ((j : Int) < (l.length : Int)) = true := by simp; omega
            have t2 : (4096 : Int) < (m : Int) := by omega
            have HT5 := Hd (show Told m (S + cntL l) from by obtain ⟨x, hx⟩ := cntL_split l j; rw [hx, ← Nat.add_assoc]; exact ht.full (x := x) (by omega))
            clear hin ht hb hj hm
            go_wp2_with fail
            refine ⟨⟨m, i + 1, HIn.out.1, by first | rfl | (rw [HW3.out]) | (simp only [HW3.out]) | (simp), rfl, by rw [HTk.out, ← Nat.add_assoc, HS.out]; exact HT5.out, HB5.out⟩, ?_⟩
            first | exact measI HIn.out.1 | exact measT HIn.out.1 | (rw [HW3.out]; exact measI HIn.out.1)
           ·have t1 : decide ((j : Int) < (l.length : Int)) = false := by simp; omega
            have HT5 := Hd (show Told m (S + cntL l) from by have e : l.take j = l := List.take_of_length_le (by omega); rw [e] at ht; exact ht)
            clear hin ht hb hj hm
            go_wp2_with fail
            refine ⟨⟨m, i + 1, HIn.out.1, by first | rfl | (rw [HW3.out]) | (simp only [HW3.out]) | (simp), rfl, by rw [HTk.out, ← Nat.add_assoc, HS.out]; exact HT5.out, HB5.out⟩, ?_⟩
            first | exact measI HIn.out.1 | exact measT HIn.out.1 | (rw [HW3.out]; exact measI HIn.out.1)
        ·by_cases hie : i < vs.length
         ·have t1 : decide ((i : Int) < (vs.length : Int)) = true := by simp; omega
          have t2 : (4096 : Int) < (m : Int) := by omega
          have HT4 := Hd (show Told m (1 + cntL ps + cntF fs + cntV vs) from by obtain ⟨x, hx⟩ := cntV_split vs i; rw [hx, ← Nat.add_assoc]; exact ht.full (x := x) (by omega))
          clear hin ht hb hi hm
          go_wp2_with fail
          have hcap : min (m : Int) 4097 = ((capN (cntT (.mk k t n ps fs vs)) : Nat) : Int) := by
           have h1 := HT4.out.1
           rw [cntT_mk]
           unfold capN at h1 ⊢
           omega
          have HC9 := Hd hcap
          clear hcap
          go_wp2_with fail
          go_ret
          exact ⟨by rw [← HC9.out]; rfl, HB0.out.trans HB.out⟩
         ·have t1 : decide ((i : Int) < (vs.length : Int)) = false := by simp; omega
          have HT4 := Hd (show Told m (1 + cntL ps + cntF fs + cntV vs) from by have e : vs.take i = vs := List.take_of_length_le (by omega); rw [e] at ht; exact ht)
          clear hin ht hb hi hm
          go_wp2_with fail
          have hcap : min (m : Int) 4097 = ((capN (cntT (.mk k t n ps fs vs)) : Nat) : Int) := by
           have h1 := HT4.out.1
           rw [cntT_mk]
           unfold capN at h1 ⊢
           omega
          have HC9 := Hd hcap
          clear hcap
          go_wp2_with fail
          go_ret
          exact ⟨by rw [← HC9.out]; rfl, HB0.out.trans HB.out⟩
      ·have t1 : decide ((i : Int) < (fs.length : Int)) = false := by simp; omega
       have HT3 := Hd (show Told m (1 + cntL ps + cntF fs) from by have e : fs.take i = fs := List.take_of_length_le (by omega); rw [e] at ht; exact ht)
       clear hin ht hb hi hm
       go_wp2_with fail
       go_loopw [3, 6] (fun nv v wr => ∃ (m i : Nat), i ≤ vs.length ∧ v = .int .i64 i ∧ nv = .int .i64 m ∧ Told m (1 + cntL ps + cntF fs + cntV (vs.take i)) ∧ Gw w0 wr) (fun _ v _ => vs.length - (intOf v).toNat)
       case atStart => exact ⟨_, 0, by omega, rfl, rfl, by simpa [cntV] using HT3.out, HB.out⟩
       case round =>
        obtain ⟨m, i, hi, rfl, rfl, ht, hb⟩ := hrel
        have HT := Hd ht
        have HB := Hd hb
        obtain ⟨y3, y4, y5⟩ := HX.out _ hb
        have hm := ht.2
        by_cases hin : i < vs.length ∧ m ≤ 4096
        ·have t1 : decide ((i : Int) < (vs.length : Int)) = true := by simp; omega
         have t2 : decide ((m : Int) ≤ 4096) = true := by simp; omega
         obtain ⟨b, o, B, d, l, hA, htk, hcell, hL, hIl⟩ := nod_v HV.out HIv.out hin.1
         subst hA
         have hll := hL.short
         have HL := Hd hL
         have HIl := Hd hIl
         have HC := Hd hcell
         have HTk := Hd htk
         obtain ⟨S, hS⟩ : ∃ S, S = 1 + cntL ps + cntF fs + cntV (vs.take i) := ⟨_, rfl⟩
         have HS := Hd hS.symm
         rw [← hS] at ht
         have HTs := Hd ht
         have HIn := Hd hin
         have HW3 : Hid (wrap64 ((i : Int) + 1) = ((i + 1 : Nat) : Int)) := Hd (wrap_one (by omega))
         have hii := hin.1
         clear hin ht hb hi hcell hL hIl htk hS
         go_wp2_with fail
         clear t1 t2 y3 y4 y5 hm
         go_loopw [3, 7] (fun nv v wr => ∃ (m j : Nat), j ≤ l.length ∧ v = .int .i64 j ∧ nv = .int .i64 m ∧ Told m (S + cntL (l.take j)) ∧ Gw w0 wr) (fun _ v _ => l.length - (intOf v).toNat)
         case atStart => exact ⟨_, 0, by omega, rfl, rfl, by simpa [cntL] using HTs.out, HB.out⟩
         case round =>
          obtain ⟨m, j, hj, rfl, rfl, ht, hb⟩ := hrel
          have HB5 := Hd hb
          obtain ⟨y3, y4, y5⟩ := HX.out _ hb
          have yv := HC.out _ hb
          have hm := ht.2
          have hii := HIn.out.1
          by_cases hin : j < l.length ∧ m ≤ 4096
          ·have t1 : decide ((j : Int) < (l.length : Int)) = true := by simp; omega
           have t2 : decide ((m : Int) ≤ 4096) = true := by simp; omega
           obtain ⟨b4, o4, x, hA4, htk, q1, q2, q3, B1, l1, d1, B2, l2, d2, B3, l3, d3, e0, e1, e2, e3, e4, e5, hN⟩ := nod_p HL.out HIl.out hin.1 hb
           subst hA4
           have KN := Hd hN
           have HT2 := Hd (by rw [htk, ← Nat.add_assoc]; exact ht.more (x := x) hin.2 : Told (m + capN x) (S + cntL (l.take (j + 1))))
           have hcx : capN x ≤ 4097 := Nat.min_le_right _ _
           generalize capN x = cc at KN HT2 hcx
           have wr1 : wrap64 ((m : Int) + (cc : Int)) = ((m + cc : Nat) : Int) := wrap_add (by omega)
           have wr2 : wrap64 ((j : Int) + 1) = ((j + 1 : Nat) : Int) := wrap_one (by omega)
           have HJn := Hd hin
           have hjj := hin.1
           clear hin ht hb hj hN htk
           go_wp2_with fail
           refine KN.out.mono ?_
           rintro e w2 ⟨rfl, hb2⟩
           have HB2 := Hd (HB5.out.trans hb2)
           clear hb2 KN e0 e1 e2 e3 e4 e5 y3 y4 y5 yv t1 t2 hm hcx hii hjj hll hlp hlf hlv
           go_wp2_with fail
           refine ⟨⟨m + cc, j + 1, HJn.out.1, (by first | rfl | rw [wr2]), (by first | rfl | rw [wr1]), HT2.out, HB2.out⟩, ?_⟩
           first | exact measI HJn.out.1 | exact measT HJn.out.1 | (rw [wr2]; exact measI HJn.out.1)
          ·by_cases hje : j < l.length
           ·have t1 : decide ((j : Int) < (l.length : Int)) = true := by simp; omega
            have t2 : (4096 : Int) < (m : Int) := by omega
            have HT5 := Hd (show Told m (S + cntL l) from by obtain ⟨x, hx⟩ := cntL_split l j; rw [hx, ← Nat.add_assoc]; exact ht.full (x := x) (by omega))
            clear hin ht hb hj hm
            go_wp2_with fail
            refine ⟨⟨m, i + 1, HIn.out.1, by first | rfl | (rw [HW3.out]) | (simp only [HW3.out]) | (simp), rfl, by rw [HTk.out, ← Nat.add_assoc, HS.out]; exact HT5.out, HB5.out⟩, ?_⟩
            first | exact measI HIn.out.1 | exact measT HIn.out.1 | (rw [HW3.out]; exact measI HIn.out.1)
           ·have t1 : decide ((j : Int) < (l.length : Int)) = false := by simp; omega
            have HT5 := Hd (show Told m (S + cntL l) from by have e : l.take j = l := List.take_of_length_le (by omega); rw [e] at ht; exact ht)
            clear hin ht hb hj hm
            go_wp2_with fail
            refine ⟨⟨m, i + 1, HIn.out.1, by first | rfl | (rw [HW3.out]) | (simp only [HW3.out]) | (simp), rfl, by rw [HTk.out, ← Nat.add_assoc, HS.out]; exact HT5.out, HB5.out⟩, ?_⟩
            first | exact measI HIn.out.1 | exact measT HIn.out.1 | (rw [HW3.out]; exact measI HIn.out.1)
        ·by_cases hie : i < vs.length
         ·have t1 : decide ((i : Int) < (vs.length : Int)) = true := by simp; omega
          have t2 : (4096 : Int) < (m : Int) := by omega
          have HT4 := Hd (show Told m (1 + cntL ps + cntF fs + cntV vs) from by obtain ⟨x, hx⟩ := cntV_split vs i; rw [hx, ← Nat.add_assoc]; exact ht.full (x := x) (by omega))
          clear hin ht hb hi hm
          go_wp2_with fail
          have hcap : min (m : Int) 4097 = ((capN (cntT (.mk k t n ps fs vs)) : Nat) : Int) := by
           have h1 := HT4.out.1
           rw [cntT_mk]
           unfold capN at h1 ⊢
           omega
          have HC9 := Hd hcap
          clear hcap
          go_wp2_with fail
          go_ret
          exact ⟨by rw [← HC9.out]; rfl, HB0.out.trans HB.out⟩
         ·have t1 : decide ((i : Int) < (vs.length : Int)) = false := by simp; omega
          have HT4 := Hd (show Told m (1 + cntL ps + cntF fs + cntV vs) from by have e : vs.take i = vs := List.take_of_length_le (by omega); rw [e] at ht; exact ht)
          clear hin ht hb hi hm
          go_wp2_with fail
          have hcap : min (m : Int) 4097 = ((capN (cntT (.mk k t n ps fs vs)) : Nat) : Int) := by
           have h1 := HT4.out.1
           rw [cntT_mk]
           unfold capN at h1 ⊢
           omega
          have HC9 := Hd hcap
          clear hcap
          go_wp2_with fail
          go_ret
          exact ⟨by rw [← HC9.out]; rfl, HB0.out.trans HB.out⟩
   ·have t1 : decide ((i : Int) < (ps.length : Int)) = false := by simp; omega
    have HT2 := Hd (show Told m (1 + cntL ps) from by have e : ps.take i = ps := List.take_of_length_le (by omega); rw [e] at ht; exact ht)
    clear hin ht hb hi hm
    go_wp2_with fail
    go_loopw [3, 5] (fun nv v wr => ∃ (m i : Nat), i ≤ fs.length ∧ v = .int .i64 i ∧ nv = .int .i64 m ∧ Told m (1 + cntL ps + cntF (fs.take i)) ∧ Gw w0 wr) (fun _ v _ => fs.length - (intOf v).toNat)
    case atStart => exact ⟨_, 0, by omega, rfl, rfl, by simpa [cntF] using HT2.out, HB.out⟩
    case round =>
     obtain ⟨m, i, hi, rfl, rfl, ht, hb⟩ := hrel
     have HT := Hd ht
     have HB := Hd hb
     obtain ⟨y3, y4, y5⟩ := HX.out _ hb
     have hm := ht.2
     by_cases hin : i < fs.length ∧ m ≤ 4096
     ·have t1 : decide ((i : Int) < (fs.length : Int)) = true := by simp; omega
      have t2 : decide ((m : Int) ≤ 4096) = true := by simp; omega
      obtain ⟨b, o, x, hA, htk, q1, q2, q3, B1, l1, d1, B2, l2, d2, B3, l3, d3, e0, e1, e2, e3, e4, e5, hN⟩ := nod_f HF.out HIf.out hin.1 hb
      subst hA
      have KN := Hd hN
      have HT2 := Hd (by rw [htk, ← Nat.add_assoc]; exact ht.more (x := x) hin.2 : Told (m + capN x) (1 + cntL ps + cntF (fs.take (i + 1))))
      have hcx : capN x ≤ 4097 := Nat.min_le_right _ _
      generalize capN x = cc at KN HT2 hcx
      have wr1 : wrap64 ((m : Int) + (cc : Int)) = ((m + cc : Nat) : Int) := wrap_add (by omega)
      have wr2 : wrap64 ((i : Int) + 1) = ((i + 1 : Nat) : Int) := wrap_one (by omega)
      have HIn := Hd hin
      have hii := hin.1
      clear hin ht hb hi hN htk
      go_wp2_with fail
      refine KN.out.mono ?_
      rintro e w2 ⟨rfl, hb2⟩
      have HB2 := Hd (HB.out.trans hb2)
      clear hb2 KN
      go_wp2_with fail
      refine ⟨⟨m + cc, i + 1, HIn.out.1, rfl, rfl, HT2.out, HB2.out⟩, ?meas⟩
      case meas => exact measI HIn.out.1
     ·by_cases hie : i < fs.length
      ·have t1 : decide ((i : Int) < (fs.length : Int)) = true := by simp; omega
       have t2 : (4096 : Int) < (m : Int) := by omega
       have HT3 := Hd (show Told m (1 + cntL ps + cntF fs) from by obtain ⟨x, hx⟩ := cntF_split fs i; rw [hx, ← Nat.add_assoc]; exact ht.full (x := x) (by omega))
       clear hin ht hb hi hm
       go_wp2_with fail
       go_loopw [3, 6] (fun nv v wr => ∃ (m i : Nat), i ≤ vs.length ∧ v = .int .i64 i ∧ nv = .int .i64 m ∧ Told m (1 + cntL ps + cntF fs + cntV (vs.take i)) ∧ Gw w0 wr) (fun _ v _ => vs.length - (intOf v).toNat)
       case atStart => exact ⟨_, 0, by omega, rfl, rfl, by simpa [cntV] using HT3.out, HB.out⟩
       case round =>
        obtain ⟨m, i, hi, rfl, rfl, ht, hb⟩ := hrel
        have HT := Hd ht
        have HB := Hd hb
        obtain ⟨y3, y4, y5⟩ := HX.out _ hb
        have hm := ht.2
        by_cases hin : i < vs.length ∧ m ≤ 4096
        ·have t1 : decide ((i : Int) < (vs.length : Int)) = true := by simp; omega
         have t2 : decide ((m : Int) ≤ 4096) = true := by simp; omega
         obtain ⟨b, o, B, d, l, hA, htk, hcell, hL, hIl⟩ := nod_v HV.out HIv.out hin.1
         subst hA
         have hll := hL.short
         have HL := Hd hL
         have HIl := Hd hIl
         have HC := Hd hcell
         have HTk := Hd htk
         obtain ⟨S, hS⟩ : ∃ S, S = 1 + cntL ps + cntF fs + cntV (vs.take i) := ⟨_, rfl⟩
         have HS := Hd hS.symm
         rw [← hS] at ht
         have HTs := Hd ht
         have HIn := Hd hin
         have HW3 : Hid (wrap64 ((i : Int) + 1) = ((i + 1 : Nat) : Int)) := Hd (wrap_one (by omega))
         have hii := hin.1
         clear hin ht hb hi hcell hL hIl htk hS
         go_wp2_with fail
         clear t1 t2 y3 y4 y5 hm
         go_loopw [3, 7] (fun nv v wr => ∃ (m j : Nat), j ≤ l.length ∧ v = .int .i64 j ∧ nv = .int .i64 m ∧ Told m (S + cntL (l.take j)) ∧ Gw w0 wr) (fun _ v _ => l.length - (intOf v).toNat)
         case atStart => exact ⟨_, 0, by omega, rfl, rfl, by simpa [cntL] using HTs.out, HB.out⟩
         case round =>
          obtain ⟨m, j, hj, rfl, rfl, ht, hb⟩ := hrel
          have HB5 := Hd hb
          obtain ⟨y3, y4, y5⟩ := HX.out _ hb
          have yv := HC.out _ hb
          have hm := ht.2
          have hii := HIn.out.1
          by_cases hin : j < l.length ∧ m ≤ 4096
          ·have t1 : decide ((j : Int) < (l.length : Int)) = true := by simp; omega
           have t2 : decide ((m : Int) ≤ 4096) = true := by simp; omega
           obtain ⟨b4, o4, x, hA4, htk, q1, q2, q3, B1, l1, d1, B2, l2, d2, B3, l3, d3, e0, e1, e2, e3, e4, e5, hN⟩ := nod_p HL.out HIl.out hin.1 hb
           subst hA4
           have KN := Hd hN
           have HT2 := Hd (by rw [htk, ← Nat.add_assoc]; exact ht.more (x := x) hin.2 : Told (m + capN x) (S + cntL (l.take (j + 1))))
           have hcx : capN x ≤ 4097 := Nat.min_le_right _ _
           generalize capN x = cc at KN HT2 hcx
           have wr1 : wrap64 ((m : Int) + (cc : Int)) = ((m + cc : Nat) : Int) := wrap_add (by omega)
           have wr2 : wrap64 ((j : Int) + 1) = ((j + 1 : Nat) : Int) := wrap_one (by omega)
           have HJn := Hd hin
           have hjj := hin.1
           clear hin ht hb hj hN htk
           go_wp2_with fail
           refine KN.out.mono ?_
           rintro e w2 ⟨rfl, hb2⟩
           have HB2 := Hd (HB5.out.trans hb2)
           clear hb2 KN e0 e1 e2 e3 e4 e5 y3 y4 y5 yv t1 t2 hm hcx hii hjj hll hlp hlf hlv
           go_wp2_with fail
           refine ⟨⟨m + cc, j + 1, HJn.out.1, (by first | rfl | rw [wr2]), (by first | rfl | rw [wr1]), HT2.out, HB2.out⟩, ?_⟩
           first | exact measI HJn.out.1 | exact measT HJn.out.1 | (rw [wr2]; exact measI HJn.out.1)
          ·by_cases hje : j < l.length
           ·have t1 : decide ((j : Int) < (l.length : Int)) = true := by simp; omega
            have t2 : (4096 : Int) < (m : Int) := by omega
            have HT5 := Hd (show Told m (S + cntL l) from by obtain ⟨x, hx⟩ := cntL_split l j; rw [hx, ← Nat.add_assoc]; exact ht.full (x := x) (by omega))
            clear hin ht hb hj hm
            go_wp2_with fail
            refine ⟨⟨m, i + 1, HIn.out.1, by first | rfl | (rw [HW3.out]) | (simp only [HW3.out]) | (simp), rfl, by rw [HTk.out, ← Nat.add_assoc, HS.out]; exact HT5.out, HB5.out⟩, ?_⟩
            first | exact measI HIn.out.1 | exact measT HIn.out.1 | (rw [HW3.out]; exact measI HIn.out.1)
           ·have t1 : decide ((j : Int) < (l.length : Int)) = false := by simp; omega
            have HT5 := Hd (show Told m (S + cntL l) from by have e : l.take j = l := List.take_of_length_le (by omega); rw [e] at ht; exact ht)
            clear hin ht hb hj hm
            go_wp2_with fail
            refine ⟨⟨m, i + 1, HIn.out.1, by first | rfl | (rw [HW3.out]) | (simp only [HW3.out]) | (simp), rfl, by rw [HTk.out, ← Nat.add_assoc, HS.out]; exact HT5.out, HB5.out⟩, ?_⟩
            first | exact measI HIn.out.1 | exact measT HIn.out.1 | (rw [HW3.out]; exact measI HIn.out.1)
        ·by_cases hie : i < vs.length
         ·have t1 : decide ((i : Int) < (vs.length : Int)) = true := by simp; omega
          have t2 : (4096 : Int) < (m : Int) := by omega
          have HT4 := Hd (show Told m (1 + cntL ps + cntF fs + cntV vs) from by obtain ⟨x, hx⟩ := cntV_split vs i; rw [hx, ← Nat.add_assoc]; exact ht.full (x := x) (by omega))
          clear hin ht hb hi hm
          go_wp2_with fail
          have hcap : min (m : Int) 4097 = ((capN (cntT (.mk k t n ps fs vs)) : Nat) : Int) := by
           have h1 := HT4.out.1
           rw [cntT_mk]
           unfold capN at h1 ⊢
           omega
          have HC9 := Hd hcap
          clear hcap
          go_wp2_with fail
          go_ret
          exact ⟨by rw [← HC9.out]; rfl, HB0.out.trans HB.out⟩
         ·have t1 : decide ((i : Int) < (vs.length : Int)) = false := by simp; omega
          have HT4 := Hd (show Told m (1 + cntL ps + cntF fs + cntV vs) from by have e : vs.take i = vs := List.take_of_length_le (by omega); rw [e] at ht; exact ht)
          clear hin ht hb hi hm
          go_wp2_with fail
          have hcap : min (m : Int) 4097 = ((capN (cntT (.mk k t n ps fs vs)) : Nat) : Int) := by
           have h1 := HT4.out.1
           rw [cntT_mk]
           unfold capN at h1 ⊢
           omega
          have HC9 := Hd hcap
          clear hcap
          go_wp2_with fail
          go_ret
          exact ⟨by rw [← HC9.out]; rfl, HB0.out.trans HB.out⟩
      ·have t1 : decide ((i : Int) < (fs.length : Int)) = false := by simp; omega
       have HT3 := Hd (show Told m (1 + cntL ps + cntF fs) from by have e : fs.take i = fs := List.take_of_length_le (by omega); rw [e] at ht; exact ht)
       clear hin ht hb hi hm
       go_wp2_with fail
       go_loopw [3, 6] (fun nv v wr => ∃ (m i : Nat), i ≤ vs.length ∧ v = .int .i64 i ∧ nv = .int .i64 m ∧ Told m (1 + cntL ps + cntF fs + cntV (vs.take i)) ∧ Gw w0 wr) (fun _ v _ => vs.length - (intOf v).toNat)
       case atStart => exact ⟨_, 0, by omega, rfl, rfl, by simpa [cntV] using HT3.out, HB.out⟩
       case round =>
        obtain ⟨m, i, hi, rfl, rfl, ht, hb⟩ := hrel
        have HT := Hd ht
        have HB := Hd hb
        obtain ⟨y3, y4, y5⟩ := HX.out _ hb
        have hm := ht.2
        by_cases hin : i < vs.length ∧ m ≤ 4096
        ·have t1 : decide ((i : Int) < (vs.length : Int)) = true := by simp; omega
         have t2 : decide ((m : Int) ≤ 4096) = true := by simp; omega
         obtain ⟨b, o, B, d, l, hA, htk, hcell, hL, hIl⟩ := nod_v HV.out HIv.out hin.1
         subst hA
         have hll := hL.short
         have HL := Hd hL
         have HIl := Hd hIl
         have HC := Hd hcell
         have HTk := Hd htk
         obtain ⟨S, hS⟩ : ∃ S, S = 1 + cntL ps + cntF fs + cntV (vs.take i) := ⟨_, rfl⟩
         have HS := Hd hS.symm
         rw [← hS] at ht
         have HTs := Hd ht
         have HIn := Hd hin
         have HW3 : Hid (wrap64 ((i : Int) + 1) = ((i + 1 : Nat) : Int)) := Hd (wrap_one (by omega))
         have hii := hin.1
         clear hin ht hb hi hcell hL hIl htk hS
         go_wp2_with fail
         clear t1 t2 y3 y4 y5 hm
         go_loopw [3, 7] (fun nv v wr => ∃ (m j : Nat), j ≤ l.length ∧ v = .int .i64 j ∧ nv = .int .i64 m ∧ Told m (S + cntL (l.take j)) ∧ Gw w0 wr) (fun _ v _ => l.length - (intOf v).toNat)
         case atStart => exact ⟨_, 0, by omega, rfl, rfl, by simpa [cntL] using HTs.out, HB.out⟩
         case round =>
          obtain ⟨m, j, hj, rfl, rfl, ht, hb⟩ := hrel
          have HB5 := Hd hb
          obtain ⟨y3, y4, y5⟩ := HX.out _ hb
          have yv := HC.out _ hb
          have hm := ht.2
          have hii := HIn.out.1
          by_cases hin : j < l.length ∧ m ≤ 4096
          ·have t1 : decide ((j : Int) < (l.length : Int)) = true := by simp; omega
           have t2 : decide ((m : Int) ≤ 4096) = true := by simp; omega
           obtain ⟨b4, o4, x, hA4, htk, q1, q2, q3, B1, l1, d1, B2, l2, d2, B3, l3, d3, e0, e1, e2, e3, e4, e5, hN⟩ := nod_p HL.out HIl.out hin.1 hb
           subst hA4
           have KN := Hd hN
           have HT2 := Hd (by rw [htk, ← Nat.add_assoc]; exact ht.more (x := x) hin.2 : Told (m + capN x) (S + cntL (l.take (j + 1))))
           have hcx : capN x ≤ 4097 := Nat.min_le_right _ _
           generalize capN x = cc at KN HT2 hcx
           have wr1 : wrap64 ((m : Int) + (cc : Int)) = ((m + cc : Nat) : Int) := wrap_add (by omega)
           have wr2 : wrap64 ((j : Int) + 1) = ((j + 1 : Nat) : Int) := wrap_one (by omega)
           have HJn := Hd hin
           have hjj := hin.1
           clear hin ht hb hj hN htk
           go_wp2_with fail
           refine KN.out.mono ?_
           rintro e w2 ⟨rfl, hb2⟩
           have HB2 := Hd (HB5.out.trans hb2)
           clear hb2 KN e0 e1 e2 e3 e4 e5 y3 y4 y5 yv t1 t2 hm hcx hii hjj hll hlp hlf hlv
           go_wp2_with fail
           refine ⟨⟨m + cc, j + 1, HJn.out.1, (by first | rfl | rw [wr2]), (by first | rfl | rw [wr1]), HT2.out, HB2.out⟩, ?_⟩
           first | exact measI HJn.out.1 | exact measT HJn.out.1 | (rw [wr2]; exact measI HJn.out.1)
          ·by_cases hje : j < l.length
           ·have t1 : decide ((j : Int) < (l.length : Int)) = true := by simp; omega
            have t2 : (4096 : Int) < (m : Int) := by omega
            have HT5 := Hd (show Told m (S + cntL l) from by obtain ⟨x, hx⟩ := cntL_split l j; rw [hx, ← Nat.add_assoc]; exact ht.full (x := x) (by omega))
            clear hin ht hb hj hm
            go_wp2_with fail
            refine ⟨⟨m, i + 1, HIn.out.1, by first | rfl | (rw [HW3.out]) | (simp only [HW3.out]) | (simp), rfl, by rw [HTk.out, ← Nat.add_assoc, HS.out]; exact HT5.out, HB5.out⟩, ?_⟩
            first | exact measI HIn.out.1 | exact measT HIn.out.1 | (rw [HW3.out]; exact measI HIn.out.1)
           ·have t1 : decide ((j : Int) < (l.length : Int)) = false := by simp; omega
            have HT5 := Hd (show Told m (S + cntL l) from by have e : l.take j = l := List.take_of_length_le (by omega); rw [e] at ht; exact ht)
            clear hin ht hb hj hm
            go_wp2_with fail
            refine ⟨⟨m, i + 1, HIn.out.1, by first | rfl | (rw [HW3.out]) | (simp only [HW3.out]) | (simp), rfl, by rw [HTk.out, ← Nat.add_assoc, HS.out]; exact HT5.out, HB5.out⟩, ?_⟩
            first | exact measI HIn.out.1 | exact measT HIn.out.1 | (rw [HW3.out]; exact measI HIn.out.1)
        ·by_cases hie : i < vs.length
         ·have t1 : decide ((i : Int) < (vs.length : Int)) = true := by simp; omega
          have t2 : (4096 : Int) < (m : Int) := by omega
          have HT4 := Hd (show Told m (1 + cntL ps + cntF fs + cntV vs) from by obtain ⟨x, hx⟩ := cntV_split vs i; rw [hx, ← Nat.add_assoc]; exact ht.full (x := x) (by omega))
          clear hin ht hb hi hm
          go_wp2_with fail
          have hcap : min (m : Int) 4097 = ((capN (cntT (.mk k t n ps fs vs)) : Nat) : Int) := by
           have h1 := HT4.out.1
           rw [cntT_mk]
           unfold capN at h1 ⊢
           omega
          have HC9 := Hd hcap
          clear hcap
          go_wp2_with fail
          go_ret
          exact ⟨by rw [← HC9.out]; rfl, HB0.out.trans HB.out⟩
         ·have t1 : decide ((i : Int) < (vs.length : Int)) = false := by simp; omega
          have HT4 := Hd (show Told m (1 + cntL ps + cntF fs + cntV vs) from by have e : vs.take i = vs := List.take_of_length_le (by omega); rw [e] at ht; exact ht)
          clear hin ht hb hi hm
          go_wp2_with fail
          have hcap : min (m : Int) 4097 = ((capN (cntT (.mk k t n ps fs vs)) : Nat) : Int) := by
           have h1 := HT4.out.1
           rw [cntT_mk]
           unfold capN at h1 ⊢
           omega
          have HC9 := Hd hcap
          clear hcap
          go_wp2_with fail
          go_ret
          exact ⟨by rw [← HC9.out]; rfl, HB0.out.trans HB.out⟩
theorem nod_any (t : Ty) : NodP t := Ty.ind (C := NodP) (fun k t n ps fs vs hp hf hv => nod_step k t n ps fs vs hp hf hv) t
theorem pattern_any {k : Int} {w : World} {b o : Nat} (h : w.cell? ⟨b, o, none⟩ = some (.int .i64 k)) (i : Nat) : Calls Tryz.prog 138 #[.pointer (some ⟨b, o, none⟩), .int .i64 i] w fun e w' => e = .returned (.bool (k == 21 && i == 1)) ∧ w' = w := by
 by_cases hk : k = 21
 ·have te : (k == 21) = true := by simpa using hk
  have ti : ((i : Int) == 1) = (i == 1) := by rw [Bool.eq_iff_iff, beq_iff_eq, beq_iff_eq]; omega
  generalize (i == 1) = q at ti ⊢
  clear hk
  go_enter Tryz.func138, Tryz.ntmps138
  go_wp2_with fail
  go_ret
  exact ⟨by rw [te]; rfl, rfl⟩
 ·have te : (k == 21) = false := by simpa using hk
  clear hk
  go_enter Tryz.func138, Tryz.ntmps138
  go_wp2_with fail
  go_ret
  exact ⟨by rw [te]; rfl, rfl⟩
def InfP (t : Ty) : Prop := ∀ (K : Nat → Prop) (w : World) (b o : Nat), AtT K w t b o → Calls Tryz.prog 101 #[.pointer (some ⟨b, o, none⟩)] w fun e w' => e = .returned (.bool (infT t)) ∧ w' = w
theorem infPs_drop {k : Int} {ps : List Ty} {i : Nat} (h : i < ps.length) : infPs k i (ps.drop i) = ((!(k == 21 && i == 1) && infT ps[i]) || infPs k (i + 1) (ps.drop (i + 1))) := by
 rw [List.drop_eq_getElem_cons h, infPs]
theorem infFs_drop {fs : FsT} {i : Nat} (h : i < fs.length) : infFs (fs.drop i) = (infT fs[i].2.2 || infFs (fs.drop (i + 1))) := by
 rw [List.drop_eq_getElem_cons h, infFs, List.any_cons]; rfl
theorem inf_p {K : Nat → Prop} {ps : List Ty} {w : World} {A : Option Addr} {c i : Nat} (hP : ListT K w ps A c) (h : ∀ p ∈ ps, InfP p) (hi : i < ps.length) : ∃ b o, A = some ⟨b, o, none⟩ ∧ Calls Tryz.prog 101 #[.pointer (some ⟨b, o + i * 6, none⟩)] w fun e w' => e = .returned (.bool (infT ps[i])) ∧ w' = w := by
 obtain ⟨b, o, hA, _, hr⟩ := hP.at (by omega)
 exact ⟨b, o, hA, h _ (List.getElem_mem hi) K w b _ (hr i hi)⟩
theorem inf_f {K : Nat → Prop} {fs : FsT} {w : World} {A : Option Addr} {c i : Nat} (hP : ListF K w fs A c) (h : ∀ f ∈ fs, InfP f.2.2) (hi : i < fs.length) : ∃ b o, A = some ⟨b, o, none⟩ ∧ Calls Tryz.prog 101 #[.pointer (some ⟨b, o + i * 8 + 2, none⟩)] w fun e w' => e = .returned (.bool (infT fs[i].2.2)) ∧ w' = w := by
 obtain ⟨b, o, hA, _, hr⟩ := hP.at (by omega)
 exact ⟨b, o, hA, h _ (List.getElem_mem hi) K w b _ (hr i hi).2.2.2⟩
theorem ListF.shortF {K : Nat → Prop} {w : World} {l : FsT} {A : Option Addr} {c : Nat} (h : ListF K w l A c) : l.length ≤ 1000000000000000 := by
 obtain ⟨_, _, hr, _⟩ := h
 exact hr.big
theorem inf_step (k : Int) (t : ByteArray) (n : Int) (ps : List Ty) (fs : FsT) (vs : VsT) (hp : ∀ p ∈ ps, InfP p) (hf : ∀ f ∈ fs, InfP f.2.2) : InfP (.mk k t n ps fs vs) := by
 intro K w b o h
 obtain ⟨A, c, A2, c2, A3, c3, ⟨x0, x1, x2, x3, x4, x5⟩, -, hP, hF, -⟩ := h.six
 rw [infT_mk]
 have hlp := hP.short
 have hlf := hF.shortF
 have PT := Hd (pattern_any x0)
 have HP := Hd fun i hi => inf_p hP hp (i := i) hi
 have HF := Hd fun i hi => inf_f hF hf (i := i) hi
 clear h hP hF hp hf x1 x2 x5
 by_cases hk : k = 22
 ·have te : (k == 22) = true := by simpa using hk
  clear hk hlp hlf
  go_enter Tryz.func101, Tryz.ntmps101
  go_wp2_with fail
  go_ret
  exact ⟨by rw [te]; rfl, rfl⟩
 have te : (k == 22) = false := by simpa using hk
 have hte := Hd te
 clear hk
 go_enter Tryz.func101, Tryz.ntmps101
 go_wp2_with fail
 go_loopw [15] (fun v wr => ∃ (i : Nat), i ≤ ps.length ∧ v = .int .i64 i ∧ infPs k 0 ps = infPs k i (ps.drop i) ∧ wr = w) (fun v _ => ps.length - (intOf v).toNat)
 case atStart => exact ⟨0, by omega, rfl, by rw [List.drop_zero], rfl⟩
 case round =>
  obtain ⟨i, hi, rfl, he, rfl⟩ := hrel
  have HE := Hd he
  clear he
  by_cases hin : i < ps.length
  ·have t1 : decide ((i : Int) < (ps.length : Int)) = true := by simp; omega
   have wr2 : wrap64 ((i : Int) + 1) = ((i + 1 : Nat) : Int) := wrap_one (by omega)
   obtain ⟨pb, po, hA, hN⟩ := HP.out i hin
   have KN := Hd hN
   have HS := Hd (infPs_drop (k := k) hin)
   have PI := Hd (PT.out i)
   have HIn := Hd hin
   subst hA
   generalize hq : (k == 21 && i == 1) = q at PI HS
   generalize hr : infT ps[i] = r at KN HS
   clear hN hi hq hr
   go_wp2_with fail
   refine PI.out.mono ?_
   rintro e w2 ⟨rfl, rfl⟩
   cases q with
   | true =>
    go_wp2_with fail
    refine ⟨⟨i + 1, HIn.out, by first | rfl | rw [wr2], by rw [HE.out, HS.out]; rfl, by first | trivial | rfl⟩, ?_⟩
    first | exact measI HIn.out | exact measT HIn.out | (rw [wr2]; exact measI HIn.out)
   | false =>
    go_wp2_with fail
    refine KN.out.mono ?_
    rintro e w3 ⟨rfl, rfl⟩
    cases r with
    | true =>
     go_wp2_with fail
     go_ret
     exact ⟨by rw [HE.out, HS.out, hte.out]; rfl, rfl⟩
    | false =>
     go_wp2_with fail
     refine ⟨⟨i + 1, HIn.out, by first | rfl | rw [wr2], by rw [HE.out, HS.out]; rfl, by first | trivial | rfl⟩, ?_⟩
     first | exact measI HIn.out | exact measT HIn.out | (rw [wr2]; exact measI HIn.out)
  ·have t1 : decide ((i : Int) < (ps.length : Int)) = false := by simp; omega
   have HE1 : Hid (infPs k 0 ps = false) := Hd (by rw [HE.out, List.drop_eq_nil_of_le (by omega)]; rfl)
   clear hi
   go_wp2_with fail
   go_loopw [37] (fun v wx => ∃ (i : Nat), i ≤ fs.length ∧ v = .int .i64 i ∧ infFs fs = infFs (fs.drop i) ∧ wx = wr) (fun v _ => fs.length - (intOf v).toNat)
   case atStart => exact ⟨0, by omega, rfl, by rw [List.drop_zero], rfl⟩
   case round =>
    obtain ⟨i, hi, rfl, he, rfl⟩ := hrel
    have HE := Hd he
    clear he
    by_cases hin : i < fs.length
    ·have t1 : decide ((i : Int) < (fs.length : Int)) = true := by simp; omega
     have wr2 : wrap64 ((i : Int) + 1) = ((i + 1 : Nat) : Int) := wrap_one (by omega)
     obtain ⟨pb, po, hA, hN⟩ := HF.out i hin
     have KN := Hd hN
     have HS := Hd (infFs_drop hin)
     have HIn := Hd hin
     subst hA
     generalize hr : infT fs[i].2.2 = r at KN HS
     clear hN hi hr
     go_wp2_with fail
     refine KN.out.mono ?_
     rintro e w3 ⟨rfl, rfl⟩
     cases r with
     | true =>
      go_wp2_with fail
      go_ret
      exact ⟨by rw [HE.out, HS.out, hte.out, HE1.out]; rfl, rfl⟩
     | false =>
      go_wp2_with fail
      refine ⟨⟨i + 1, HIn.out, by first | rfl | rw [wr2], by rw [HE.out, HS.out]; rfl, by first | trivial | rfl⟩, ?_⟩
      first | exact measI HIn.out | exact measT HIn.out | (rw [wr2]; exact measI HIn.out)
    ·have t1 : decide ((i : Int) < (fs.length : Int)) = false := by simp; omega
     have HE2 : Hid (infFs fs = false) := Hd (by rw [HE.out, List.drop_eq_nil_of_le (by omega)]; rfl)
     clear hi
     go_wp2_with fail
     go_ret
     exact ⟨by rw [hte.out, HE1.out, HE2.out]; rfl, rfl⟩
theorem inf_any (t : Ty) : InfP t := Ty.ind (C := InfP) (fun k t n ps fs vs hp hf _ => inf_step k t n ps fs vs hp hf) t
end Go.Proofs.YtgjblmlibhppiaaGreatDoor
