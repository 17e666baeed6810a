import Derived.Test.YtgjblmlibhppiaaGreatDoorMy6
namespace Go.Proofs.YtgjblmlibhppiaaGreatDoor
set_option maxRecDepth 100000
set_option maxHeartbeats 64000000
open Go.RowKit
theorem RowAt.low {K : Nat → Prop} {w : World} {A : Option Addr} {l c b o : Nat} (h : RowAt K A l c b o) (hb : 0 < l → b < w.heap.size) : RowAt (fun b => b < w.heap.size) A l c b o := ⟨h.le, h.big, h.none, fun hl => ⟨(h.some hl).1, hb hl⟩⟩
theorem RepT.low {K : Nat → Prop} {w : World} (t : Ty) : ∀ cs, RepT K w t cs → RepT (fun b => b < w.heap.size) w t cs := by
 refine Ty.ind (C := fun t => ∀ cs, RepT K w t cs → RepT (fun b => b < w.heap.size) w t cs) ?_ t
 intro k t n ps fs vs ihp ihf ihv cs h
 obtain ⟨A, c, A', c', A'', c'', rfl, ht, ⟨pb, po, hA, hp⟩, ⟨fb, fo, hA', hf⟩, ⟨vb, vo, hA'', hv⟩⟩ := h.inv
 refine RepT.of ht ⟨pb, po, hA.low (fun hl => ?_), fun i h => ?_⟩ ⟨fb, fo, hA'.low (fun hl => World.block_lt_of_cell? _ _ (hf 0 hl).1), fun i h => ?_⟩ ⟨vb, vo, hA''.low (fun hl => ?_), fun i h => ?_⟩
 ·obtain ⟨cs, h1, h2⟩ := hp 0 hl
  have h6 := h2.six
  exact World.block_lt_of_cell? _ _ (h1 0 _ (List.getElem?_eq_getElem (by omega)))
 ·obtain ⟨cs, h1, h2⟩ := hp i h
  exact ⟨cs, h1, ihp _ (List.getElem_mem h) cs h2⟩
 ·obtain ⟨h1, h2, h3, cs, h4, h5⟩ := hf i h
  exact ⟨h1, h2, h3, cs, h4, ihf _ (List.getElem_mem h) cs h5⟩
 ·obtain ⟨B, d, h1, _⟩ := hv 0 hl
  exact World.block_lt_of_cell? _ _ h1
 ·obtain ⟨B, d, h1, h2, h3, ⟨b, o, h4, h5⟩⟩ := hv i h
  refine ⟨B, d, h1, h2, h3, ⟨b, o, h4.low (fun hl => ?_), fun j h' => ?_⟩⟩
  ·obtain ⟨cs, h6, h7⟩ := h5 0 hl
   have h8 := h7.six
   exact World.block_lt_of_cell? _ _ (h6 0 _ (List.getElem?_eq_getElem (by omega)))
  ·obtain ⟨cs, h6, h7⟩ := h5 j h'
   exact ⟨cs, h6, ihv _ (List.getElem_mem h) _ (List.getElem_mem h') cs h7⟩
theorem AtT.keepG {w w' : World} {t : Ty} {b o g : Nat} (h : AtT (fun x => x < g) w t b o) (hb : b < g) (hB : Below g w w') : AtT (fun x => x < g) w' t b o :=
 h.keep (fun _ h => h) (fun b _ _ hk hc => (World.cell?_of_block (hB.block b hk)).trans hc) (fun _ _ hc => (World.cell?_of_block (hB.block b hb)).trans hc)
def CntPost (w : World) (g L x : Nat) : Ending → World → Prop := fun e w' => e = .returned (.tuple #[]) ∧ w'.cell? ⟨g, 0, none⟩ = some (.int .i64 ((L - x : Nat) : Int)) ∧ w'.frozen? ⟨g, 0, none⟩ = false ∧ Below g w w'
def CntAt (w : World) (b o g x : Nat) : Prop := ∀ L : Nat, w.cell? ⟨g, 0, none⟩ = some (.int .i64 (L : Int)) → w.frozen? ⟨g, 0, none⟩ = false → L ≤ 4097 → Calls Tryz.prog 80 #[.pointer (some ⟨b, o, none⟩), .pointer (some ⟨g, 0, none⟩)] w (CntPost w g L x)
def CntP (t : Ty) : Prop := ∀ (w : World) (b o g : Nat), AtT (fun x => x < g) w t b o → b < g → CntAt w b o g (cntT t)
theorem cntL_drop {l : List Ty} {i : Nat} (h : i < l.length) : cntL (l.drop i) = cntT l[i] + cntL (l.drop (i + 1)) := by rw [List.drop_eq_getElem_cons h]; rfl
theorem cntF_drop {l : FsT} {i : Nat} (h : i < l.length) : cntF (l.drop i) = cntT l[i].2.2 + cntF (l.drop (i + 1)) := by rw [List.drop_eq_getElem_cons h]; rfl
theorem cntV_drop {l : VsT} {i : Nat} (h : i < l.length) : cntV (l.drop i) = cntL l[i].2 + cntV (l.drop (i + 1)) := by rw [List.drop_eq_getElem_cons h]; rfl
theorem cnt_p {ps : List Ty} {w wr : World} {A : Option Addr} {c i g : Nat} (hP : ListT (fun x => x < g) w ps A c) (h : ∀ p ∈ ps, CntP p) (hi : i < ps.length) (hB : Below g w wr) : ∃ b o x, A = some ⟨b, o, none⟩ ∧ cntL (ps.drop i) = x + cntL (ps.drop (i + 1)) ∧ CntAt wr b (o + i * 6) g x := by
 obtain ⟨b, o, hA, hb, hr⟩ := hP.at (by omega)
 exact ⟨b, o, _, hA, cntL_drop hi, h _ (List.getElem_mem hi) wr b _ g ((hr i hi).keepG hb hB) hb⟩
theorem cnt_f {fs : FsT} {w wr : World} {A : Option Addr} {c i g : Nat} (hP : ListF (fun x => x < g) w fs A c) (h : ∀ f ∈ fs, CntP f.2.2) (hi : i < fs.length) (hB : Below g w wr) : ∃ b o x, A = some ⟨b, o, none⟩ ∧ cntF (fs.drop i) = x + cntF (fs.drop (i + 1)) ∧ CntAt wr b (o + i * 8 + 2) g x := by
 obtain ⟨b, o, hA, hb, hr⟩ := hP.at (by omega)
 exact ⟨b, o, _, hA, cntF_drop hi, h _ (List.getElem_mem hi) wr b _ g ((hr i hi).2.2.2.keepG hb hB) hb⟩
theorem cnt_v {vs : VsT} {w : World} {A : Option Addr} {c i g : Nat} (hP : ListV (fun x => x < g) w vs A c) (h : ∀ v ∈ vs, ∀ b ∈ v.2, CntP b) (hi : i < vs.length) : ∃ b o B d, ∃ l : List Ty, A = some ⟨b, o, none⟩ ∧ cntV (vs.drop i) = cntL l + cntV (vs.drop (i + 1)) ∧ (∀ wr, Below g w wr → wr.cell? ⟨b, o + i * 2 + 1, none⟩ = some (.slice B l.length d)) ∧ ListT (fun x => x < g) w l B d ∧ (∀ p ∈ l, CntP p) := by
 obtain ⟨b, o, hA, hb, hr⟩ := hP.at (by omega)
 obtain ⟨B, d, _, h1, _, h2⟩ := hr i hi
 exact ⟨b, o, B, d, vs[i].2, hA, cntV_drop hi, fun wr hB => (World.cell?_of_block (hB.block b hb)).trans h1, h2, h _ (List.getElem_mem hi)⟩
theorem cnt_step (k : Int) (t : ByteArray) (n : Int) (ps : List Ty) (fs : FsT) (vs : VsT) (hp : ∀ p ∈ ps, CntP p) (hf : ∀ f ∈ fs, CntP f.2.2) (hv : ∀ v ∈ vs, ∀ b ∈ v.2, CntP b) : CntP (.mk k t n ps fs vs) := by
 intro w b o g ha hbg L hc hfz hL
 obtain ⟨A, c, A2, c2, A3, c3, ⟨-, -, -, x3, x4, x5⟩, -, hP, hF, hV⟩ := ha.six
 have HX : Hid (∀ wx, Below g w wx → wx.cell? ⟨b, o + 3, none⟩ = some (.slice A ps.length c) ∧ wx.cell? ⟨b, o + 4, none⟩ = some (.slice A2 fs.length c2) ∧ wx.cell? ⟨b, o + 5, none⟩ = some (.slice A3 vs.length c3)) := Hd fun wx hB => ⟨(World.cell?_of_block (hB.block b hbg)).trans x3, (World.cell?_of_block (hB.block b hbg)).trans x4, (World.cell?_of_block (hB.block b hbg)).trans x5⟩
 have HP := Hd hP
 have HF := Hd hF
 have HV := Hd hV
 have HIp := Hd hp
 have HIf := Hd hf
 have HIv := Hd hv
 have hlp := hP.short
 have hlf := hF.shortF
 have hlv : vs.length ≤ 1000000000000000 := by obtain ⟨_, _, hr, _⟩ := hV; exact hr.big
 clear ha hP hF hV hp hf hv
 rw [cntT_mk]
 by_cases h0 : L = 0
 ·subst h0
  go_enter Tryz.func80, Tryz.ntmps80
  go_wp2_with fail
  refine bodyPost_ret (v := .tuple #[]) (by simp [results, Tryz.results80, go_sem]) rfl ?_
  exact ⟨rfl, by rw [hc]; simp, hfz, Below.refl _ _⟩
 have t0 : (((L : Nat) : Int) == 0) = false := beq_eq_false_iff_ne.2 (by omega)
 have HL : Hid (L ≤ 4097) := Hd hL
 have HL0 : Hid (L ≠ 0) := Hd h0
 have HG := Hd hbg
 have wr0 : wrap64 ((L : Int) - 1) = ((L - 1 : Nat) : Int) := by rw [wrap_in (by omega) (by omega)]; omega
 have hB1 : ∀ v, Below g w (w.setCell ⟨g, 0, none⟩ v) := fun v => (Below.refl g w).setCell (p := (⟨g, 0, none⟩ : Addr)) (Nat.le_refl g) v
 have HB1 := Hd hB1
 have HC1 : Hid ((w.setCell ⟨g, 0, none⟩ (.int .i64 ((L - 1 : Nat) : Int))).cell? ⟨g, 0, none⟩ = some (.int .i64 ((L - 1 : Nat) : Int)) ∧ (w.setCell ⟨g, 0, none⟩ (.int .i64 ((L - 1 : Nat) : Int))).frozen? ⟨g, 0, none⟩ = false) := Hd ⟨World.cell?_setCell_same _ _ _ hc, by rw [World.frozen?_setCell, hfz]⟩
 clear hL h0 hbg hB1
 go_enter Tryz.func80, Tryz.ntmps80
 go_wp2_with fail
 clear x3 x4 x5 t0 wr0 hc hfz
 go_loopw [4] (fun v wr => ∃ (i x1 : Nat), i ≤ ps.length ∧ v = .int .i64 i ∧ x1 ≤ 4097 ∧ x1 - cntL (ps.drop i) = (L - 1) - cntL ps ∧ wr.cell? ⟨g, 0, none⟩ = some (.int .i64 (x1 : Int)) ∧ wr.frozen? ⟨g, 0, none⟩ = false ∧ Below g w wr) (fun v _ => ps.length - (intOf v).toNat)
 case atStart => exact ⟨0, L - 1, by omega, by first | rfl | simp, by have := HL.out; omega, by rw [List.drop_zero], HC1.out.1, HC1.out.2, HB1.out _⟩
 case round =>
  obtain ⟨i, x1, hi, rfl, hx, hs, hcx, hfx, hB⟩ := hrel
  have HS := Hd hs
  have HB := Hd hB
  obtain ⟨y3, y4, y5⟩ := HX.out _ hB
  by_cases hin : i < ps.length ∧ 0 < x1
  ·have t1 : decide ((i : Int) < (ps.length : Int)) = true := by simp; omega
   have t2 : 0 < x1 := by omega
   have HIn := Hd hin
   obtain ⟨pb, po, q, hA, htk, hN⟩ := cnt_p HP.out HIp.out hin.1 HB.out
   subst hA
   have KN := Hd (hN x1 hcx hfx hx)
   have HT := Hd (by rw [htk] at hs; omega : x1 - q - cntL (ps.drop (i + 1)) = (L - 1) - cntL ps)
   have hq : x1 - q ≤ 4097 := by omega
   have wr2 : wrap64 ((i : Int) + 1) = ((i + 1 : Nat) : Int) := wrap_one (by omega)
   have hii := hin.1
   clear hin hi hs hB hN htk
   go_wp2_with fail
   refine KN.out.mono ?_
   rintro e w2 ⟨rfl, hc2, hf2, hb2⟩
   have HC2 := Hd (And.intro hc2 hf2)
   have HB2 := Hd (HB.out.trans hb2)
   clear hb2 KN hc2 hf2 hcx hfx y3 y4 y5
   go_wp2_with fail
   refine ⟨⟨i + 1, x1 - q, HIn.out.1, by first | rfl | rw [wr2], hq, HT.out, HC2.out.1, HC2.out.2, HB2.out⟩, ?_⟩
   first | exact measI HIn.out.1 | (rw [wr2]; exact measI HIn.out.1)
  ·by_cases hie : i < ps.length
   ·have t1 : decide ((i : Int) < (ps.length : Int)) = true := by simp; omega
    have t2 : x1 = 0 := by omega
    have HE1 : Hid (x1 = (L - 1) - cntL ps) := Hd (by have h := HS.out; omega)
    clear hin hi hs hB
    go_wp2_with fail
    clear t2
    have HC1 := Hd (And.intro hcx hfx)
    have HBa := HB
    have hx1 := hx
    clear hcx hfx y3 y4 y5 HB HS t1 hx
    go_loopw [5] (fun v wr => ∃ (i x2 : Nat), i ≤ fs.length ∧ v = .int .i64 i ∧ x2 ≤ 4097 ∧ x2 - cntF (fs.drop i) = x1 - cntF fs ∧ wr.cell? ⟨g, 0, none⟩ = some (.int .i64 (x2 : Int)) ∧ wr.frozen? ⟨g, 0, none⟩ = false ∧ Below g w wr) (fun v _ => fs.length - (intOf v).toNat)
    case atStart => exact ⟨0, x1, by omega, rfl, hx1, by rw [List.drop_zero], HC1.out.1, HC1.out.2, HBa.out⟩
    case round =>
     obtain ⟨i, x2, hi, rfl, hx, hs, hcx, hfx, hB⟩ := hrel
     have HS := Hd hs
     have HB := Hd hB
     obtain ⟨y3, y4, y5⟩ := HX.out _ hB
     by_cases hin : i < fs.length ∧ 0 < x2
     ·have t1 : decide ((i : Int) < (fs.length : Int)) = true := by simp; omega
      have t2 : 0 < x2 := by omega
      have HIn := Hd hin
      obtain ⟨pb, po, q, hA, htk, hN⟩ := cnt_f HF.out HIf.out hin.1 HB.out
      subst hA
      have KN := Hd (hN x2 hcx hfx hx)
      have HT := Hd (by rw [htk] at hs; omega : x2 - q - cntF (fs.drop (i + 1)) = x1 - cntF fs)
      have hq : x2 - q ≤ 4097 := by omega
      have wr2 : wrap64 ((i : Int) + 1) = ((i + 1 : Nat) : Int) := wrap_one (by omega)
      have hii := hin.1
      clear hin hi hs hB hN htk
      go_wp2_with fail
      refine KN.out.mono ?_
      rintro e w2 ⟨rfl, hc2, hf2, hb2⟩
      have HC2 := Hd (And.intro hc2 hf2)
      have HB2 := Hd (HB.out.trans hb2)
      clear hb2 KN hc2 hf2 hcx hfx y3 y4 y5
      go_wp2_with fail
      refine ⟨⟨i + 1, x2 - q, HIn.out.1, by first | rfl | rw [wr2], hq, HT.out, HC2.out.1, HC2.out.2, HB2.out⟩, ?_⟩
      first | exact measI HIn.out.1 | (rw [wr2]; exact measI HIn.out.1)
     ·by_cases hie : i < fs.length
      ·have t1 : decide ((i : Int) < (fs.length : Int)) = true := by simp; omega
       have t2 : x2 = 0 := by omega
       have HE2 : Hid (x2 = x1 - cntF fs) := Hd (by have h := HS.out; omega)
       clear hin hi hs hB
       go_wp2_with fail
       clear t2
       have HC2 := Hd (And.intro hcx hfx)
       have HBb := HB
       have hx2 := hx
       clear hcx hfx y3 y4 y5 HB HS t1 hx
       go_loopw [6] (fun v wr => ∃ (i x : Nat), i ≤ vs.length ∧ v = .int .i64 i ∧ x ≤ 4097 ∧ x - cntV (vs.drop i) = x2 - cntV vs ∧ wr.cell? ⟨g, 0, none⟩ = some (.int .i64 (x : Int)) ∧ wr.frozen? ⟨g, 0, none⟩ = false ∧ Below g w wr) (fun v _ => vs.length - (intOf v).toNat)
       case atStart => exact ⟨0, x2, by omega, rfl, hx2, by rw [List.drop_zero], HC2.out.1, HC2.out.2, HBb.out⟩
       case round =>
        obtain ⟨i, x, hi, rfl, hx, hs, hcx, hfx, hB⟩ := hrel
        have HS := Hd hs
        have HB := Hd hB
        obtain ⟨y3, y4, y5⟩ := HX.out _ hB
        by_cases hin : i < vs.length ∧ 0 < x
        ·have t1 : decide ((i : Int) < (vs.length : Int)) = true := by simp; omega
         have t2 : 0 < x := by omega
         have HIn := Hd hin
         obtain ⟨vb, vo, B, d, l, hA, htk, hcell, hL2, hI2⟩ := cnt_v HV.out HIv.out hin.1
         subst hA
         have HTk := Hd htk
         have HZ := Hd hcell
         have HL2 := Hd hL2
         have HI2 := Hd hI2
         have hll := hL2.short
         have HIn3 := HIn
         have HS3 := HS
         have wr3 : wrap64 ((i : Int) + 1) = ((i + 1 : Nat) : Int) := wrap_one (by omega)
         have hii : i < vs.length := hin.1
         have HC3 := Hd (And.intro hcx hfx)
         have hx3 := hx
         have z5 := hcell _ hB
         have HB3 := HB
         clear hin hi hs hB htk hcell hL2 hI2 HIn HS HB
         go_wp2_with fail
         clear t1 t2 hcx hfx y3 y4 y5 z5 hx
         generalize hxo : x = xo at HC3 hx3 HS3
         clear hxo
         go_loopw [7] (fun v wx => ∃ (j x : Nat), j ≤ l.length ∧ v = .int .i64 j ∧ x ≤ 4097 ∧ x - cntL (l.drop j) = xo - cntL l ∧ wx.cell? ⟨g, 0, none⟩ = some (.int .i64 (x : Int)) ∧ wx.frozen? ⟨g, 0, none⟩ = false ∧ Below g w wx) (fun v _ => l.length - (intOf v).toNat)
         case atStart => exact ⟨0, xo, by omega, rfl, hx3, by rw [List.drop_zero], HC3.out.1, HC3.out.2, HB3.out⟩
         case round =>
          obtain ⟨j, x, hj, rfl, hx, hs, hcx, hfx, hB⟩ := hrel
          have HS := Hd hs
          have HB := Hd hB
          obtain ⟨y3, y4, y5⟩ := HX.out _ hB
          have z5 := HZ.out _ hB
          by_cases hin : j < l.length ∧ 0 < x
          ·have t1 : decide ((j : Int) < (l.length : Int)) = true := by simp; omega
           have t2 : 0 < x := by omega
           have HIn := Hd hin
           obtain ⟨pb, po, q, hA, htk, hN⟩ := cnt_p HL2.out HI2.out hin.1 HB.out
           subst hA
           have KN := Hd (hN x hcx hfx hx)
           have HT := Hd (by rw [htk] at hs; omega : x - q - cntL (l.drop (j + 1)) = xo - cntL l)
           have hq : x - q ≤ 4097 := by omega
           have wr2 : wrap64 ((j : Int) + 1) = ((j + 1 : Nat) : Int) := wrap_one (by omega)
           have hjj := hin.1
           clear hin hj hs hB hN htk
           go_wp2_with fail
           refine KN.out.mono ?_
           rintro e w2 ⟨rfl, hc2, hf2, hb2⟩
           have HC2 := Hd (And.intro hc2 hf2)
           have HB2 := Hd (HB.out.trans hb2)
           clear hb2 KN hc2 hf2 hcx hfx y3 y4 y5 z5
           go_wp2_with fail
           refine ⟨⟨j + 1, x - q, HIn.out.1, by first | rfl | rw [wr2], hq, HT.out, HC2.out.1, HC2.out.2, HB2.out⟩, ?_⟩
           first | exact measI HIn.out.1 | (rw [wr2]; exact measI HIn.out.1)
          ·by_cases hje : j < l.length
           ·have t1 : decide ((j : Int) < (l.length : Int)) = true := by simp; omega
            have t2 : x = 0 := by omega
            have HE4 : Hid (x = xo - cntL l) := Hd (by have h := HS.out; omega)
            clear hin hj hs hB
            go_wp2_with fail
            refine ⟨⟨i + 1, x, HIn3.out.1, by first | rfl | rw [wr3], hx, by have h1 := HE4.out; have h2 := HS3.out; rw [HTk.out] at h2; omega, hcx, hfx, HB.out⟩, ?_⟩
            first | exact measI HIn3.out.1 | (rw [wr3]; exact measI HIn3.out.1)
           ·have t1 : decide ((j : Int) < (l.length : Int)) = false := by simp; omega
            have HE4 : Hid (x = xo - cntL l) := Hd (by have h := HS.out; rw [List.drop_eq_nil_of_le (by omega)] at h; simpa [cntL] using h)
            clear hin hj hs hB
            go_wp2_with fail
            refine ⟨⟨i + 1, x, HIn3.out.1, by first | rfl | rw [wr3], hx, by have h1 := HE4.out; have h2 := HS3.out; rw [HTk.out] at h2; omega, hcx, hfx, HB.out⟩, ?_⟩
            first | exact measI HIn3.out.1 | (rw [wr3]; exact measI HIn3.out.1)
        ·by_cases hie : i < vs.length
         ·have t1 : decide ((i : Int) < (vs.length : Int)) = true := by simp; omega
          have t2 : x = 0 := by omega
          have HE3 : Hid (x = x2 - cntV vs) := Hd (by have h := HS.out; omega)
          clear hin hi hs hB
          go_wp2_with fail
          clear t2
          refine bodyPost_ret (v := .tuple #[]) (by simp [results, Tryz.results80, go_sem]) rfl ?_
          exact ⟨rfl, by rw [hcx]; have h1 := HE1.out; have h2 := HE2.out; have h3 := HE3.out; congr 3; omega, hfx, HB.out⟩
         ·have t1 : decide ((i : Int) < (vs.length : Int)) = false := by simp; omega
          have HE3 : Hid (x = x2 - cntV vs) := Hd (by have h := HS.out; rw [List.drop_eq_nil_of_le (by omega)] at h; simpa [cntV] using h)
          clear hin hi hs hB
          go_wp2_with fail
          refine bodyPost_ret (v := .tuple #[]) (by simp [results, Tryz.results80, go_sem]) rfl ?_
          exact ⟨rfl, by rw [hcx]; have h1 := HE1.out; have h2 := HE2.out; have h3 := HE3.out; congr 3; omega, hfx, HB.out⟩
      ·have t1 : decide ((i : Int) < (fs.length : Int)) = false := by simp; omega
       have HE2 : Hid (x2 = x1 - cntF fs) := Hd (by have h := HS.out; rw [List.drop_eq_nil_of_le (by omega)] at h; simpa [cntF] using h)
       clear hin hi hs hB
       go_wp2_with fail
       have HC2 := Hd (And.intro hcx hfx)
       have HBb := HB
       have hx2 := hx
       clear hcx hfx y3 y4 y5 HB HS t1 hx
       go_loopw [6] (fun v wr => ∃ (i x : Nat), i ≤ vs.length ∧ v = .int .i64 i ∧ x ≤ 4097 ∧ x - cntV (vs.drop i) = x2 - cntV vs ∧ wr.cell? ⟨g, 0, none⟩ = some (.int .i64 (x : Int)) ∧ wr.frozen? ⟨g, 0, none⟩ = false ∧ Below g w wr) (fun v _ => vs.length - (intOf v).toNat)
       case atStart => exact ⟨0, x2, by omega, rfl, hx2, by rw [List.drop_zero], HC2.out.1, HC2.out.2, HBb.out⟩
       case round =>
        obtain ⟨i, x, hi, rfl, hx, hs, hcx, hfx, hB⟩ := hrel
        have HS := Hd hs
        have HB := Hd hB
        obtain ⟨y3, y4, y5⟩ := HX.out _ hB
        by_cases hin : i < vs.length ∧ 0 < x
        ·have t1 : decide ((i : Int) < (vs.length : Int)) = true := by simp; omega
         have t2 : 0 < x := by omega
         have HIn := Hd hin
         obtain ⟨vb, vo, B, d, l, hA, htk, hcell, hL2, hI2⟩ := cnt_v HV.out HIv.out hin.1
         subst hA
         have HTk := Hd htk
         have HZ := Hd hcell
         have HL2 := Hd hL2
         have HI2 := Hd hI2
         have hll := hL2.short
         have HIn3 := HIn
         have HS3 := HS
         have wr3 : wrap64 ((i : Int) + 1) = ((i + 1 : Nat) : Int) := wrap_one (by omega)
         have hii : i < vs.length := hin.1
         have HC3 := Hd (And.intro hcx hfx)
         have hx3 := hx
         have z5 := hcell _ hB
         have HB3 := HB
         clear hin hi hs hB htk hcell hL2 hI2 HIn HS HB
         go_wp2_with fail
         clear t1 t2 hcx hfx y3 y4 y5 z5 hx
         generalize hxo : x = xo at HC3 hx3 HS3
         clear hxo
         go_loopw [7] (fun v wx => ∃ (j x : Nat), j ≤ l.length ∧ v = .int .i64 j ∧ x ≤ 4097 ∧ x - cntL (l.drop j) = xo - cntL l ∧ wx.cell? ⟨g, 0, none⟩ = some (.int .i64 (x : Int)) ∧ wx.frozen? ⟨g, 0, none⟩ = false ∧ Below g w wx) (fun v _ => l.length - (intOf v).toNat)
         case atStart => exact ⟨0, xo, by omega, rfl, hx3, by rw [List.drop_zero], HC3.out.1, HC3.out.2, HB3.out⟩
         case round =>
          obtain ⟨j, x, hj, rfl, hx, hs, hcx, hfx, hB⟩ := hrel
          have HS := Hd hs
          have HB := Hd hB
          obtain ⟨y3, y4, y5⟩ := HX.out _ hB
          have z5 := HZ.out _ hB
          by_cases hin : j < l.length ∧ 0 < x
          ·have t1 : decide ((j : Int) < (l.length : Int)) = true := by simp; omega
           have t2 : 0 < x := by omega
           have HIn := Hd hin
           obtain ⟨pb, po, q, hA, htk, hN⟩ := cnt_p HL2.out HI2.out hin.1 HB.out
           subst hA
           have KN := Hd (hN x hcx hfx hx)
           have HT := Hd (by rw [htk] at hs; omega : x - q - cntL (l.drop (j + 1)) = xo - cntL l)
           have hq : x - q ≤ 4097 := by omega
           have wr2 : wrap64 ((j : Int) + 1) = ((j + 1 : Nat) : Int) := wrap_one (by omega)
           have hjj := hin.1
           clear hin hj hs hB hN htk
           go_wp2_with fail
           refine KN.out.mono ?_
           rintro e w2 ⟨rfl, hc2, hf2, hb2⟩
           have HC2 := Hd (And.intro hc2 hf2)
           have HB2 := Hd (HB.out.trans hb2)
           clear hb2 KN hc2 hf2 hcx hfx y3 y4 y5 z5
           go_wp2_with fail
           refine ⟨⟨j + 1, x - q, HIn.out.1, by first | rfl | rw [wr2], hq, HT.out, HC2.out.1, HC2.out.2, HB2.out⟩, ?_⟩
           first | exact measI HIn.out.1 | (rw [wr2]; exact measI HIn.out.1)
          ·by_cases hje : j < l.length
           ·have t1 : decide ((j : Int) < (l.length : Int)) = true := by simp; omega
            have t2 : x = 0 := by omega
            have HE4 : Hid (x = xo - cntL l) := Hd (by have h := HS.out; omega)
            clear hin hj hs hB
            go_wp2_with fail
            refine ⟨⟨i + 1, x, HIn3.out.1, by first | rfl | rw [wr3], hx, by have h1 := HE4.out; have h2 := HS3.out; rw [HTk.out] at h2; omega, hcx, hfx, HB.out⟩, ?_⟩
            first | exact measI HIn3.out.1 | (rw [wr3]; exact measI HIn3.out.1)
           ·have t1 : decide ((j : Int) < (l.length : Int)) = false := by simp; omega
            have HE4 : Hid (x = xo - cntL l) := Hd (by have h := HS.out; rw [List.drop_eq_nil_of_le (by omega)] at h; simpa [cntL] using h)
            clear hin hj hs hB
            go_wp2_with fail
            refine ⟨⟨i + 1, x, HIn3.out.1, by first | rfl | rw [wr3], hx, by have h1 := HE4.out; have h2 := HS3.out; rw [HTk.out] at h2; omega, hcx, hfx, HB.out⟩, ?_⟩
            first | exact measI HIn3.out.1 | (rw [wr3]; exact measI HIn3.out.1)
        ·by_cases hie : i < vs.length
         ·have t1 : decide ((i : Int) < (vs.length : Int)) = true := by simp; omega
          have t2 : x = 0 := by omega
          have HE3 : Hid (x = x2 - cntV vs) := Hd (by have h := HS.out; omega)
          clear hin hi hs hB
          go_wp2_with fail
          clear t2
          refine bodyPost_ret (v := .tuple #[]) (by simp [results, Tryz.results80, go_sem]) rfl ?_
          exact ⟨rfl, by rw [hcx]; have h1 := HE1.out; have h2 := HE2.out; have h3 := HE3.out; congr 3; omega, hfx, HB.out⟩
         ·have t1 : decide ((i : Int) < (vs.length : Int)) = false := by simp; omega
          have HE3 : Hid (x = x2 - cntV vs) := Hd (by have h := HS.out; rw [List.drop_eq_nil_of_le (by omega)] at h; simpa [cntV] using h)
          clear hin hi hs hB
          go_wp2_with fail
          refine bodyPost_ret (v := .tuple #[]) (by simp [results, Tryz.results80, go_sem]) rfl ?_
          exact ⟨rfl, by rw [hcx]; have h1 := HE1.out; have h2 := HE2.out; have h3 := HE3.out; congr 3; omega, hfx, HB.out⟩
   ·have t1 : decide ((i : Int) < (ps.length : Int)) = false := by simp; omega
    have HE1 : Hid (x1 = (L - 1) - cntL ps) := Hd (by have h := HS.out; rw [List.drop_eq_nil_of_le (by omega)] at h; simpa [cntL] using h)
    clear hin hi hs hB
    go_wp2_with fail
    have HC1 := Hd (And.intro hcx hfx)
    have HBa := HB
    have hx1 := hx
    clear hcx hfx y3 y4 y5 HB HS t1 hx
    go_loopw [5] (fun v wr => ∃ (i x2 : Nat), i ≤ fs.length ∧ v = .int .i64 i ∧ x2 ≤ 4097 ∧ x2 - cntF (fs.drop i) = x1 - cntF fs ∧ wr.cell? ⟨g, 0, none⟩ = some (.int .i64 (x2 : Int)) ∧ wr.frozen? ⟨g, 0, none⟩ = false ∧ Below g w wr) (fun v _ => fs.length - (intOf v).toNat)
    case atStart => exact ⟨0, x1, by omega, rfl, hx1, by rw [List.drop_zero], HC1.out.1, HC1.out.2, HBa.out⟩
    case round =>
     obtain ⟨i, x2, hi, rfl, hx, hs, hcx, hfx, hB⟩ := hrel
     have HS := Hd hs
     have HB := Hd hB
     obtain ⟨y3, y4, y5⟩ := HX.out _ hB
     by_cases hin : i < fs.length ∧ 0 < x2
     ·have t1 : decide ((i : Int) < (fs.length : Int)) = true := by simp; omega
      have t2 : 0 < x2 := by omega
      have HIn := Hd hin
      obtain ⟨pb, po, q, hA, htk, hN⟩ := cnt_f HF.out HIf.out hin.1 HB.out
      subst hA
      have KN := Hd (hN x2 hcx hfx hx)
      have HT := Hd (by rw [htk] at hs; omega : x2 - q - cntF (fs.drop (i + 1)) = x1 - cntF fs)
      have hq : x2 - q ≤ 4097 := by omega
      have wr2 : wrap64 ((i : Int) + 1) = ((i + 1 : Nat) : Int) := wrap_one (by omega)
      have hii := hin.1
      clear hin hi hs hB hN htk
      go_wp2_with fail
      refine KN.out.mono ?_
      rintro e w2 ⟨rfl, hc2, hf2, hb2⟩
      have HC2 := Hd (And.intro hc2 hf2)
      have HB2 := Hd (HB.out.trans hb2)
      clear hb2 KN hc2 hf2 hcx hfx y3 y4 y5
      go_wp2_with fail
      refine ⟨⟨i + 1, x2 - q, HIn.out.1, by first | rfl | rw [wr2], hq, HT.out, HC2.out.1, HC2.out.2, HB2.out⟩, ?_⟩
      first | exact measI HIn.out.1 | (rw [wr2]; exact measI HIn.out.1)
     ·by_cases hie : i < fs.length
      ·have t1 : decide ((i : Int) < (fs.length : Int)) = true := by simp; omega
       have t2 : x2 = 0 := by omega
       have HE2 : Hid (x2 = x1 - cntF fs) := Hd (by have h := HS.out; omega)
       clear hin hi hs hB
       go_wp2_with fail
       clear t2
       have HC2 := Hd (And.intro hcx hfx)
       have HBb := HB
       have hx2 := hx
       clear hcx hfx y3 y4 y5 HB HS t1 hx
       go_loopw [6] (fun v wr => ∃ (i x : Nat), i ≤ vs.length ∧ v = .int .i64 i ∧ x ≤ 4097 ∧ x - cntV (vs.drop i) = x2 - cntV vs ∧ wr.cell? ⟨g, 0, none⟩ = some (.int .i64 (x : Int)) ∧ wr.frozen? ⟨g, 0, none⟩ = false ∧ Below g w wr) (fun v _ => vs.length - (intOf v).toNat)
       case atStart => exact ⟨0, x2, by omega, rfl, hx2, by rw [List.drop_zero], HC2.out.1, HC2.out.2, HBb.out⟩
       case round =>
        obtain ⟨i, x, hi, rfl, hx, hs, hcx, hfx, hB⟩ := hrel
        have HS := Hd hs
        have HB := Hd hB
        obtain ⟨y3, y4, y5⟩ := HX.out _ hB
        by_cases hin : i < vs.length ∧ 0 < x
        ·have t1 : decide ((i : Int) < (vs.length : Int)) = true := by simp; omega
         have t2 : 0 < x := by omega
         have HIn := Hd hin
         obtain ⟨vb, vo, B, d, l, hA, htk, hcell, hL2, hI2⟩ := cnt_v HV.out HIv.out hin.1
         subst hA
         have HTk := Hd htk
         have HZ := Hd hcell
         have HL2 := Hd hL2
         have HI2 := Hd hI2
         have hll := hL2.short
         have HIn3 := HIn
         have HS3 := HS
         have wr3 : wrap64 ((i : Int) + 1) = ((i + 1 : Nat) : Int) := wrap_one (by omega)
         have hii : i < vs.length := hin.1
         have HC3 := Hd (And.intro hcx hfx)
         have hx3 := hx
         have z5 := hcell _ hB
         have HB3 := HB
         clear hin hi hs hB htk hcell hL2 hI2 HIn HS HB
         go_wp2_with fail
         clear t1 t2 hcx hfx y3 y4 y5 z5 hx
         generalize hxo : x = xo at HC3 hx3 HS3
         clear hxo
         go_loopw [7] (fun v wx => ∃ (j x : Nat), j ≤ l.length ∧ v = .int .i64 j ∧ x ≤ 4097 ∧ x - cntL (l.drop j) = xo - cntL l ∧ wx.cell? ⟨g, 0, none⟩ = some (.int .i64 (x : Int)) ∧ wx.frozen? ⟨g, 0, none⟩ = false ∧ Below g w wx) (fun v _ => l.length - (intOf v).toNat)
         case atStart => exact ⟨0, xo, by omega, rfl, hx3, by rw [List.drop_zero], HC3.out.1, HC3.out.2, HB3.out⟩
         case round =>
          obtain ⟨j, x, hj, rfl, hx, hs, hcx, hfx, hB⟩ := hrel
          have HS := Hd hs
          have HB := Hd hB
          obtain ⟨y3, y4, y5⟩ := HX.out _ hB
          have z5 := HZ.out _ hB
          by_cases hin : j < l.length ∧ 0 < x
          ·have t1 : decide ((j : Int) < (l.length : Int)) = true := by simp; omega
           have t2 : 0 < x := by omega
           have HIn := Hd hin
           obtain ⟨pb, po, q, hA, htk, hN⟩ := cnt_p HL2.out HI2.out hin.1 HB.out
           subst hA
           have KN := Hd (hN x hcx hfx hx)
           have HT := Hd (by rw [htk] at hs; omega : x - q - cntL (l.drop (j + 1)) = xo - cntL l)
           have hq : x - q ≤ 4097 := by omega
           have wr2 : wrap64 ((j : Int) + 1) = ((j + 1 : Nat) : Int) := wrap_one (by omega)
           have hjj := hin.1
           clear hin hj hs hB hN htk
           go_wp2_with fail
           refine KN.out.mono ?_
           rintro e w2 ⟨rfl, hc2, hf2, hb2⟩
           have HC2 := Hd (And.intro hc2 hf2)
           have HB2 := Hd (HB.out.trans hb2)
           clear hb2 KN hc2 hf2 hcx hfx y3 y4 y5 z5
           go_wp2_with fail
           refine ⟨⟨j + 1, x - q, HIn.out.1, by first | rfl | rw [wr2], hq, HT.out, HC2.out.1, HC2.out.2, HB2.out⟩, ?_⟩
           first | exact measI HIn.out.1 | (rw [wr2]; exact measI HIn.out.1)
          ·by_cases hje : j < l.length
           ·have t1 : decide ((j : Int) < (l.length : Int)) = true := by simp; omega
            have t2 : x = 0 := by omega
            have HE4 : Hid (x = xo - cntL l) := Hd (by have h := HS.out; omega)
            clear hin hj hs hB
            go_wp2_with fail
            refine ⟨⟨i + 1, x, HIn3.out.1, by first | rfl | rw [wr3], hx, by have h1 := HE4.out; have h2 := HS3.out; rw [HTk.out] at h2; omega, hcx, hfx, HB.out⟩, ?_⟩
            first | exact measI HIn3.out.1 | (rw [wr3]; exact measI HIn3.out.1)
           ·have t1 : decide ((j : Int) < (l.length : Int)) = false := by simp; omega
            have HE4 : Hid (x = xo - cntL l) := Hd (by have h := HS.out; rw [List.drop_eq_nil_of_le (by omega)] at h; simpa [cntL] using h)
            clear hin hj hs hB
            go_wp2_with fail
            refine ⟨⟨i + 1, x, HIn3.out.1, by first | rfl | rw [wr3], hx, by have h1 := HE4.out; have h2 := HS3.out; rw [HTk.out] at h2; omega, hcx, hfx, HB.out⟩, ?_⟩
            first | exact measI HIn3.out.1 | (rw [wr3]; exact measI HIn3.out.1)
        ·by_cases hie : i < vs.length
         ·have t1 : decide ((i : Int) < (vs.length : Int)) = true := by simp; omega
          have t2 : x = 0 := by omega
          have HE3 : Hid (x = x2 - cntV vs) := Hd (by have h := HS.out; omega)
          clear hin hi hs hB
          go_wp2_with fail
          clear t2
          refine bodyPost_ret (v := .tuple #[]) (by simp [results, Tryz.results80, go_sem]) rfl ?_
          exact ⟨rfl, by rw [hcx]; have h1 := HE1.out; have h2 := HE2.out; have h3 := HE3.out; congr 3; omega, hfx, HB.out⟩
         ·have t1 : decide ((i : Int) < (vs.length : Int)) = false := by simp; omega
          have HE3 : Hid (x = x2 - cntV vs) := Hd (by have h := HS.out; rw [List.drop_eq_nil_of_le (by omega)] at h; simpa [cntV] using h)
          clear hin hi hs hB
          go_wp2_with fail
          refine bodyPost_ret (v := .tuple #[]) (by simp [results, Tryz.results80, go_sem]) rfl ?_
          exact ⟨rfl, by rw [hcx]; have h1 := HE1.out; have h2 := HE2.out; have h3 := HE3.out; congr 3; omega, hfx, HB.out⟩
      ·have t1 : decide ((i : Int) < (fs.length : Int)) = false := by simp; omega
       have HE2 : Hid (x2 = x1 - cntF fs) := Hd (by have h := HS.out; rw [List.drop_eq_nil_of_le (by omega)] at h; simpa [cntF] using h)
       clear hin hi hs hB
       go_wp2_with fail
       have HC2 := Hd (And.intro hcx hfx)
       have HBb := HB
       have hx2 := hx
       clear hcx hfx y3 y4 y5 HB HS t1 hx
       go_loopw [6] (fun v wr => ∃ (i x : Nat), i ≤ vs.length ∧ v = .int .i64 i ∧ x ≤ 4097 ∧ x - cntV (vs.drop i) = x2 - cntV vs ∧ wr.cell? ⟨g, 0, none⟩ = some (.int .i64 (x : Int)) ∧ wr.frozen? ⟨g, 0, none⟩ = false ∧ Below g w wr) (fun v _ => vs.length - (intOf v).toNat)
       case atStart => exact ⟨0, x2, by omega, rfl, hx2, by rw [List.drop_zero], HC2.out.1, HC2.out.2, HBb.out⟩
       case round =>
        obtain ⟨i, x, hi, rfl, hx, hs, hcx, hfx, hB⟩ := hrel
        have HS := Hd hs
        have HB := Hd hB
        obtain ⟨y3, y4, y5⟩ := HX.out _ hB
        by_cases hin : i < vs.length ∧ 0 < x
        ·have t1 : decide ((i : Int) < (vs.length : Int)) = true := by simp; omega
         have t2 : 0 < x := by omega
         have HIn := Hd hin
         obtain ⟨vb, vo, B, d, l, hA, htk, hcell, hL2, hI2⟩ := cnt_v HV.out HIv.out hin.1
         subst hA
         have HTk := Hd htk
         have HZ := Hd hcell
         have HL2 := Hd hL2
         have HI2 := Hd hI2
         have hll := hL2.short
         have HIn3 := HIn
         have HS3 := HS
         have wr3 : wrap64 ((i : Int) + 1) = ((i + 1 : Nat) : Int) := wrap_one (by omega)
         have hii : i < vs.length := hin.1
         have HC3 := Hd (And.intro hcx hfx)
         have hx3 := hx
         have z5 := hcell _ hB
         have HB3 := HB
         clear hin hi hs hB htk hcell hL2 hI2 HIn HS HB
         go_wp2_with fail
         clear t1 t2 hcx hfx y3 y4 y5 z5 hx
         generalize hxo : x = xo at HC3 hx3 HS3
         clear hxo
         go_loopw [7] (fun v wx => ∃ (j x : Nat), j ≤ l.length ∧ v = .int .i64 j ∧ x ≤ 4097 ∧ x - cntL (l.drop j) = xo - cntL l ∧ wx.cell? ⟨g, 0, none⟩ = some (.int .i64 (x : Int)) ∧ wx.frozen? ⟨g, 0, none⟩ = false ∧ Below g w wx) (fun v _ => l.length - (intOf v).toNat)
         case atStart => exact ⟨0, xo, by omega, rfl, hx3, by rw [List.drop_zero], HC3.out.1, HC3.out.2, HB3.out⟩
         case round =>
          obtain ⟨j, x, hj, rfl, hx, hs, hcx, hfx, hB⟩ := hrel
          have HS := Hd hs
          have HB := Hd hB
          obtain ⟨y3, y4, y5⟩ := HX.out _ hB
          have z5 := HZ.out _ hB
          by_cases hin : j < l.length ∧ 0 < x
          ·have t1 : decide ((j : Int) < (l.length : Int)) = true := by simp; omega
           have t2 : 0 < x := by omega
           have HIn := Hd hin
           obtain ⟨pb, po, q, hA, htk, hN⟩ := cnt_p HL2.out HI2.out hin.1 HB.out
           subst hA
           have KN := Hd (hN x hcx hfx hx)
           have HT := Hd (by rw [htk] at hs; omega : x - q - cntL (l.drop (j + 1)) = xo - cntL l)
           have hq : x - q ≤ 4097 := by omega
           have wr2 : wrap64 ((j : Int) + 1) = ((j + 1 : Nat) : Int) := wrap_one (by omega)
           have hjj := hin.1
           clear hin hj hs hB hN htk
           go_wp2_with fail
           refine KN.out.mono ?_
           rintro e w2 ⟨rfl, hc2, hf2, hb2⟩
           have HC2 := Hd (And.intro hc2 hf2)
           have HB2 := Hd (HB.out.trans hb2)
           clear hb2 KN hc2 hf2 hcx hfx y3 y4 y5 z5
           go_wp2_with fail
           refine ⟨⟨j + 1, x - q, HIn.out.1, by first | rfl | rw [wr2], hq, HT.out, HC2.out.1, HC2.out.2, HB2.out⟩, ?_⟩
           first | exact measI HIn.out.1 | (rw [wr2]; exact measI HIn.out.1)
          ·by_cases hje : j < l.length
           ·have t1 : decide ((j : Int) < (l.length : Int)) = true := by simp; omega
            have t2 : x = 0 := by omega
            have HE4 : Hid (x = xo - cntL l) := Hd (by have h := HS.out; omega)
            clear hin hj hs hB
            go_wp2_with fail
            refine ⟨⟨i + 1, x, HIn3.out.1, by first | rfl | rw [wr3], hx, by have h1 := HE4.out; have h2 := HS3.out; rw [HTk.out] at h2; omega, hcx, hfx, HB.out⟩, ?_⟩
            first | exact measI HIn3.out.1 | (rw [wr3]; exact measI HIn3.out.1)
           ·have t1 : decide ((j : Int) < (l.length : Int)) = false := by simp; omega
            have HE4 : Hid (x = xo - cntL l) := Hd (by have h := HS.out; rw [List.drop_eq_nil_of_le (by omega)] at h; simpa [cntL] using h)
            clear hin hj hs hB
            go_wp2_with fail
            refine ⟨⟨i + 1, x, HIn3.out.1, by first | rfl | rw [wr3], hx, by have h1 := HE4.out; have h2 := HS3.out; rw [HTk.out] at h2; omega, hcx, hfx, HB.out⟩, ?_⟩
            first | exact measI HIn3.out.1 | (rw [wr3]; exact measI HIn3.out.1)
        ·by_cases hie : i < vs.length
         ·have t1 : decide ((i : Int) < (vs.length : Int)) = true := by simp; omega
          have t2 : x = 0 := by omega
          have HE3 : Hid (x = x2 - cntV vs) := Hd (by have h := HS.out; omega)
          clear hin hi hs hB
          go_wp2_with fail
          clear t2
          refine bodyPost_ret (v := .tuple #[]) (by simp [results, Tryz.results80, go_sem]) rfl ?_
          exact ⟨rfl, by rw [hcx]; have h1 := HE1.out; have h2 := HE2.out; have h3 := HE3.out; congr 3; omega, hfx, HB.out⟩
         ·have t1 : decide ((i : Int) < (vs.length : Int)) = false := by simp; omega
          have HE3 : Hid (x = x2 - cntV vs) := Hd (by have h := HS.out; rw [List.drop_eq_nil_of_le (by omega)] at h; simpa [cntV] using h)
          clear hin hi hs hB
          go_wp2_with fail
          refine bodyPost_ret (v := .tuple #[]) (by simp [results, Tryz.results80, go_sem]) rfl ?_
          exact ⟨rfl, by rw [hcx]; have h1 := HE1.out; have h2 := HE2.out; have h3 := HE3.out; congr 3; omega, hfx, HB.out⟩
theorem cnt_any (t : Ty) : CntP t := Ty.ind (C := CntP) (fun k t n ps fs vs hp hf hv => cnt_step k t n ps fs vs hp hf hv) t
theorem nodes_any {K : Nat → Prop} {w : World} {t : Ty} {cs : List Value} (h : RepT K w t cs) :
  Calls Tryz.prog 51 #[.agg cs.toArray] w fun e w' => e = .returned (.int .i64 (capN (cntT t) : Nat)) ∧ Below w.heap.size w w' := by
 have hlow := RepT.low t cs h
 have hb1 : Below w.heap.size w ((w.alloc (.cells cs.toArray 26)).alloc (.cells #[.int .i64 4097] 3)) := ((Below.refl _ _).alloc (Nat.le_refl _) _).alloc (by simp) _
 have hb2 : Below (w.heap.size + 1) (w.alloc (.cells cs.toArray 26)) ((w.alloc (.cells cs.toArray 26)).alloc (.cells #[.int .i64 4097] 3)) := (Below.refl _ _).alloc (by simp) _
 have a1 : AtT (fun x => x < w.heap.size + 1) (w.alloc (.cells cs.toArray 26)) t w.heap.size 0 := (AtT.box _ hlow).keep (fun _ h => Nat.lt_succ_of_lt h) (fun _ _ _ _ h => h) (fun _ _ h => h)
 have KC := Hd (cnt_any t _ w.heap.size 0 (w.heap.size + 1) (a1.keepG (Nat.lt_succ_self _) hb2) (Nat.lt_succ_self _) 4097 (by simp) (by simp) (by omega))
 have HB := Hd hb1
 have HC : Hid ((4097 : Int) - ((4097 - cntT t : Nat) : Int) = ((capN (cntT t) : Nat) : Int)) := Hd (by unfold capN; omega)
 have hy : ((4097 - cntT t : Nat) : Int) ≤ 4097 := by omega
 obtain ⟨k, s, n, ps, fs, vs⟩ := t
 obtain ⟨A, c, A', c', A'', c'', rfl, _⟩ := h.inv
 generalize capN (cntT (.mk k s n ps fs vs)) = r at HC ⊢
 generalize cntT (.mk k s n ps fs vs) = q at KC HC hy
 simp only [cells6T] at KC HB ⊢
 clear h hlow hb1 hb2 a1
 go_enter Tryz.func51, Tryz.ntmps51
 go_wp2_with fail
 refine KC.out.mono ?_
 rintro e w2 ⟨rfl, hc2, hf2, hb2⟩
 have HB2 := Hd (HB.out.trans (hb2.mono (by omega)))
 generalize 4097 - q = y at *
 have wr1 : wrap64 ((4097 : Int) - (y : Int)) = (r : Int) := by have := HC.out; rw [wrap_in (by omega) (by omega)]; exact this
 clear hb2
 go_wp2_with fail
 go_ret
 exact ⟨by first | rw [wr1] | (rw [← HC.out]; rfl), HB2.out⟩
theorem RowAt.both {K : Nat → Prop} {w : World} {A : Option Addr} {l c b o : Nat} (h : RowAt K A l c b o) (hb : 0 < l → b < w.heap.size) : RowAt (fun b => K b ∧ b < w.heap.size) A l c b o := ⟨h.le, h.big, h.none, fun hl => ⟨(h.some hl).1, (h.some hl).2, hb hl⟩⟩
theorem RepT.both {K : Nat → Prop} {w : World} (t : Ty) : ∀ cs, RepT K w t cs → RepT (fun b => K b ∧ b < w.heap.size) w t cs := by
 refine Ty.ind (C := fun t => ∀ cs, RepT K w t cs → RepT (fun b => K b ∧ b < w.heap.size) w t cs) ?_ t
 intro k t n ps fs vs ihp ihf ihv cs h
 obtain ⟨A, c, A', c', A'', c'', rfl, ht, ⟨pb, po, hA, hp⟩, ⟨fb, fo, hA', hf⟩, ⟨vb, vo, hA'', hv⟩⟩ := h.inv
 refine RepT.of ht ⟨pb, po, hA.both (fun hl => ?_), fun i h => ?_⟩ ⟨fb, fo, hA'.both (fun hl => World.block_lt_of_cell? _ _ (hf 0 hl).1), fun i h => ?_⟩ ⟨vb, vo, hA''.both (fun hl => ?_), fun i h => ?_⟩
 ·obtain ⟨cs, h1, h2⟩ := hp 0 hl
  have h6 := h2.six
  exact World.block_lt_of_cell? _ _ (h1 0 _ (List.getElem?_eq_getElem (by omega)))
 ·obtain ⟨cs, h1, h2⟩ := hp i h
  exact ⟨cs, h1, ihp _ (List.getElem_mem h) cs h2⟩
 ·obtain ⟨h1, h2, h3, cs, h4, h5⟩ := hf i h
  exact ⟨h1, h2, h3, cs, h4, ihf _ (List.getElem_mem h) cs h5⟩
 ·obtain ⟨B, d, h1, _⟩ := hv 0 hl
  exact World.block_lt_of_cell? _ _ h1
 ·obtain ⟨B, d, h1, h2, h3, ⟨b, o, h4, h5⟩⟩ := hv i h
  refine ⟨B, d, h1, h2, h3, ⟨b, o, h4.both (fun hl => ?_), fun j h' => ?_⟩⟩
  ·obtain ⟨cs, h6, h7⟩ := h5 0 hl
   have h8 := h7.six
   exact World.block_lt_of_cell? _ _ (h6 0 _ (List.getElem?_eq_getElem (by omega)))
  ·obtain ⟨cs, h6, h7⟩ := h5 j h'
   exact ⟨cs, h6, ihv _ (List.getElem_mem h) _ (List.getElem_mem h') cs h7⟩
theorem ListT.both {K : Nat → Prop} {w : World} {l : List Ty} {A : Option Addr} {c : Nat} (h : ListT K w l A c) : ListT (fun b => K b ∧ b < w.heap.size) w l A c := by
 obtain ⟨b, o, h1, h2⟩ := h
 refine ⟨b, o, h1.both fun hl => ?_, fun i hi => ?_⟩
 ·obtain ⟨cs, h3, h4⟩ := h2 0 hl
  have h6 := h4.six
  exact World.block_lt_of_cell? _ _ (h3 0 _ (List.getElem?_eq_getElem (by omega)))
 ·obtain ⟨cs, h3, h4⟩ := h2 i hi
  exact ⟨cs, h3, RepT.both _ _ h4⟩
theorem RepT.weak {K K' : Nat → Prop} {w : World} {t : Ty} {cs : List Value} (h : RepT K w t cs) (hk : ∀ b, K b → K' b) : RepT K' w t cs := RepT.keep hk (fun _ _ _ _ h => h) t cs h
theorem box_up {w w' : World} {b : Nat} {o : Obj} (hb : Below w.heap.size w w') (hlt : b < w.heap.size) (h : w.heap[b]? = some o) : w'.heap[b]? = some o := (hb.block b hlt).trans h
structure ButG (O : Nat → Prop) (w w' : World) : Prop where
 os : w'.os = w.os
 tape : w'.tape = w.tape
 output : w'.output = w.output
 size : w.heap.size ≤ w'.heap.size
 block : ∀ k, k < w.heap.size → ¬ O k → w'.heap[k]? = w.heap[k]?
theorem ButG.refl (O : Nat → Prop) (w : World) : ButG O w w := ⟨rfl, rfl, rfl, Nat.le_refl _, fun _ _ _ => rfl⟩
theorem ButG.trans {O O' : Nat → Prop} {a b c : World} (h : ButG O a b) (h' : ButG O' b c) (ho : ∀ x, O' x → O x ∨ a.heap.size ≤ x) : ButG O a c :=
 ⟨h'.os.trans h.os, h'.tape.trans h.tape, h'.output.trans h.output, Nat.le_trans h.size h'.size, fun k hk hn => (h'.block k (Nat.lt_of_lt_of_le hk h.size) fun e => (ho k e).elim hn (by omega)).trans (h.block k hk hn)⟩
theorem ButG.of_below {O : Nat → Prop} {a b : World} (h : Below a.heap.size a b) : ButG O a b := ⟨h.os, h.tape, h.output, h.size, fun k hk _ => h.block k hk⟩
theorem ButG.below {O : Nat → Prop} {a b : World} {B : Nat} (h : ButG O a b) (hB : B ≤ a.heap.size) (ho : ∀ x, O x → B ≤ x) : Below B a b := ⟨h.os, h.tape, h.output, h.size, fun k hk => h.block k (by omega) fun e => by have := ho k e; omega⟩
theorem ButG.cell {O : Nat → Prop} {a b : World} (h : ButG O a b) {p : Addr} {v : Value} (hp : ¬ O p.block) (hc : a.cell? p = some v) : b.cell? p = some v :=
 (World.cell?_of_block (h.block p.block (World.block_lt_of_cell? _ _ hc) hp)).trans hc
theorem RepT.but {O K K' : Nat → Prop} {a b : World} {t : Ty} {cs : List Value} (h : RepT K a t cs) (hb : ButG O a b) (hk : ∀ x, K x → ¬ O x ∧ K' x) : RepT K' b t cs :=
 RepT.keep (fun x hx => (hk x hx).2) (fun x _ _ hx hc => hb.cell (hk x hx).1 hc) t cs h
end Go.Proofs.YtgjblmlibhppiaaGreatDoor
