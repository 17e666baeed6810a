import Derived.Test.YteakkjhcdpbidaaGreatDoorMk43
import Derived.Test.YteakkjhcdpbidaaGreatDoorMk45
namespace Go.Proofs.YteakkjhcdpbidaaGreatDoor
set_option maxRecDepth 100000
set_option maxHeartbeats 64000000
open Go.RowKit
def Kn (x : Option (List ByteArray)) : Prop := ∀ l, x = some l → l.length ≤ 1000000
theorem Kn.common {x y : Option (List ByteArray)} (hx : Kn x) (hy : Kn y) : Kn (commonK x y) := by
 intro l h
 rcases x with _ | a
 ·exact hy l h
 ·rcases y with _ | b
  ·exact hx l h
  ·have e : a.filter (fun x => b.any fun y => decide (y = x)) = l := Option.some.inj h
   rw [← e]
   exact Nat.le_trans (List.length_filter_le _ _) (hx a rfl)
theorem Kn.fold : ∀ (l : List (Option (List ByteArray))) (a : Option (List ByteArray)), Kn a → (∀ x ∈ l, Kn x) → Kn (l.foldl commonK a)
 | [], _, h, _ => h
 | x :: l, a, h, h2 => Kn.fold l (commonK a x) (h.common (h2 x (by simp))) fun y hy => h2 y (by simp [hy])
theorem cntF_len : ∀ fs : FsT, fs.length ≤ cntF fs
 | [] => Nat.zero_le _
 | f :: fs => by
  have h := cntF_len fs
  have h2 : cntF (f :: fs) = cntT f.2.2 + cntF fs := by simp [cntF]
  have h3 := cntT_pos f.2.2
  rw [h2, List.length_cons]
  omega
theorem kn_keys (t : Ty) : cntT t ≤ 1000000 → Kn (keysN t) := by
 refine Ty.ind (C := fun t => cntT t ≤ 1000000 → Kn (keysN t)) (fun k s n ps fs vs hp _ _ hc => ?_) t
 rw [cntT_mk] at hc
 rw [keysN_mk]
 have hf := cntF_len fs
 split
 ·intro l h; cases h
 ·split
  ·intro l h
   have e := Option.some.inj h
   rw [← e, List.length_map]
   omega
  ·split
   ·refine Kn.fold _ _ (fun l h => by cases h) fun x hx => ?_
    obtain ⟨p, hp2, rfl⟩ := List.mem_map.1 hx
    have := cntL_mem hp2
    exact hp p hp2 (by omega)
   ·intro l h
    have e := Option.some.inj h
    rw [← e]
    simp
theorem form_keysU (x : Option (List ByteArray)) : formT (keysU x) = true := by
 rcases x with _ | l
 ·exact form_tyK (by decide) (by decide)
 ·exact form_union fun y hy => by
   obtain ⟨z, -, rfl⟩ := List.mem_map.1 hy
   exact form_str z
theorem common_ref {K : Nat → Prop} {w : World} {x y : Option (List ByteArray)} {cs ds : List Value} (hr : RepT K w (keysU x) cs) (hp : RepT K w (keysU y) ds) (hlo : ∀ a, K a → a < w.heap.size) (hx : Kn x) :
  Calls Tryz.prog 31 #[.agg cs.toArray, .agg ds.toArray] w (FdT K w (keysU (commonK x y))) := by
 rw [← keysU_common]
 rcases x with _ | l
 ·have e : commonT (keysU none) (keysU y) = keysU y := by unfold commonT; rw [if_pos (show (keysU none).k = 8 from rfl)]
  rw [e]
  exact common_any _ _ _ _ _ hr hp hlo
 ·have h8 : ¬ (keysU (some l)).k = 8 := union_strs_k l (by decide)
  have e : commonT (keysU (some l)) (keysU y) = unionT ((prtsT (keysU (some l))).filter (amongT (keysU y))) := by unfold commonT; rw [if_neg h8]
  rw [e]
  refine common_some hr hp hlo h8 (form_keysU _) ?_
  show cntL (prtsT (unionT (l.map strT))) ≤ _
  rw [parts_union, kept_strs]
  have h1 := cntL_sort (l.map strT)
  rw [cntL_strs] at h1
  have h2 := hx l rfl
  omega
theorem fold_next {ps : List Ty} {i : Nat} (hi : i < ps.length) : ((ps.take (i + 1)).map keysN).foldl commonK none = commonK (((ps.take i).map keysN).foldl commonK none) (keysN ps[i]) := by
 rw [List.take_succ_eq_append_getElem hi, List.map_append, List.foldl_append]
 rfl
theorem ret_box' {K : Nat → Prop} {g : Nat} {W : World} {t : Ty} {cs : List Value} (h : RepT (fun b => K b ∨ g < b) W t cs) (hlo : ∀ b, K b → b < g) (y0 y1 y2 y3 y4 y5 : Value) :
  RepT (fun b => K b ∨ g < b) ((((((W.setCell ⟨g, 0, none⟩ y0).setCell ⟨g, 1, none⟩ y1).setCell ⟨g, 2, none⟩ y2).setCell ⟨g, 3, none⟩ y3).setCell ⟨g, 4, none⟩ y4).setCell ⟨g, 5, none⟩ y5) t cs :=
 RepT.keep (fun b hb => hb) (fun b o v hk hc => by
  rw [six_other W y0 y1 y2 y3 y4 y5 (p := ⟨b, o, none⟩) (by
   rcases hk with hk | hk
   ·have := hlo b hk; show b ≠ _; omega
   ·show b ≠ _; omega)]
  exact hc) _ _ h
theorem rkeys_15 {K : Nat → Prop} {w : World} (s : ByteArray) (n : Int) (ps : List Ty) (fs : FsT) (vs : VsT) {cs : List Value} (hr : RepT K w (.mk 15 s n ps fs vs) cs) (hlo : ∀ b, K b → b < w.heap.size) (hc : cntL ps ≤ 1000000)
  (ih : ∀ p ∈ ps, ∀ (w : World) cs, RepT K w p cs → (∀ b, K b → b < w.heap.size) → Calls Tryz.prog 19 #[.agg cs.toArray] w (FdT K w (keysU (keysN p)))) :
  Calls Tryz.prog 19 #[.agg cs.toArray] w (FdT K w (keysU ((ps.map keysN).foldl commonK none))) := by
 refine one_res hr fun A c B d C e w1 g h hcs => ?_
 subst hcs
 obtain ⟨HX, HY, HB1, HS1, HG, HW1, HR⟩ := h
 have HLO := Hd hlo
 unfold FdT
 have hkn : ∀ i, Kn (((ps.take i).map keysN).foldl commonK none) := fun i => Kn.fold _ _ (fun l h => by cases h) fun x hx => by
  obtain ⟨p, hp2, rfl⟩ := List.mem_map.1 hx
  have h1 := cntL_mem (List.mem_of_mem_take hp2)
  exact kn_keys p (by omega)
 have hfn := fun i (hi : i < ps.length) => fold_next (ps := ps) hi
 have hf0 : ((ps.take 0).map keysN).foldl commonK none = none := rfl
 have hfl : ((ps.take ps.length).map keysN).foldl commonK none = (ps.map keysN).foldl commonK none := by rw [List.take_length]
 rw [← hfl]
 clear hfl
 generalize hX : (fun i => ((ps.take i).map keysN).foldl commonK none) = X
 have hXi : ∀ i, ((ps.take i).map keysN).foldl commonK none = X i := fun i => by rw [← hX]
 simp only [hXi] at hkn hfn hf0 ⊢
 have HX2 : Hid ((∀ i, Kn (X i)) ∧ X 0 = none ∧ ∀ i (h : i < ps.length), X (i + 1) = commonK (X i) (keysN (ps[i]'h))) := Hd ⟨hkn, hf0, hfn⟩
 have HIH := Hd ih
 generalize hU : keysU (X ps.length) = u8
 have HU := Hd hU
 clear hU
 have hll := cntL_len ps
 have HLL : Hid (ps.length ≤ 1000000) := Hd (by omega)
 obtain ⟨_, _, _, _, _, _, he, -, hL, -, -⟩ := HR.out.inv
 simp only [cells6T, List.cons.injEq, Value.slice.injEq] at he
 obtain ⟨-, -, -, ⟨rfl, -, rfl⟩, -⟩ := he
 have HL := Hd hL
 clear hr hlo hc hX hXi hkn hfn hf0 ih hll hL
 go_enter Tryz.func19, Tryz.ntmps19
 go_upto_region 1 with fail
 rw [← HW1.out, ← HG.out]
 obtain ⟨x0, x1, x2, x3, x4, x5⟩ := HX.out _ (Below.refl _ _)
 go_wp2_with fail
 refine (of_r13 8 _).mono ?_
 rintro e w2 ⟨rfl, hb2⟩
 have HB12 := Hd hb2
 clear hb2 x0 x1 x2 x3 x4 x5
 obtain ⟨g5, hg5⟩ : ∃ g5, g5 = w2.heap.size := ⟨_, rfl⟩
 obtain ⟨w3, hw3⟩ : ∃ x, x = w2.alloc (.cells #[.int .i64 8, .string ⟨#[]⟩, .int .i64 0, .slice none 0 0, .slice none 0 0, .slice none 0 0] 26) := ⟨_, rfl⟩
 have hb23 : Below w2.heap.size w2 w3 := by rw [hw3]; exact (Below.refl _ _).alloc (Nat.le_refl _) _
 have hx3 : w3.heap[g5]? = some (.cells #[.int .i64 8, .string ⟨#[]⟩, .int .i64 0, .slice none 0 0, .slice none 0 0, .slice none 0 0] 26 (0, 0)) := by rw [hw3, hg5]; exact heap_alloc_new w2 _
 have HX3 := Hd hx3
 have HB23 := Hd hb23
 have HG5 : Hid (g < g5 ∧ w1.heap.size ≤ g5) := Hd (by have h1 := HS1.out; have h2 := HB12.out.size; omega)
 have HG6 := Hd hg5
 have HW3 := Hd hw3
 clear hx3 hb23 hw3 hg5
 go_upto_region 14 with fail
 rw [← HW3.out, ← HG6.out]
 go_wp2_with fail
 go_loopw [6] (fun v wr => ∃ i : Nat, i ≤ ps.length ∧ v = .int .i64 i ∧ (∃ cs : List Value, wr.heap[g5]? = some (.cells cs.toArray 26 (0, 0)) ∧ RepT (fun b => K b ∨ g5 < b) wr (keysU (X i)) cs) ∧ Below w2.heap.size w2 wr) (fun v _ => ps.length - (intOf v).toNat)
 case atStart => exact ⟨0, by omega, rfl, ⟨_, HX3.out, by rw [HX2.out.2.1]; exact rep_k _ _ 8⟩, HB23.out⟩
 case round =>
  obtain ⟨i, hi, rfl, ⟨aa, hbx, hra⟩, hb⟩ := hrel
  have HBR := Hd hb
  have HBR1 := Hd (HB12.out.trans (hb.mono HB12.out.size))
  have hll := HLL.out
  obtain ⟨x0, x1, x2, x3, x4, x5⟩ := HX.out _ HBR1.out
  have HKX := Hd (HX2.out.1 i)
  by_cases hin : i < ps.length
  ·have t1 : decide ((i : Int) < (ps.length : Int)) = true := by simp; omega
   have wr2 : wrap64 ((i : Int) + 1) = ((i + 1 : Nat) : Int) := wrap_one (by omega)
   have HM := Hd (measI hin)
   have HIn : Hid (i + 1 ≤ ps.length) := Hd hin
   obtain ⟨tb, tq, hA, hKb, hat⟩ := HL.out.at (by omega)
   subst hA
   obtain ⟨es, hes, hrq⟩ := hat i hin
   have HNX := Hd (HX2.out.2.2 i hin)
   have KI : Hid (∀ wx, Below w1.heap.size w1 wx → Calls Tryz.prog 19 #[.agg es.toArray] wx (FdT K wx (keysU (keysN (ps[i]'hin))))) := Hd fun wx hx => HIH.out (ps[i]'hin) (List.getElem_mem hin) wx es (hrq.later hx) (fun b h => by have h1 := HLO.out b h; have h2 := HB1.out.size; have h3 := hx.size; omega)
   have KC : Hid (∀ (wx : World) (aa bs : List Value), g5 < wx.heap.size → RepT (fun b => K b ∨ g5 < b) wx (keysU (X i)) aa → RepT (fun b => K b ∨ g5 < b) wx (keysU (keysN (ps[i]'hin))) bs → Calls Tryz.prog 31 #[.agg aa.toArray, .agg bs.toArray] wx fun e w' => ∃ rs : List Value, e = .returned (.agg rs.toArray) ∧ RepT (fun b => K b ∨ g5 < b) w' (keysU (X (i + 1))) rs ∧ Below wx.heap.size wx w') := Hd fun wx aa bs hgx h1 h2 => by
    refine (common_ref (RepT.both _ _ h1) (RepT.both _ _ h2) (fun b h => h.2) HKX.out).mono ?_
    rintro e w' ⟨rs, rfl, h3, h4⟩
    rw [← HNX.out] at h3
    exact ⟨rs, rfl, h3.weak fun b h => by
     rcases h with h | h
     ·exact h.1
     ·exact .inr (by omega), h4⟩
   generalize ps[i]'hin = u at hrq KI KC HNX
   obtain ⟨k4, s4, n4, ps4, fs4, vs4⟩ := u
   obtain ⟨A4, c4, B4, d4, C4, e4, rfl, -⟩ := hrq.inv
   simp only [cells6T] at hes KI
   generalize keysU (keysN (.mk k4 s4 n4 ps4 fs4 vs4)) = ub at KI KC
   generalize keysU (X i) = ua at hra KC
   obtain ⟨k5, s5, n5, ps5, fs5, vs5⟩ := ua
   obtain ⟨A5, c5, B5, d5, C5, e5, rfl, -⟩ := hra.inv
   have HRA := Hd hra
   simp only [cells6T] at hbx HRA
   have HBX := Hd hbx
   have HC : Hid (∀ wx, Below w1.heap.size w1 wx → wx.cell? ⟨w.heap.size, 3, none⟩ = some (.slice (some ⟨tb, tq, none⟩) ps.length c) ∧ (wx.cell? ⟨tb, tq + i * 6, none⟩ = some (.int .i64 k4) ∧ wx.cell? ⟨tb, tq + i * 6 + 1, none⟩ = some (.string s4) ∧ wx.cell? ⟨tb, tq + i * 6 + 2, none⟩ = some (.int .i64 n4) ∧ wx.cell? ⟨tb, tq + i * 6 + 3, none⟩ = some (.slice A4 ps4.length c4) ∧ wx.cell? ⟨tb, tq + i * 6 + 4, none⟩ = some (.slice B4 fs4.length d4) ∧ wx.cell? ⟨tb, tq + i * 6 + 5, none⟩ = some (.slice C4 vs4.length e4))) := Hd fun wx hx => ⟨(HX.out wx hx).2.2.2.1, cell_stays hx (hes 0 _ rfl), cell_stays hx (hes 1 _ rfl), cell_stays hx (hes 2 _ rfl), cell_stays hx (hes 3 _ rfl), cell_stays hx (hes 4 _ rfl), cell_stays hx (hes 5 _ rfl)⟩
   have HGW : Hid (g5 < wr.heap.size) := Hd (Array.getElem?_eq_some_iff.1 hbx).1
   have i1 : (0 : Int) ≤ (i : Int) := by omega
   have i2 : (i : Int) < (ps.length : Int) := by omega
   clear hi hat hes hrq hll hb hbx hra hKb
   go_upto_region 17 with fail
   clear x0 x1 x2 x3 x4 x5
   refine wp_region_held_drew (S := (fun w' => w'.cell? ⟨w.heap.size, 3, none⟩ = some (.slice (some ⟨tb, tq, none⟩) ps.length c) ∧ (w'.cell? ⟨tb, tq + i * 6, none⟩ = some (.int .i64 k4) ∧ w'.cell? ⟨tb, tq + i * 6 + 1, none⟩ = some (.string s4) ∧ w'.cell? ⟨tb, tq + i * 6 + 2, none⟩ = some (.int .i64 n4) ∧ w'.cell? ⟨tb, tq + i * 6 + 3, none⟩ = some (.slice A4 ps4.length c4) ∧ w'.cell? ⟨tb, tq + i * 6 + 4, none⟩ = some (.slice B4 fs4.length d4) ∧ w'.cell? ⟨tb, tq + i * 6 + 5, none⟩ = some (.slice C4 vs4.length e4)))) (by kernel_rfl) (HC.out _ HBR1.out.drew) (fun hHeld => ?_)
   refine Plan.start [1, 2, 3, 4, 5] ?_
   iterate 5 (refine Plan.tk (so rfl) hHeld ?_; try simp only [Act.put, pz1, pz2, pz3])
   refine Plan.done ?_
   refine wpAnyH_ready (rs := [0, 6]) (by kernel_rfl) (by simp) ?_
   refine AllReadyH.cons (sd (some 44) rfl) (fun Kx hK => ?_) (AllReadyH.cons (sd (some 50) rfl) (fun Kx hK => ?_) AllReadyH.nil)
   ·obtain ⟨b0, b1, b2, b3, b4, b5⟩ := cz6 (box_up (Below.refl wr.heap.size wr).drew HGW.out HBX.out)
    go_simp
    clear b0 b1 b2 b3 b4 b5
    refine hK.out _ _ (HC.out _ HBR1.out.drew) (fun hHeld => ?_)
    clear hK Kx
    try simp only [Act.put, pz1, pz2, pz3]
    refine wpAnyH_ready (rs := [6]) (by kernel_rfl) (by simp) ?_
    refine AllReadyH.cons (sd (some 50) rfl) (fun Kx hK => ?_) AllReadyH.nil
    go_simp
    refine (KI.out _ (HBR1.out.trans ((Below.refl wr.heap.size wr).drew.mono HBR1.out.size))).mono ?_
    rintro e w5 ⟨bs, rfl, hr5, hb5⟩
    have HB5 := Hd ((Below.refl wr.heap.size wr).drew.trans (hb5.mono (Below.refl wr.heap.size wr).drew.size))
    have HRB : Hid (RepT (fun b => K b ∨ g5 < b) w5 ub bs) := Hd (hr5.weak fun b h => h.imp id fun h => by have h1 := HGW.out; have h2 := (Below.refl wr.heap.size wr).drew.size; omega)
    clear hr5 hb5
    obtain ⟨k6, s6, n6, ps6, fs6, vs6⟩ := ub
    obtain ⟨A6, c6, B6, d6, C6, e6, rfl, -⟩ := HRB.out.inv
    simp only [cells6T] at HRB ⊢
    go_wp2_with fail
    refine hK.out _ _ (HC.out _ (HBR1.out.trans (HB5.out.mono HBR1.out.size))) (fun hHeld => ?_)
    clear hK Kx
    try simp only [Act.put, pz1, pz2, pz3]
    refine wpAnyH_ready (rs := [7]) (by kernel_rfl) (by simp) ?_
    refine AllReadyH.cons (sd (some 51) rfl) (fun Kx hK => ?_) AllReadyH.nil
    go_simp
    refine (KC.out w5 _ _ (by have h1 := HGW.out; have h2 := HB5.out.size; omega) (HRA.out.later HB5.out) HRB.out).mono ?_
    rintro e w6 ⟨rs, rfl, hr6, hb6⟩
    have HB6 := Hd (HB5.out.trans (hb6.mono HB5.out.size))
    generalize hu9 : keysU (X (i + 1)) = u9 at hr6
    have HU9 := Hd hu9
    obtain ⟨k8, s8, n8, ps8, fs8, vs8⟩ := u9
    obtain ⟨A8, c8, B8, d8, C8, e8, rfl, -⟩ := hr6.inv
    have HR6 := Hd hr6
    simp only [cells6T] at HR6 ⊢
    clear hr6 hb6 hu9
    go_wp2_with fail
    refine hK.out _ _ (HC.out _ (HBR1.out.trans (HB6.out.mono HBR1.out.size))) (fun hHeld => ?_)
    clear hK Kx
    try simp only [Act.put, pz1, pz2, pz3]
    refine wpAnyH_ready (rs := [8]) (by kernel_rfl) (by simp) ?_
    refine AllReadyH.cons (sd none rfl) (fun Kx hK => ?_) AllReadyH.nil
    go_simp
    have rb := box_up HB6.out HGW.out HBX.out
    obtain ⟨q0, q1, q2, q3, q4, q5, z0, z1, z2, z3, z4, z5⟩ := qz6 rb
    have HSET := Hd (six_set rb (.int .i64 k8) (.string s8) (.int .i64 n8) (.slice A8 ps8.length c8) (.slice B8 fs8.length d8) (.slice C8 vs8.length e8))
    have HRS := Hd (ret_box' HR6.out (fun b h => by have h1 := HLO.out b h; have h2 := HG.out; have h3 := HG5.out.1; omega) (.int .i64 k8) (.string s8) (.int .i64 n8) (.slice A8 ps8.length c8) (.slice B8 fs8.length d8) (.slice C8 vs8.length e8))
    have HBS := Hd (set_six_below (HBR1.out.trans (HB6.out.mono HBR1.out.size)) HG5.out.2 (.int .i64 k8) (.string s8) (.int .i64 n8) (.slice A8 ps8.length c8) (.slice B8 fs8.length d8) (.slice C8 vs8.length e8))
    have HBT := Hd (set_six_below (HBR.out.trans (HB6.out.mono HBR.out.size)) (Nat.le_of_eq HG6.out.symm) (.int .i64 k8) (.string s8) (.int .i64 n8) (.slice A8 ps8.length c8) (.slice B8 fs8.length d8) (.slice C8 vs8.length e8))
    clear rb
    go_simp
    refine hK.out _ _ (HC.out _ HBS.out) (fun hHeld => ?_)
    clear hK Kx q0 q1 q2 q3 q4 q5 z0 z1 z2 z3 z4 z5
    try simp only [Act.put, pz1, pz2, pz3]
    refine wpAnyH_done (by kernel_rfl) ?_ _
    clear hHeld
    try clear hHeld
    rw [← HU9.out] at HRS
    go_wp2_with fail
    refine ⟨⟨i + 1, HIn.out, by first | rfl | rw [wr2], ⟨_, HSET.out, HRS.out⟩, HBT.out⟩, ?_⟩
    first | exact HM.out | (rw [wr2]; exact HM.out)
   ·go_simp
    refine (KI.out _ (HBR1.out.trans ((Below.refl wr.heap.size wr).drew.mono HBR1.out.size))).mono ?_
    rintro e w5 ⟨bs, rfl, hr5, hb5⟩
    have HB5 := Hd ((Below.refl wr.heap.size wr).drew.trans (hb5.mono (Below.refl wr.heap.size wr).drew.size))
    have HRB : Hid (RepT (fun b => K b ∨ g5 < b) w5 ub bs) := Hd (hr5.weak fun b h => h.imp id fun h => by have h1 := HGW.out; have h2 := (Below.refl wr.heap.size wr).drew.size; omega)
    clear hr5 hb5
    obtain ⟨k6, s6, n6, ps6, fs6, vs6⟩ := ub
    obtain ⟨A6, c6, B6, d6, C6, e6, rfl, -⟩ := HRB.out.inv
    simp only [cells6T] at HRB ⊢
    go_wp2_with fail
    refine hK.out _ _ (HC.out _ (HBR1.out.trans (HB5.out.mono HBR1.out.size))) (fun hHeld => ?_)
    clear hK Kx
    try simp only [Act.put, pz1, pz2, pz3]
    obtain ⟨b0, b1, b2, b3, b4, b5⟩ := cz6 (box_up HB5.out HGW.out HBX.out)
    refine wpAnyH_ready (rs := [0]) (by kernel_rfl) (by simp) ?_
    refine AllReadyH.cons (sd (some 44) rfl) (fun Kx hK => ?_) AllReadyH.nil
    go_simp
    clear b0 b1 b2 b3 b4 b5
    refine hK.out _ _ (HC.out _ (HBR1.out.trans (HB5.out.mono HBR1.out.size))) (fun hHeld => ?_)
    clear hK Kx
    try simp only [Act.put, pz1, pz2, pz3]
    refine wpAnyH_ready (rs := [7]) (by kernel_rfl) (by simp) ?_
    refine AllReadyH.cons (sd (some 51) rfl) (fun Kx hK => ?_) AllReadyH.nil
    go_simp
    refine (KC.out w5 _ _ (by have h1 := HGW.out; have h2 := HB5.out.size; omega) (HRA.out.later HB5.out) HRB.out).mono ?_
    rintro e w6 ⟨rs, rfl, hr6, hb6⟩
    have HB6 := Hd (HB5.out.trans (hb6.mono HB5.out.size))
    generalize hu9 : keysU (X (i + 1)) = u9 at hr6
    have HU9 := Hd hu9
    obtain ⟨k8, s8, n8, ps8, fs8, vs8⟩ := u9
    obtain ⟨A8, c8, B8, d8, C8, e8, rfl, -⟩ := hr6.inv
    have HR6 := Hd hr6
    simp only [cells6T] at HR6 ⊢
    clear hr6 hb6 hu9
    go_wp2_with fail
    refine hK.out _ _ (HC.out _ (HBR1.out.trans (HB6.out.mono HBR1.out.size))) (fun hHeld => ?_)
    clear hK Kx
    try simp only [Act.put, pz1, pz2, pz3]
    refine wpAnyH_ready (rs := [8]) (by kernel_rfl) (by simp) ?_
    refine AllReadyH.cons (sd none rfl) (fun Kx hK => ?_) AllReadyH.nil
    go_simp
    have rb := box_up HB6.out HGW.out HBX.out
    obtain ⟨q0, q1, q2, q3, q4, q5, z0, z1, z2, z3, z4, z5⟩ := qz6 rb
    have HSET := Hd (six_set rb (.int .i64 k8) (.string s8) (.int .i64 n8) (.slice A8 ps8.length c8) (.slice B8 fs8.length d8) (.slice C8 vs8.length e8))
    have HRS := Hd (ret_box' HR6.out (fun b h => by have h1 := HLO.out b h; have h2 := HG.out; have h3 := HG5.out.1; omega) (.int .i64 k8) (.string s8) (.int .i64 n8) (.slice A8 ps8.length c8) (.slice B8 fs8.length d8) (.slice C8 vs8.length e8))
    have HBS := Hd (set_six_below (HBR1.out.trans (HB6.out.mono HBR1.out.size)) HG5.out.2 (.int .i64 k8) (.string s8) (.int .i64 n8) (.slice A8 ps8.length c8) (.slice B8 fs8.length d8) (.slice C8 vs8.length e8))
    have HBT := Hd (set_six_below (HBR.out.trans (HB6.out.mono HBR.out.size)) (Nat.le_of_eq HG6.out.symm) (.int .i64 k8) (.string s8) (.int .i64 n8) (.slice A8 ps8.length c8) (.slice B8 fs8.length d8) (.slice C8 vs8.length e8))
    clear rb
    go_simp
    refine hK.out _ _ (HC.out _ HBS.out) (fun hHeld => ?_)
    clear hK Kx q0 q1 q2 q3 q4 q5 z0 z1 z2 z3 z4 z5
    try simp only [Act.put, pz1, pz2, pz3]
    refine wpAnyH_done (by kernel_rfl) ?_ _
    clear hHeld
    try clear hHeld
    rw [← HU9.out] at HRS
    go_wp2_with fail
    refine ⟨⟨i + 1, HIn.out, by first | rfl | rw [wr2], ⟨_, HSET.out, HRS.out⟩, HBT.out⟩, ?_⟩
    first | exact HM.out | (rw [wr2]; exact HM.out)
  ·have t1 : decide ((i : Int) < (ps.length : Int)) = false := by simp; omega
   obtain rfl : i = ps.length := by omega
   rw [HU.out] at hra
   clear HU
   obtain ⟨k8, s8, n8, ps8, fs8, vs8⟩ := u8
   obtain ⟨A8, c8, B8, d8, C8, e8, rfl, -⟩ := hra.inv
   simp only [cells6T] at hra hbx
   have HRR : Hid (RepT (fun b => K b ∨ g < b) wr (.mk k8 s8 n8 ps8 fs8 vs8) [.int .i64 k8, .string s8, .int .i64 n8, .slice A8 ps8.length c8, .slice B8 fs8.length d8, .slice C8 vs8.length e8]) := Hd (hra.weak fun b h => h.imp id fun h => by have := HG5.out.1; omega)
   have HB7 := Hd (HB1.out.trans (HBR1.out.mono HB1.out.size))
   obtain ⟨b0, b1, b2, b3, b4, b5⟩ := cz6 hbx
   have rb := box_up HBR1.out (by have := HS1.out; omega) HY.out
   clear hi hin hll hb hbx hra
   obtain ⟨q0, q1, q2, q3, q4, q5, z0, z1, z2, z3, z4, z5⟩ := qz6 rb
   have RBX := Hd rb
   clear rb
   go_wp2_with fail
   obtain ⟨r0, r1, r2, r3, r4, r5⟩ := cz6 (six_set RBX.out (.int .i64 k8) (.string s8) (.int .i64 n8) (.slice A8 ps8.length c8) (.slice B8 fs8.length d8) (.slice C8 vs8.length e8))
   clear q0 q1 q2 q3 q4 q5 z0 z1 z2 z3 z4 z5 RBX
   refine bodyPost_ret (v := .agg #[.int .i64 k8, .string s8, .int .i64 n8, .slice A8 ps8.length c8, .slice B8 fs8.length d8, .slice C8 vs8.length e8]) (by simp [results, Tryz.results19, go_sem, r0, r1, r2, r3, r4, r5]) rfl ?_
   clear r0 r1 r2 r3 r4 r5
   exact ⟨[.int .i64 k8, .string s8, .int .i64 n8, .slice A8 ps8.length c8, .slice B8 fs8.length d8, .slice C8 vs8.length e8], rfl, ret_box HRR.out (fun b h => by have h1 := HLO.out b h; have h2 := HG.out; omega) (by have := HG.out; omega) _ _ _ _ _ _, set_six_below HB7.out (by have := HG.out; omega) _ _ _ _ _ _⟩
theorem keysof_ref (t : Ty) : formT t = true → cntT t ≤ 1000000 → ∀ (K : Nat → Prop) (w : World) (cs : List Value), RepT K w t cs → (∀ b, K b → b < w.heap.size) → Calls Tryz.prog 19 #[.agg cs.toArray] w (FdT K w (keysU (keysN t))) := by
 refine Ty.ind (C := fun t => formT t = true → cntT t ≤ 1000000 → ∀ (K : Nat → Prop) (w : World) (cs : List Value), RepT K w t cs → (∀ b, K b → b < w.heap.size) → Calls Tryz.prog 19 #[.agg cs.toArray] w (FdT K w (keysU (keysN t)))) (fun k s n ps fs vs hp _ _ hf hc K w cs hr hlo => ?_) t
 have hc2 := hc
 rw [cntT_mk] at hc2
 rw [keysN_mk]
 by_cases h13 : k = 3 ∨ k = 1
 ·rw [if_pos h13]; exact rkeys_all k s n ps fs vs hr hlo h13
 rw [if_neg h13]
 by_cases h14 : k = 14
 ·subst h14; rw [if_pos rfl]; exact rkeys_14 s n ps fs vs hr hlo (by have := cntF_len fs; omega)
 rw [if_neg h14]
 by_cases h15 : k = 15
 ·subst h15
  rw [if_pos rfl]
  exact rkeys_15 s n ps fs vs hr hlo (by omega) fun p hp2 w cs hr hlo => hp p hp2 (form_ps hf p hp2) (by have := cntL_mem hp2; omega) K w cs hr hlo
 rw [if_neg h15]
 exact rkeys_no k s n ps fs vs hr hlo h14 (fun h => h13 (.inl h)) (fun h => h13 (.inr h)) h15
end Go.Proofs.YteakkjhcdpbidaaGreatDoor
