import Derived.Test.YteakkjhcdpbidaaGreatDoorMk40
import Derived.KernelRfl
namespace Go.Proofs.YteakkjhcdpbidaaGreatDoor
set_option maxRecDepth 100000
set_option maxHeartbeats 64000000
open Go.RowKit
def WhE (P : Nat → Prop) (K : Nat → Prop) (w : World) (t : Ty) (cs : List Value) : Prop := RepT (fun b => K b ∧ P b) w t cs
theorem keepWh (P : Nat → Prop) : KeepE (WhE P) := fun K K' w w' a cs h h1 => keepTy (fun b => K b ∧ P b) (fun b => K' b ∧ P b) w w' a cs (fun b hb => ⟨⟨(h b hb.1).1, hb.2⟩, (h b hb.1).2⟩) h1
theorem wp_append_w {P : Nat → Prop} {B : Nat} {w : World} {v : Value} {l : List Ty} {t : Ty} {cs : List Value} {gg : Nat} {o : Oper} {a : Act} {Kc : Act → World → Prop} {Q : Exit → Act → World → Prop} (sl x : Operand)
  (ho : o.op = .call { callee := .builtin .append, args := #[sl, x], argTypes := #[22, 22] }) (hs : a.eval sl = v) (hx : a.eval x = .slice (some ⟨gg, 0, none⟩) 1 1)
  (hO : OwnE (WhE P) 26 6 B w v l) (ht : RepT (fun b => (b < w.heap.size ∧ v.ownBlock ≠ some b) ∧ P b) w t cs) (hc : ∀ j u, cs[j]? = some u → w.cell? ⟨gg, j, none⟩ = some u) (hB : B ≤ w.heap.size) (hsize : l.length + 1 ≤ 1099511627776)
  (h : ∀ v' w', OwnE (WhE P) 26 6 B w' v' (l ++ [t]) → (∀ B' wa, Below B' wa w → B' ≤ B → Below B' wa w') → Kc (a.put o.dst v') w') :
  Oper.wp Tryz.prog o a w Kc Q := by
 have hlt := fun b (e : v.ownBlock = some b) => hO.lt e
 obtain ⟨vs, hown, hreps⟩ := hO
 obtain ⟨i0, hi0, hz0, hz1, hz2⟩ := partsT infoTy
 refine wp_append_own_at sl x 22 ho B 26 i0 _ 6 104 sliceTy hi0 hz0 hz1 hz2 (by decide) (by decide) v l.length vs hs hown ⟨gg, 0, none⟩ 1 1 cs hx (by rw [ht.six]) (fun j u hj => ?_) (one_cells ht) (by simp only [maxLen]; omega) (by omega) hB ?_
 ·have e2 : ((⟨gg, 0, none⟩ : Addr).add j) = ⟨gg, j, none⟩ := by unfold Addr.add; by_cases h0 : j = 0 <;> simp [h0]
  rw [e2]; exact hc j u hj
 ·intro v' w' g1 g2 _ g4
  refine h v' w' (OwnE.push (keepWh P) hown hreps (Below.refl _ _) ht ht.six g1 g2 g4).1 fun B' wa hb hB' => hb.grown g2 (Nat.le_trans hB' hB) fun k hk => Nat.le_trans hB' (hlt k hk).1
theorem OwnE.listW {P : Nat → Prop} {B : Nat} {w : World} {v : Value} {l : List Ty} (h : OwnE (WhE P) 26 6 B w v l) (hB : ∀ b, B ≤ b → P b) (hl : l.length ≤ 1000000000000000) : ∃ A c, v = .slice A l.length c ∧ ListT (fun b => P b ∧ b < w.heap.size) w l A c := by
 have hc : ∃ A c, v = .slice A l.length c ∧ (A = none → l.length = 0 ∧ c = 0) ∧ l.length ≤ c := by
  obtain ⟨vs, h1, h2⟩ := h
  rcases h1.2 with ⟨hv, hn⟩ | ⟨g, cap, cur, hv, hg, hh, hle, r⟩
  ·exact ⟨none, 0, by rw [hv, hn], (fun _ => ⟨hn, rfl⟩), by omega⟩
  ·exact ⟨_, cap, hv, (fun h => by cases h), hle⟩
 obtain ⟨A0, c0, hv0, hn0, hle0⟩ := hc
 obtain ⟨A, c, g, o, hv, hA, hat⟩ := h.spread
 rw [hv0] at hv
 injection hv with hv1 _ hv3
 subst hv1
 subst hv3
 refine ⟨A0, c0, hv0, ⟨g, o, ⟨hle0, hl, fun e => ?_, fun h0 => ?_⟩, fun i hi => ?_⟩⟩
 ·first | exact hn0 e | exact (hn0 e).2 | exact (hn0 e).1
 ·obtain ⟨e1, e2, e3⟩ := hA h0
  exact ⟨e1, hB g e2, e3⟩
 ·obtain ⟨cs, h1, h2, h3⟩ := hat i hi
  exact ⟨cs, h3, RepT.weak h1 fun b hb => ⟨hb.2, hb.1.1⟩⟩
theorem map_next {F : Ty → Ty} {L : List Ty} {i : Nat} (hi : i < L.length) : (L.take (i + 1)).map F = (L.take i).map F ++ [F L[i]] := by
 rw [List.take_succ_eq_append_getElem hi, List.map_append]
 rfl
theorem stands_q {K : Nat → Prop} {w : World} (k : Int) (s : ByteArray) (n : Int) (ps : List Ty) (fs : FsT) (vs : VsT) (s3 : ByteArray) (n3 : Int) (ps3 : List Ty) (fs3 : FsT) (vs3 : VsT) {cs ds : List Value} (F : Ty → Ty) (hr : RepT K w (.mk k s n ps fs vs) cs) (hp : RepT K w (.mk 15 s3 n3 ps3 fs3 vs3) ds) (hlo : ∀ b, K b → b < w.heap.size) (h3 : k ≠ 3) (h1 : k ≠ 1) (hfo : ∀ p ∈ ps3, formT (F p) = true) (hc : cntL (ps3.map F) ≤ 1000000000) (hl : ps3.length ≤ 1000000)
  (ih : ∀ p ∈ ps3, ∀ (w : World) (bs ds : List Value), RepT K w (.mk k s n ps fs vs) bs → RepT K w p ds → (∀ b, K b → b < w.heap.size) → Calls Tryz.prog 21 #[.agg bs.toArray, .agg ds.toArray] w (FdT K w (F p))) :
  Calls Tryz.prog 21 #[.agg cs.toArray, .agg ds.toArray] w (FdT K w (unionT (ps3.map F))) := by
 have f1 : (k == 3) = false := beq_eq_false_iff_ne.2 h3
 have f2 : (k == 1) = false := beq_eq_false_iff_ne.2 h1
 clear h3 h1
 unfold FdT
 refine two_res hr hp fun A c B d C e A3 c3 B3 d3 C3 e3 w1 g h hcs hds => ?_
 subst hcs
 subst hds
 obtain ⟨HX, HY, HB1, HS1, HG, HW1, HR, HP⟩ := h
 have HLO := Hd hlo
 have HIH := Hd ih
 have HFO : Hid ((∀ x ∈ ps3.map F, formT x = true) ∧ cntL (ps3.map F) ≤ 1000000000) := Hd ⟨fun x hx => by
  obtain ⟨p, hp, rfl⟩ := List.mem_map.1 hx
  exact hfo p hp, hc⟩
 have HLL := Hd hl
 have HROW : Hid (ListT K w1 ps3 A3 c3) := Hd (by
  obtain ⟨_, _, _, _, _, _, he, -, hL, -, -⟩ := HP.out.inv
  simp only [cells6T, List.cons.injEq, Value.slice.injEq] at he
  obtain ⟨-, -, -, ⟨rfl, -, rfl⟩, -⟩ := he
  exact hL)
 obtain ⟨P, hP⟩ : ∃ P : Nat → Prop, P = fun b => K b ∨ g < b := ⟨_, rfl⟩
 have HPP : Hid (∀ b, P b ↔ K b ∨ g < b) := Hd fun b => by rw [hP]
 generalize hU : unionT (ps3.map F) = u8
 have HU := Hd hU
 clear hr hp hlo ih hfo hc hl hP hU
 go_enter Tryz.func21, Tryz.ntmps21
 go_upto_region 1 with fail
 rw [← HW1.out, ← HG.out]
 obtain ⟨⟨x0, x1, x2, x3, x4, x5⟩, ⟨y0, y1, y2, y3, y4, y5⟩⟩ := HX.out _ (Below.refl _ _)
 go_wp2_with fail
 clear x0 x1 x2 x3 x4 x5 y0 y1 y2 y3 y4 y5
 go_loopw [5, 6] (fun lv v wr => ∃ i : Nat, i ≤ ps3.length ∧ v = .int .i64 i ∧ OwnE (WhE P) 26 6 w1.heap.size wr lv ((ps3.take i).map F) ∧ Below w1.heap.size w1 wr) (fun _ v _ => ps3.length - (intOf v).toNat)
 case atStart => exact ⟨0, by omega, rfl, OwnE.nil, Below.refl _ _⟩
 case round =>
  obtain ⟨i, hi, rfl, ho, hb⟩ := hrel
  have HO := Hd ho
  have HBR := Hd hb
  obtain ⟨vs0, hvs0, -⟩ := ho
  obtain ⟨A5, c5, rfl, -⟩ := sliceT hvs0
  clear hvs0
  have hll := HLL.out
  obtain ⟨⟨x0, x1, x2, x3, x4, x5⟩, ⟨y0, y1, y2, y3, y4, y5⟩⟩ := HX.out _ hb
  by_cases hin : i < ps3.length
  ·have t1 : decide ((i : Int) < (ps3.length : Int)) = true := by simp; omega
   have wr2 : wrap64 ((i : Int) + 1) = ((i + 1 : Nat) : Int) := wrap_one (by omega)
   have HM := Hd (measI hin)
   obtain ⟨tb, tq, hA, -, hat⟩ := HROW.out.at (by omega)
   subst hA
   obtain ⟨es, hes, hrq⟩ := hat i hin
   have HNX := Hd (map_next (F := F) hin)
   have HLEN : Hid (((ps3.take i).map F).length + 1 ≤ 1099511627776) := Hd (by rw [List.length_map, List.length_take]; omega)
   have KQ : Hid (∀ wx, Below w1.heap.size w1 wx → Calls Tryz.prog 21 #[.agg #[.int .i64 k, .string s, .int .i64 n, .slice A ps.length c, .slice B fs.length d, .slice C vs.length e], .agg es.toArray] wx (FdT K wx (F (ps3[i]'hin)))) := Hd fun wx hx => HIH.out (ps3[i]'hin) (List.getElem_mem hin) wx _ es (HR.out.later hx) (hrq.later hx) (fun b h => by have h1 := HLO.out b h; have h2 := HB1.out.size; have h3 := hx.size; omega)
   have HIn : Hid (i + 1 ≤ ps3.length) := Hd hin
   generalize ps3[i]'hin = u at hrq KQ HNX
   obtain ⟨k4, s4, n4, ps4, fs4, vs4⟩ := u
   obtain ⟨A4, c4, B4, d4, C4, e4, rfl, -⟩ := hrq.inv
   simp only [cells6T] at hes KQ
   have HC : Hid (∀ wx, Below w1.heap.size w1 wx → (wx.cell? ⟨w.heap.size, 0, none⟩ = some (.int .i64 k) ∧ wx.cell? ⟨w.heap.size, 1, none⟩ = some (.string s) ∧ wx.cell? ⟨w.heap.size, 2, none⟩ = some (.int .i64 n) ∧ wx.cell? ⟨w.heap.size, 3, none⟩ = some (.slice A ps.length c) ∧ wx.cell? ⟨w.heap.size, 4, none⟩ = some (.slice B fs.length d) ∧ wx.cell? ⟨w.heap.size, 5, none⟩ = some (.slice C vs.length e)) ∧ (wx.cell? ⟨w.heap.size + 1, 0, none⟩ = some (.int .i64 15) ∧ wx.cell? ⟨w.heap.size + 1, 1, none⟩ = some (.string s3) ∧ wx.cell? ⟨w.heap.size + 1, 2, none⟩ = some (.int .i64 n3) ∧ wx.cell? ⟨w.heap.size + 1, 3, none⟩ = some (.slice (some ⟨tb, tq, none⟩) ps3.length c3) ∧ wx.cell? ⟨w.heap.size + 1, 4, none⟩ = some (.slice B3 fs3.length d3) ∧ wx.cell? ⟨w.heap.size + 1, 5, none⟩ = some (.slice C3 vs3.length e3)) ∧ (wx.cell? ⟨tb, tq + i * 6, none⟩ = some (.int .i64 k4) ∧ wx.cell? ⟨tb, tq + i * 6 + 1, none⟩ = some (.string s4) ∧ wx.cell? ⟨tb, tq + i * 6 + 2, none⟩ = some (.int .i64 n4) ∧ wx.cell? ⟨tb, tq + i * 6 + 3, none⟩ = some (.slice A4 ps4.length c4) ∧ wx.cell? ⟨tb, tq + i * 6 + 4, none⟩ = some (.slice B4 fs4.length d4) ∧ wx.cell? ⟨tb, tq + i * 6 + 5, none⟩ = some (.slice C4 vs4.length e4))) := Hd fun wx hx => ⟨(HX.out wx hx).1, (HX.out wx hx).2, cell_stays hx (hes 0 _ rfl), cell_stays hx (hes 1 _ rfl), cell_stays hx (hes 2 _ rfl), cell_stays hx (hes 3 _ rfl), cell_stays hx (hes 4 _ rfl), cell_stays hx (hes 5 _ rfl)⟩
   generalize F (.mk k4 s4 n4 ps4 fs4 vs4) = uf at KQ HNX
   unfold FdT at KQ
   have i1 : (0 : Int) ≤ (i : Int) := by omega
   have i2 : (i : Int) < (ps3.length : Int) := by omega
   clear hi hat hes hrq hll hb
   go_upto_region 10 with fail
   clear x0 x1 x2 x3 x4 x5 y0 y1 y2 y3 y4 y5
   refine wp_region_held_drew (S := (fun w' => (w'.cell? ⟨w.heap.size, 0, none⟩ = some (.int .i64 k) ∧ w'.cell? ⟨w.heap.size, 1, none⟩ = some (.string s) ∧ w'.cell? ⟨w.heap.size, 2, none⟩ = some (.int .i64 n) ∧ w'.cell? ⟨w.heap.size, 3, none⟩ = some (.slice A ps.length c) ∧ w'.cell? ⟨w.heap.size, 4, none⟩ = some (.slice B fs.length d) ∧ w'.cell? ⟨w.heap.size, 5, none⟩ = some (.slice C vs.length e)) ∧ (w'.cell? ⟨w.heap.size + 1, 0, none⟩ = some (.int .i64 15) ∧ w'.cell? ⟨w.heap.size + 1, 1, none⟩ = some (.string s3) ∧ w'.cell? ⟨w.heap.size + 1, 2, none⟩ = some (.int .i64 n3) ∧ w'.cell? ⟨w.heap.size + 1, 3, none⟩ = some (.slice (some ⟨tb, tq, none⟩) ps3.length c3) ∧ w'.cell? ⟨w.heap.size + 1, 4, none⟩ = some (.slice B3 fs3.length d3) ∧ w'.cell? ⟨w.heap.size + 1, 5, none⟩ = some (.slice C3 vs3.length e3)) ∧ (w'.cell? ⟨tb, tq + i * 6, none⟩ = some (.int .i64 k4) ∧ w'.cell? ⟨tb, tq + i * 6 + 1, none⟩ = some (.string s4) ∧ w'.cell? ⟨tb, tq + i * 6 + 2, none⟩ = some (.int .i64 n4) ∧ w'.cell? ⟨tb, tq + i * 6 + 3, none⟩ = some (.slice A4 ps4.length c4) ∧ w'.cell? ⟨tb, tq + i * 6 + 4, none⟩ = some (.slice B4 fs4.length d4) ∧ w'.cell? ⟨tb, tq + i * 6 + 5, none⟩ = some (.slice C4 vs4.length e4)))) (by kernel_rfl) (HC.out _ HBR.out.drew) (fun hHeld => ?_)
   refine Plan.start [0, 1, 2, 3, 4, 5, 6] ?_
   iterate 7 (refine Plan.tk (so rfl) hHeld ?_; try simp only [Act.put, pz1, pz2, pz3])
   refine Plan.done ?_
   refine wpAnyH_ready (rs := [7]) (by kernel_rfl) (by simp) ?_
   refine AllReadyH.cons (sd (some 42) rfl) (fun Kx hK => ?_) AllReadyH.nil
   go_simp
   refine (KQ.out _ HBR.out.drew).mono ?_
   rintro e w5 ⟨bs, rfl, hr5, hb5⟩
   have HB5 := Hd ((Below.refl wr.heap.size wr).drew.trans hb5)
   have HZ5 := Hd (HBR.out.trans (HB5.out.mono HBR.out.size))
   have HR5 := Hd (RepT.both _ _ (hr5.weak (K' := fun b => K b ∨ wr.heap.size ≤ b) fun b h => h))
   clear hr5 hb5 KQ
   obtain ⟨k6, s6, n6, ps6, fs6, vs6⟩ := uf
   obtain ⟨A6, c6, B6, d6, C6, e6, rfl, -⟩ := HR5.out.inv
   simp only [cells6T] at HR5 ⊢
   go_wp2_with fail
   refine hK.out _ _ (HC.out _ HZ5.out) (fun hHeld => ?_)
   clear hK Kx
   try simp only [Act.put, pz1, pz2, pz3]
   refine wpAnyH_ready (rs := [8]) (by kernel_rfl) (by simp) ?_
   refine AllReadyH.cons (sd (some 43) rfl) (fun Kx hK => ?_) AllReadyH.nil
   go_simp
   generalize hW : World.alloc w5 (.cells #[.int .i64 k6, .string s6, .int .i64 n6, .slice A6 ps6.length c6, .slice B6 fs6.length d6, .slice C6 vs6.length e6] 26) = w8
   have hb8 : Below w5.heap.size w5 w8 := by rw [← hW]; exact (Below.refl _ _).alloc (Nat.le_refl _) _
   have hx8 : w8.heap[w5.heap.size]? = some (.cells #[.int .i64 k6, .string s6, .int .i64 n6, .slice A6 ps6.length c6, .slice B6 fs6.length d6, .slice C6 vs6.length e6] 26 (0, 0)) := by rw [← hW]; exact heap_alloc_new w5 _
   have HB8 := Hd hb8
   have HX8 := Hd hx8
   have HZ8 := Hd (HZ5.out.trans (hb8.mono HZ5.out.size))
   clear hW hb8 hx8
   refine hK.out _ _ (HC.out _ HZ8.out) (fun hHeld => ?_)
   clear hK Kx
   try simp only [Act.put, pz1, pz2, pz3]
   refine wpAnyH_ready (rs := [9]) (by kernel_rfl) (by simp) ?_
   refine AllReadyH.cons (sd (some 44) rfl) (fun Kx hK => ?_) AllReadyH.nil
   rw [if_pos (by rfl)]
   have HOW := Hd (HO.out.later (keepWh P) (HB5.out.trans (HB8.out.mono HB5.out.size)))
   refine wp_append_w (P := P) (B := w1.heap.size) (gg := w5.heap.size) (t := .mk k6 s6 n6 ps6 fs6 vs6) (cs := [.int .i64 k6, .string s6, .int .i64 n6, .slice A6 ps6.length c6, .slice B6 fs6.length d6, .slice C6 vs6.length e6]) (l := (ps3.take i).map F) _ _ rfl (by first | rfl | (rw [List.length_map, List.length_take]; rfl)) (by rfl) HOW.out ?_ ?_ HZ8.out.size HLEN.out ?_
   ·refine (HR5.out.later HB8.out).weak fun b hb => ?_
    obtain ⟨h1, h2⟩ := hb
    have h3 := HB8.out.size
    have h4 := HS1.out
    have h5 := HBR.out.size
    have h6 := HG.out
    refine ⟨⟨by omega, fun e => ?_⟩, (HPP.out b).2 ?_⟩
    ·have h7 := HO.out.lt e
     rcases h1 with h1 | h1
     ·have := HLO.out b h1; omega
     ·omega
    ·exact h1.imp id fun h => by omega
   ·intro j u hj
    rw [Ch HX8.out]
    simpa using hj
   intro v9 w9 ho9 hbw
   have HO9 := Hd ho9
   have HZ9 := Hd (hbw _ _ HZ8.out (Nat.le_refl _))
   clear ho9 hbw
   refine hK.out _ _ (HC.out _ HZ9.out) (fun hHeld => ?_)
   clear hK Kx
   try simp only [Act.put, pz1, pz2, pz3]
   refine Plan.start [10] ?_
   refine Plan.tk (so rfl) hHeld ?_
   try simp only [Act.put, pz1, pz2, pz3]
   refine Plan.done ?_
   refine wpAnyH_done (by kernel_rfl) ?_ _
   clear hHeld
   try clear hHeld
   rw [← HNX.out] at HO9
   go_wp2_with fail
   refine ⟨⟨i + 1, HIn.out, by first | rfl | rw [wr2], HO9.out, HZ9.out⟩, ?_⟩
   first | exact HM.out | (rw [wr2]; exact HM.out)
  ·have t1 : decide ((i : Int) < (ps3.length : Int)) = false := by simp; omega
   have hil : ps3.take i = ps3 := List.take_of_length_le (by omega)
   have ho9 := HO.out
   rw [hil] at ho9 ⊢
   obtain ⟨Ar, cr, hv, hl⟩ := ho9.listW (fun b h => (HPP.out b).2 (.inr (by have := HS1.out; omega))) (by rw [List.length_map]; omega)
   have KU := Hd (uniL_any hl (fun b h => h.2) HFO.out.1 (by have := HFO.out.2; omega))
   unfold FdT at KU
   rw [HU.out] at KU
   have KU2 := KU
   rw [List.length_map] at KU2
   injection hv with hv1 hv2 hv3
   subst hv1
   subst hv3
   clear ho9 hl hi hv2 hb hil
   go_wp2_with fail
   refine KU2.out.mono ?_
   rintro e w7 ⟨rs, rfl, hr7, hb7⟩
   have HZ7 := Hd (HBR.out.trans (hb7.mono HBR.out.size))
   have HB7 := Hd (HB1.out.trans (HZ7.out.mono HB1.out.size))
   clear hb7 KU KU2 x0 x1 x2 x3 x4 x5 y0 y1 y2 y3 y4 y5
   have rb := box_up HZ7.out (by have := HS1.out; omega) HY.out
   have hr8 : RepT (fun b => K b ∨ g < b) w7 u8 rs := hr7.weak fun b h => by
    have h1 := HS1.out
    have h3 := HBR.out.size
    rcases h with ⟨h, -⟩ | h
    ·exact (HPP.out b).1 h
    ·exact .inr (by omega)
   obtain ⟨k8, s8, n8, ps8, fs8, vs8⟩ := u8
   obtain ⟨A8, c8, B8, d8, C8, e8, rfl, -⟩ := hr8.inv
   have HRR := Hd hr8
   simp only [cells6T] at HRR ⊢
   clear hr7 hr8
   obtain ⟨q0, q1, q2, q3, q4, q5, z0, z1, z2, z3, z4, z5⟩ := qz6 rb
   have RBX := Hd rb
   clear rb
   go_wp2_with fail
   obtain ⟨r0, r1, r2, r3, r4, r5⟩ := cz6 (six_set RBX.out (.int .i64 k8) (.string s8) (.int .i64 n8) (.slice A8 ps8.length c8) (.slice B8 fs8.length d8) (.slice C8 vs8.length e8))
   clear q0 q1 q2 q3 q4 q5 z0 z1 z2 z3 z4 z5 RBX
   refine bodyPost_ret (v := .agg #[.int .i64 k8, .string s8, .int .i64 n8, .slice A8 ps8.length c8, .slice B8 fs8.length d8, .slice C8 vs8.length e8]) (by simp [results, Tryz.results21, go_sem, r0, r1, r2, r3, r4, r5]) rfl ?_
   clear r0 r1 r2 r3 r4 r5
   exact ⟨[.int .i64 k8, .string s8, .int .i64 n8, .slice A8 ps8.length c8, .slice B8 fs8.length d8, .slice C8 vs8.length e8], rfl, ret_box HRR.out (fun b h => by have h1 := HLO.out b h; have h2 := HG.out; omega) (by have := HG.out; omega) _ _ _ _ _ _, set_six_below HB7.out (by have := HG.out; omega) _ _ _ _ _ _⟩
theorem stands_t {K : Nat → Prop} {w : World} (s : ByteArray) (n : Int) (ps : List Ty) (fs : FsT) (vs : VsT) (k3 : Int) (s3 : ByteArray) (n3 : Int) (ps3 : List Ty) (fs3 : FsT) (vs3 : VsT) {cs ds : List Value} (F : Ty → Ty) (hr : RepT K w (.mk 15 s n ps fs vs) cs) (hp : RepT K w (.mk k3 s3 n3 ps3 fs3 vs3) ds) (hlo : ∀ b, K b → b < w.heap.size) (h1 : k3 ≠ 1) (h15 : k3 ≠ 15) (hfo : ∀ p ∈ ps, formT (F p) = true) (hc : cntL (ps.map F) ≤ 1000000000) (hl : ps.length ≤ 1000000)
  (ih : ∀ p ∈ ps, ∀ (w : World) (bs ds : List Value), RepT K w (.mk k3 s3 n3 ps3 fs3 vs3) bs → RepT K w p ds → (∀ b, K b → b < w.heap.size) → Calls Tryz.prog 21 #[.agg ds.toArray, .agg bs.toArray] w (FdT K w (F p))) :
  Calls Tryz.prog 21 #[.agg cs.toArray, .agg ds.toArray] w (FdT K w (unionT (ps.map F))) := by
 have f1 : (k3 == 1) = false := beq_eq_false_iff_ne.2 h1
 have f2 : (k3 == 15) = false := beq_eq_false_iff_ne.2 h15
 clear h1 h15
 unfold FdT
 refine two_res hr hp fun A c B d C e A3 c3 B3 d3 C3 e3 w1 g h hcs hds => ?_
 subst hcs
 subst hds
 obtain ⟨HX, HY, HB1, HS1, HG, HW1, HR, HP⟩ := h
 have HLO := Hd hlo
 have HIH := Hd ih
 have HFO : Hid ((∀ x ∈ ps.map F, formT x = true) ∧ cntL (ps.map F) ≤ 1000000000) := Hd ⟨fun x hx => by
  obtain ⟨p, hp, rfl⟩ := List.mem_map.1 hx
  exact hfo p hp, hc⟩
 have HLL := Hd hl
 have HROW : Hid (ListT K w1 ps A c) := Hd (by
  obtain ⟨_, _, _, _, _, _, he, -, hL, -, -⟩ := HR.out.inv
  simp only [cells6T, List.cons.injEq, Value.slice.injEq] at he
  obtain ⟨-, -, -, ⟨rfl, -, rfl⟩, -⟩ := he
  exact hL)
 obtain ⟨P, hP⟩ : ∃ P : Nat → Prop, P = fun b => K b ∨ g < b := ⟨_, rfl⟩
 have HPP : Hid (∀ b, P b ↔ K b ∨ g < b) := Hd fun b => by rw [hP]
 generalize hU : unionT (ps.map F) = u8
 have HU := Hd hU
 clear hr hp hlo ih hfo hc hl hP hU
 go_enter Tryz.func21, Tryz.ntmps21
 go_upto_region 1 with fail
 rw [← HW1.out, ← HG.out]
 obtain ⟨⟨x0, x1, x2, x3, x4, x5⟩, ⟨y0, y1, y2, y3, y4, y5⟩⟩ := HX.out _ (Below.refl _ _)
 go_wp2_with fail
 clear x0 x1 x2 x3 x4 x5 y0 y1 y2 y3 y4 y5
 go_loopw [7, 8] (fun lv v wr => ∃ i : Nat, i ≤ ps.length ∧ v = .int .i64 i ∧ OwnE (WhE P) 26 6 w1.heap.size wr lv ((ps.take i).map F) ∧ Below w1.heap.size w1 wr) (fun _ v _ => ps.length - (intOf v).toNat)
 case atStart => exact ⟨0, by omega, rfl, OwnE.nil, Below.refl _ _⟩
 case round =>
  obtain ⟨i, hi, rfl, ho, hb⟩ := hrel
  have HO := Hd ho
  have HBR := Hd hb
  obtain ⟨vs0, hvs0, -⟩ := ho
  obtain ⟨A5, c5, rfl, -⟩ := sliceT hvs0
  clear hvs0
  have hll := HLL.out
  obtain ⟨⟨x0, x1, x2, x3, x4, x5⟩, ⟨y0, y1, y2, y3, y4, y5⟩⟩ := HX.out _ hb
  by_cases hin : i < ps.length
  ·have t1 : decide ((i : Int) < (ps.length : Int)) = true := by simp; omega
   have wr2 : wrap64 ((i : Int) + 1) = ((i + 1 : Nat) : Int) := wrap_one (by omega)
   have HM := Hd (measI hin)
   obtain ⟨tb, tq, hA, -, hat⟩ := HROW.out.at (by omega)
   subst hA
   obtain ⟨es, hes, hrq⟩ := hat i hin
   have HNX := Hd (map_next (F := F) hin)
   have HLEN : Hid (((ps.take i).map F).length + 1 ≤ 1099511627776) := Hd (by rw [List.length_map, List.length_take]; omega)
   have KQ : Hid (∀ wx, Below w1.heap.size w1 wx → Calls Tryz.prog 21 #[.agg es.toArray, .agg #[.int .i64 k3, .string s3, .int .i64 n3, .slice A3 ps3.length c3, .slice B3 fs3.length d3, .slice C3 vs3.length e3]] wx (FdT K wx (F (ps[i]'hin)))) := Hd fun wx hx => HIH.out (ps[i]'hin) (List.getElem_mem hin) wx _ es (HP.out.later hx) (hrq.later hx) (fun b h => by have h1 := HLO.out b h; have h2 := HB1.out.size; have h3 := hx.size; omega)
   have HIn : Hid (i + 1 ≤ ps.length) := Hd hin
   generalize ps[i]'hin = u at hrq KQ HNX
   obtain ⟨k4, s4, n4, ps4, fs4, vs4⟩ := u
   obtain ⟨A4, c4, B4, d4, C4, e4, rfl, -⟩ := hrq.inv
   simp only [cells6T] at hes KQ
   have HC : Hid (∀ wx, Below w1.heap.size w1 wx → (wx.cell? ⟨w.heap.size, 0, none⟩ = some (.int .i64 15) ∧ wx.cell? ⟨w.heap.size, 1, none⟩ = some (.string s) ∧ wx.cell? ⟨w.heap.size, 2, none⟩ = some (.int .i64 n) ∧ wx.cell? ⟨w.heap.size, 3, none⟩ = some (.slice (some ⟨tb, tq, none⟩) ps.length c) ∧ wx.cell? ⟨w.heap.size, 4, none⟩ = some (.slice B fs.length d) ∧ wx.cell? ⟨w.heap.size, 5, none⟩ = some (.slice C vs.length e)) ∧ (wx.cell? ⟨w.heap.size + 1, 0, none⟩ = some (.int .i64 k3) ∧ wx.cell? ⟨w.heap.size + 1, 1, none⟩ = some (.string s3) ∧ wx.cell? ⟨w.heap.size + 1, 2, none⟩ = some (.int .i64 n3) ∧ wx.cell? ⟨w.heap.size + 1, 3, none⟩ = some (.slice A3 ps3.length c3) ∧ wx.cell? ⟨w.heap.size + 1, 4, none⟩ = some (.slice B3 fs3.length d3) ∧ wx.cell? ⟨w.heap.size + 1, 5, none⟩ = some (.slice C3 vs3.length e3)) ∧ (wx.cell? ⟨tb, tq + i * 6, none⟩ = some (.int .i64 k4) ∧ wx.cell? ⟨tb, tq + i * 6 + 1, none⟩ = some (.string s4) ∧ wx.cell? ⟨tb, tq + i * 6 + 2, none⟩ = some (.int .i64 n4) ∧ wx.cell? ⟨tb, tq + i * 6 + 3, none⟩ = some (.slice A4 ps4.length c4) ∧ wx.cell? ⟨tb, tq + i * 6 + 4, none⟩ = some (.slice B4 fs4.length d4) ∧ wx.cell? ⟨tb, tq + i * 6 + 5, none⟩ = some (.slice C4 vs4.length e4))) := Hd fun wx hx => ⟨(HX.out wx hx).1, (HX.out wx hx).2, cell_stays hx (hes 0 _ rfl), cell_stays hx (hes 1 _ rfl), cell_stays hx (hes 2 _ rfl), cell_stays hx (hes 3 _ rfl), cell_stays hx (hes 4 _ rfl), cell_stays hx (hes 5 _ rfl)⟩
   generalize F (.mk k4 s4 n4 ps4 fs4 vs4) = uf at KQ HNX
   unfold FdT at KQ
   have i1 : (0 : Int) ≤ (i : Int) := by omega
   have i2 : (i : Int) < (ps.length : Int) := by omega
   clear hi hat hes hrq hll hb
   go_upto_region 17 with fail
   clear x0 x1 x2 x3 x4 x5 y0 y1 y2 y3 y4 y5
   refine wp_region_held_drew (S := (fun w' => (w'.cell? ⟨w.heap.size, 0, none⟩ = some (.int .i64 15) ∧ w'.cell? ⟨w.heap.size, 1, none⟩ = some (.string s) ∧ w'.cell? ⟨w.heap.size, 2, none⟩ = some (.int .i64 n) ∧ w'.cell? ⟨w.heap.size, 3, none⟩ = some (.slice (some ⟨tb, tq, none⟩) ps.length c) ∧ w'.cell? ⟨w.heap.size, 4, none⟩ = some (.slice B fs.length d) ∧ w'.cell? ⟨w.heap.size, 5, none⟩ = some (.slice C vs.length e)) ∧ (w'.cell? ⟨w.heap.size + 1, 0, none⟩ = some (.int .i64 k3) ∧ w'.cell? ⟨w.heap.size + 1, 1, none⟩ = some (.string s3) ∧ w'.cell? ⟨w.heap.size + 1, 2, none⟩ = some (.int .i64 n3) ∧ w'.cell? ⟨w.heap.size + 1, 3, none⟩ = some (.slice A3 ps3.length c3) ∧ w'.cell? ⟨w.heap.size + 1, 4, none⟩ = some (.slice B3 fs3.length d3) ∧ w'.cell? ⟨w.heap.size + 1, 5, none⟩ = some (.slice C3 vs3.length e3)) ∧ (w'.cell? ⟨tb, tq + i * 6, none⟩ = some (.int .i64 k4) ∧ w'.cell? ⟨tb, tq + i * 6 + 1, none⟩ = some (.string s4) ∧ w'.cell? ⟨tb, tq + i * 6 + 2, none⟩ = some (.int .i64 n4) ∧ w'.cell? ⟨tb, tq + i * 6 + 3, none⟩ = some (.slice A4 ps4.length c4) ∧ w'.cell? ⟨tb, tq + i * 6 + 4, none⟩ = some (.slice B4 fs4.length d4) ∧ w'.cell? ⟨tb, tq + i * 6 + 5, none⟩ = some (.slice C4 vs4.length e4)))) (by kernel_rfl) (HC.out _ HBR.out.drew) (fun hHeld => ?_)
   refine Plan.start [0, 1, 2, 3, 4, 5, 6] ?_
   iterate 7 (refine Plan.tk (so rfl) hHeld ?_; try simp only [Act.put, pz1, pz2, pz3])
   refine Plan.done ?_
   refine wpAnyH_ready (rs := [7]) (by kernel_rfl) (by simp) ?_
   refine AllReadyH.cons (sd (some 65) rfl) (fun Kx hK => ?_) AllReadyH.nil
   go_simp
   refine (KQ.out _ HBR.out.drew).mono ?_
   rintro e w5 ⟨bs, rfl, hr5, hb5⟩
   have HB5 := Hd ((Below.refl wr.heap.size wr).drew.trans hb5)
   have HZ5 := Hd (HBR.out.trans (HB5.out.mono HBR.out.size))
   have HR5 := Hd (RepT.both _ _ (hr5.weak (K' := fun b => K b ∨ wr.heap.size ≤ b) fun b h => h))
   clear hr5 hb5 KQ
   obtain ⟨k6, s6, n6, ps6, fs6, vs6⟩ := uf
   obtain ⟨A6, c6, B6, d6, C6, e6, rfl, -⟩ := HR5.out.inv
   simp only [cells6T] at HR5 ⊢
   go_wp2_with fail
   refine hK.out _ _ (HC.out _ HZ5.out) (fun hHeld => ?_)
   clear hK Kx
   try simp only [Act.put, pz1, pz2, pz3]
   refine wpAnyH_ready (rs := [8]) (by kernel_rfl) (by simp) ?_
   refine AllReadyH.cons (sd (some 66) rfl) (fun Kx hK => ?_) AllReadyH.nil
   go_simp
   generalize hW : World.alloc w5 (.cells #[.int .i64 k6, .string s6, .int .i64 n6, .slice A6 ps6.length c6, .slice B6 fs6.length d6, .slice C6 vs6.length e6] 26) = w8
   have hb8 : Below w5.heap.size w5 w8 := by rw [← hW]; exact (Below.refl _ _).alloc (Nat.le_refl _) _
   have hx8 : w8.heap[w5.heap.size]? = some (.cells #[.int .i64 k6, .string s6, .int .i64 n6, .slice A6 ps6.length c6, .slice B6 fs6.length d6, .slice C6 vs6.length e6] 26 (0, 0)) := by rw [← hW]; exact heap_alloc_new w5 _
   have HB8 := Hd hb8
   have HX8 := Hd hx8
   have HZ8 := Hd (HZ5.out.trans (hb8.mono HZ5.out.size))
   clear hW hb8 hx8
   refine hK.out _ _ (HC.out _ HZ8.out) (fun hHeld => ?_)
   clear hK Kx
   try simp only [Act.put, pz1, pz2, pz3]
   refine wpAnyH_ready (rs := [9]) (by kernel_rfl) (by simp) ?_
   refine AllReadyH.cons (sd (some 67) rfl) (fun Kx hK => ?_) AllReadyH.nil
   rw [if_pos (by rfl)]
   have HOW := Hd (HO.out.later (keepWh P) (HB5.out.trans (HB8.out.mono HB5.out.size)))
   refine wp_append_w (P := P) (B := w1.heap.size) (gg := w5.heap.size) (t := .mk k6 s6 n6 ps6 fs6 vs6) (cs := [.int .i64 k6, .string s6, .int .i64 n6, .slice A6 ps6.length c6, .slice B6 fs6.length d6, .slice C6 vs6.length e6]) (l := (ps.take i).map F) _ _ rfl (by first | rfl | (rw [List.length_map, List.length_take]; rfl)) (by rfl) HOW.out ?_ ?_ HZ8.out.size HLEN.out ?_
   ·refine (HR5.out.later HB8.out).weak fun b hb => ?_
    obtain ⟨h1, h2⟩ := hb
    have h3 := HB8.out.size
    have h4 := HS1.out
    have h5 := HBR.out.size
    have h6 := HG.out
    refine ⟨⟨by omega, fun e => ?_⟩, (HPP.out b).2 ?_⟩
    ·have h7 := HO.out.lt e
     rcases h1 with h1 | h1
     ·have := HLO.out b h1; omega
     ·omega
    ·exact h1.imp id fun h => by omega
   ·intro j u hj
    rw [Ch HX8.out]
    simpa using hj
   intro v9 w9 ho9 hbw
   have HO9 := Hd ho9
   have HZ9 := Hd (hbw _ _ HZ8.out (Nat.le_refl _))
   clear ho9 hbw
   refine hK.out _ _ (HC.out _ HZ9.out) (fun hHeld => ?_)
   clear hK Kx
   try simp only [Act.put, pz1, pz2, pz3]
   refine Plan.start [10] ?_
   refine Plan.tk (so rfl) hHeld ?_
   try simp only [Act.put, pz1, pz2, pz3]
   refine Plan.done ?_
   refine wpAnyH_done (by kernel_rfl) ?_ _
   clear hHeld
   try clear hHeld
   rw [← HNX.out] at HO9
   go_wp2_with fail
   refine ⟨⟨i + 1, HIn.out, by first | rfl | rw [wr2], HO9.out, HZ9.out⟩, ?_⟩
   first | exact HM.out | (rw [wr2]; exact HM.out)
  ·have t1 : decide ((i : Int) < (ps.length : Int)) = false := by simp; omega
   have hil : ps.take i = ps := List.take_of_length_le (by omega)
   have ho9 := HO.out
   rw [hil] at ho9 ⊢
   obtain ⟨Ar, cr, hv, hl⟩ := ho9.listW (fun b h => (HPP.out b).2 (.inr (by have := HS1.out; omega))) (by rw [List.length_map]; omega)
   have KU := Hd (uniL_any hl (fun b h => h.2) HFO.out.1 (by have := HFO.out.2; omega))
   unfold FdT at KU
   rw [HU.out] at KU
   have KU2 := KU
   rw [List.length_map] at KU2
   injection hv with hv1 hv2 hv3
   subst hv1
   subst hv3
   clear ho9 hl hi hv2 hb hil
   go_wp2_with fail
   refine KU2.out.mono ?_
   rintro e w7 ⟨rs, rfl, hr7, hb7⟩
   have HZ7 := Hd (HBR.out.trans (hb7.mono HBR.out.size))
   have HB7 := Hd (HB1.out.trans (HZ7.out.mono HB1.out.size))
   clear hb7 KU KU2 x0 x1 x2 x3 x4 x5 y0 y1 y2 y3 y4 y5
   have rb := box_up HZ7.out (by have := HS1.out; omega) HY.out
   have hr8 : RepT (fun b => K b ∨ g < b) w7 u8 rs := hr7.weak fun b h => by
    have h1 := HS1.out
    have h3 := HBR.out.size
    rcases h with ⟨h, -⟩ | h
    ·exact (HPP.out b).1 h
    ·exact .inr (by omega)
   obtain ⟨k8, s8, n8, ps8, fs8, vs8⟩ := u8
   obtain ⟨A8, c8, B8, d8, C8, e8, rfl, -⟩ := hr8.inv
   have HRR := Hd hr8
   simp only [cells6T] at HRR ⊢
   clear hr7 hr8
   obtain ⟨q0, q1, q2, q3, q4, q5, z0, z1, z2, z3, z4, z5⟩ := qz6 rb
   have RBX := Hd rb
   clear rb
   go_wp2_with fail
   obtain ⟨r0, r1, r2, r3, r4, r5⟩ := cz6 (six_set RBX.out (.int .i64 k8) (.string s8) (.int .i64 n8) (.slice A8 ps8.length c8) (.slice B8 fs8.length d8) (.slice C8 vs8.length e8))
   clear q0 q1 q2 q3 q4 q5 z0 z1 z2 z3 z4 z5 RBX
   refine bodyPost_ret (v := .agg #[.int .i64 k8, .string s8, .int .i64 n8, .slice A8 ps8.length c8, .slice B8 fs8.length d8, .slice C8 vs8.length e8]) (by simp [results, Tryz.results21, go_sem, r0, r1, r2, r3, r4, r5]) rfl ?_
   clear r0 r1 r2 r3 r4 r5
   exact ⟨[.int .i64 k8, .string s8, .int .i64 n8, .slice A8 ps8.length c8, .slice B8 fs8.length d8, .slice C8 vs8.length e8], rfl, ret_box HRR.out (fun b h => by have h1 := HLO.out b h; have h2 := HG.out; omega) (by have := HG.out; omega) _ _ _ _ _ _, set_six_below HB7.out (by have := HG.out; omega) _ _ _ _ _ _⟩
end Go.Proofs.YteakkjhcdpbidaaGreatDoor
