import Derived.Test.YtjbccjmpebgdjaaGreatDoorMg25
import Derived.Test.YtjbccjmpebgdjaaGreatDoorMg26
namespace Go.Proofs.YtjbccjmpebgdjaaGreatDoor
set_option maxRecDepth 100000
set_option maxHeartbeats 64000000
open Go.RowKit
def GatP (f : Nat) (L : List (ByteArray × Ty)) (p t : Ty) : Prop := ∀ (K K' : Nat → Prop) (w0 w : World) (m : Nat) (F : ByteArray → Option Rw) (G : List (ByteArray × Ty)) (b o b' o' : Nat), AtT K w t b o → AtT K' w p b' o' → (∀ x, K x ∨ x = b → x < w.heap.size ∧ ¬ rowB m F x) → (∀ x, K' x ∨ x = b' → x < w.heap.size ∧ ¬ rowB m F x) → GI w0 w m F G → w0.heap.size ≤ w.heap.size →
 formT p = true → formT t = true → cntT p + cntT t ≤ 1000000 → G.length + L.length ≤ 1000000000 →
 Calls Tryz.prog f #[.map (some m), .pointer (some ⟨b, o, none⟩), .pointer (some ⟨b', o', none⟩)] w (HoldPost w0 w m F (G ++ L))
def HoldP (p t : Ty) : Prop := GatP 25 (gathT p t) p t
theorem gathT_no {p t : Ty} (h : infT p = false) : gathT p t = [] := by rw [gathT_eq, if_pos h]
theorem gathT_infer {p t : Ty} (h : p.k = 22) (hi : infT p = true) : gathT p t = [(p.t, t)] := by rw [gathT_eq, if_neg (by rw [hi]; decide), if_pos h]
theorem but_cell {O : Nat → Prop} {w w' : World} {b o : Nat} {v : Value} (hb : ButG O w w') (hn : ¬ O b) (h : w.cell? ⟨b, o, none⟩ = some v) : w'.cell? ⟨b, o, none⟩ = some v := hb.cell hn h
theorem own_rw {w : World} {base : Nat} {e : TypeId} {size n : Nat} {v : Value} {xs : List Value} (h : w.ownsRow base e size v n xs) : ∃ a, v = rwV a := by
 rcases h.2 with ⟨rfl, _⟩ | ⟨g, cap, cur, rfl, _⟩
 ·exact ⟨(none, 0, 0), rfl⟩
 ·exact ⟨(some g, n, cap), rfl⟩
theorem hold_no {p t : Ty} (hno : infT p = false) : HoldP p t := by
 intro K K' w0 w m F G b o b' o' hT hP hKT hKP hG hB _ _ _ _
 rw [gathT_no hno, List.append_nil]
 have ki := inf_any p K' w b' o' hP
 rw [hno] at ki
 have KI := Hd ki
 have HG := Hd hG
 clear ki hG hT hP hKT hKP
 go_enter Tryz.func25, Tryz.ntmps25
 go_wp2_with fail
 refine KI.out.mono ?_
 rintro e w' ⟨rfl, hw⟩; obtain rfl := hw.symm
 go_wp2_with fail
 exact bodyPost_ret (v := .tuple #[]) (by simp [results, Tryz.results25, go_sem]) rfl ⟨rfl, F, HG.out, ButG.refl _ _, fun _ h => .inl h⟩
theorem own_later {w w' : World} {base : Nat} {e : TypeId} {size n : Nat} {v : Value} {xs : List Value} (h : w.ownsRow base e size v n xs) (hb : Below w.heap.size w w') : w'.ownsRow base e size v n xs := by
 refine ⟨h.1, ?_⟩
 rcases h.2 with h3 | ⟨g, cap, cur, hv, hg, hh, r⟩
 ·exact .inl h3
 ·exact .inr ⟨g, cap, cur, hv, hg, by rw [hb.block g (Array.getElem?_eq_some_iff.1 hh).1]; exact hh, r⟩
theorem add_zero' (b j : Nat) : ((⟨b, 0, none⟩ : Addr).add j) = ⟨b, j, none⟩ := by unfold Addr.add; by_cases h0 : j = 0 <;> simp [h0]
theorem row_cell {w : World} {g : Nat} {T : TypeId} {cs : Array Value} (h : w.heap[g]? = some (.cells cs T (0, 0))) {j : Nat} {u : Value} (hj : cs.toList[j]? = some u) : w.cell? ⟨g, j, none⟩ = some u := by
 rw [Ch h j]
 simpa using hj
theorem rw_own (a : Rw) : (rwV a).ownBlock = a.1 := by obtain ⟨_ | b, n, c⟩ := a <;> rfl
theorem row_own {m : Nat} {F : ByteArray → Option Rw} {s : ByteArray} {rv : Value} {B : Nat} (h : rwV (rowOf F s) = rv) : ∀ k, rv.ownBlock = some k → rowB m F k ∨ B ≤ k := fun k hk => by
 rw [← h, rw_own] at hk
 exact .inl (.inr ⟨s, hk⟩)
theorem map_block {w0 w w1 w2 : World} {m : Nat} {F : ByteArray → Option Rw} {G : List (ByteArray × Ty)} {s : ByteArray} {rv : Value} (hG : GI w0 w m F G) (hu : ButG (rowB m F) w w1) (h1 : w1.heap[m]? = w.heap[m]?) (hg : w1.grownBy w2 rv.ownBlock) (h : rwV (rowOf F s) = rv) : w2.heap[m]? = w.heap[m]? :=
 (hg.block m (Nat.lt_of_lt_of_le hG.map.lt hu.size) (fun e => by rw [← h, rw_own] at e; exact hG.ne s e.symm)).trans h1
theorem hold_infer {p t : Ty} (hk : p.k = 22) : HoldP p t := by
 intro K K' w0 w m F G b o b' o' hT hP hKT hKP hG hB _ _ _ hlen
 obtain ⟨k, s, n, ps, fs, vs⟩ := p
 obtain rfl : k = 22 := hk
 have hinf : infT (.mk 22 s n ps fs vs) = true := by rw [infT_mk]; rfl
 have hga : gathT (.mk 22 s n ps fs vs) t = [(s, t)] := gathT_infer rfl hinf
 rw [hga] at hlen ⊢
 have ki := inf_any _ K' w b' o' hP
 rw [hinf] at ki
 obtain ⟨A, c, A', c', A'', c'', ⟨x0, x1, -⟩, hs, -⟩ := hP.six
 obtain ⟨cs, hcs, hrt⟩ := hT
 obtain ⟨vs0, hown0, hvr⟩ := hG.rows s
 obtain ⟨k2, s2, n2, ps2, fs2, vs2⟩ := t
 obtain ⟨A2, c2, B2, d2, C2, e2, rfl, -⟩ := hrt.inv
 simp only [cells6T] at hcs hrt
 have HRT := Hd (hrt.weak (K' := fun x => x < w.heap.size ∧ ¬ rowB m F x) fun x hx => hKT x (.inl hx))
 have hnb := (hKT b (.inr rfl)).2
 have hnb' := (hKP b' (.inr rfl)).2
 have HSW : Hid (∀ wx, ButG (rowB m F) w wx → (wx.cell? ⟨b', o', none⟩ = some (.int .i64 22) ∧ wx.cell? ⟨b', o' + 1, none⟩ = some (.string s)) ∧ (wx.cell? ⟨b, o, none⟩ = some (.int .i64 k2) ∧ wx.cell? ⟨b, o + 1, none⟩ = some (.string s2) ∧ wx.cell? ⟨b, o + 2, none⟩ = some (.int .i64 n2) ∧ wx.cell? ⟨b, o + 3, none⟩ = some (.slice A2 ps2.length c2) ∧ wx.cell? ⟨b, o + 4, none⟩ = some (.slice B2 fs2.length d2) ∧ wx.cell? ⟨b, o + 5, none⟩ = some (.slice C2 vs2.length e2))) := Hd fun wx hx =>
  ⟨⟨but_cell hx hnb' x0, but_cell hx hnb' x1⟩, but_cell hx hnb (hcs 0 _ rfl), but_cell hx hnb (hcs 1 _ rfl), but_cell hx hnb (hcs 2 _ rfl), but_cell hx hnb (hcs 3 _ rfl), but_cell hx hnb (hcs 4 _ rfl), but_cell hx hnb (hcs 5 _ rfl)⟩
 have hsm : s.size ≤ maxLen := by unfold maxLen; omega
 have HLK : Hid (∀ wx, wx.heap[m]? = w.heap[m]? → (Instr.lookup 71 (.map (some m)) (.string s) false).run Tryz.prog wx = .ok (rwV (rowOf F s)) wx) := Hd fun wx hx => (hG.map.keep hx).look1 s hsm
 have KI := Hd ki
 have HG := Hd hG
 have HB := Hd hB
 have HOWN := Hd hown0
 have HVR := Hd hvr
 have HSM := Hd hsm
 have hgl : (gatN s G).length ≤ G.length := by unfold gatN; rw [List.length_map]; exact List.length_filter_le _ _
 have HLEN : Hid (G.length + 1 ≤ 1000000000) := Hd hlen
 have HGL := Hd hgl
 generalize hrv : rwV (rowOf F s) = rv at HLK HOWN
 have HRV := Hd hrv
 have HM : Hid (m < w.heap.size) := Hd hG.map.lt
 clear hP hKT hKP hG hB hlen hga ki hs hcs hrt hown0 hvr hnb hnb' hsm hgl hrv hinf x1
 go_enter Tryz.func25, Tryz.ntmps25
 go_wp2_with fail
 refine KI.out.mono ?_
 rintro e w' ⟨rfl, hw⟩; obtain rfl := hw.symm
 go_upto_region 3 with fail
 clear x0
 obtain ⟨i0, hi0, hz0, hz1, hz2⟩ := partsT infoTy
 have HB0 : Hid (Below w.heap.size w w.drew) := Hd (Below.refl _ _).drew
 have HU0 : Hid (ButG (rowB m F) w w.drew) := Hd (ButG.of_below (Below.refl _ _).drew)
 have HM0 : Hid (w.drew.heap[m]? = w.heap[m]?) := Hd rfl
 refine wp_region_held_drew (S := (fun w' => (w'.cell? ⟨b', o', none⟩ = some (.int .i64 22) ∧ w'.cell? ⟨b', o' + 1, none⟩ = some (.string s)) ∧ (w'.cell? ⟨b, o, none⟩ = some (.int .i64 k2) ∧ w'.cell? ⟨b, o + 1, none⟩ = some (.string s2) ∧ w'.cell? ⟨b, o + 2, none⟩ = some (.int .i64 n2) ∧ w'.cell? ⟨b, o + 3, none⟩ = some (.slice A2 ps2.length c2) ∧ w'.cell? ⟨b, o + 4, none⟩ = some (.slice B2 fs2.length d2) ∧ w'.cell? ⟨b, o + 5, none⟩ = some (.slice C2 vs2.length e2)))) (by kernel_rfl) (HSW.out _ HU0.out) (fun hHeld => ?_)
 refine Plan.start [0, 1, 2, 3, 4, 5, 6, 7, 8, 9, 11, 12, 13] ?_
 iterate 13 (refine Plan.tk (so rfl) hHeld ?_; try simp only [Act.put, pz1, pz2, pz3])
 refine Plan.done ?_
 refine wpAnyH_ready (rs := [10, 14]) (by kernel_rfl) (by simp) ?_
 refine AllReadyH.cons (sd (some 27) rfl) (fun Kx hK => ?_) (AllReadyH.cons (sd (some 31) rfl) (fun Kx hK => ?_) AllReadyH.nil)
 ·go_simp
  have lk := HLK.out w.drew HM0.out
  go_simp
  clear lk
  refine hK.out _ _ (HSW.out _ HU0.out) (fun hHeld => ?_)
  clear hK Kx
  try simp only [Act.put, pz1, pz2, pz3]
  refine wpAnyH_ready (rs := [14]) (by kernel_rfl) (by simp) ?_
  refine AllReadyH.cons (sd (some 31) rfl) (fun Kx hK => ?_) AllReadyH.nil
  go_simp
  generalize hW : (w.alloc (.cells #[.int .i64 k2, .string s2, .int .i64 n2, .slice A2 ps2.length c2, .slice B2 fs2.length d2, .slice C2 vs2.length e2] 26)).drew = w1
  have hb : Below w.heap.size w w1 := by rw [← hW]; exact ((Below.refl _ _).alloc (Nat.le_refl _) _).drew
  have rs : w1.heap[w.heap.size]? = some (.cells #[.int .i64 k2, .string s2, .int .i64 n2, .slice A2 ps2.length c2, .slice B2 fs2.length d2, .slice C2 vs2.length e2] 26 (0, 0)) := by rw [← hW]; exact heap_alloc_new w _
  have HB1 := Hd hb
  have HU1 := Hd (ButG.of_below (O := rowB m F) hb)
  have HM1 := Hd (hb.block m HM.out)
  have HX := Hd rs
  clear hW hb rs
  refine hK.out _ _ (HSW.out _ HU1.out) (fun hHeld => ?_)
  clear hK Kx
  try simp only [Act.put, pz1, pz2, pz3]
  refine wpAnyH_ready (rs := [15]) (by kernel_rfl) (by simp) ?_
  refine AllReadyH.cons (sd (some 32) rfl) (fun Kx hK => ?_) AllReadyH.nil
  rw [if_pos (by rfl)]
  refine wp_append_own_at _ _ 22 rfl w0.heap.size 26 i0 _ 6 104 sliceTy hi0 hz0 hz1 hz2 (by decide) (by decide) _ _ _ rfl (own_later HOWN.out HB1.out) ⟨_, 0, none⟩ 1 1 [.int .i64 k2, .string s2, .int .i64 n2, .slice A2 ps2.length c2, .slice B2 fs2.length d2, .slice C2 vs2.length e2] rfl rfl ?_ ?_ ?_ ?_ (Nat.le_trans HB.out HB1.out.size) ?_
  ·intro j u hj
   rw [add_zero']
   exact row_cell HX.out hj
  ·exact one_cells HRT.out
  ·have h1 := HLEN.out; have h2 := HGL.out; simp only [maxLen]; omega
  ·have h1 := HLEN.out; have h2 := HGL.out; omega
  intro v2 w2 hown5 hg5 _ hob5
  obtain ⟨a5, ha5⟩ := own_rw hown5
  subst ha5
  have HOW5 := Hd hown5
  have HG5 := Hd hg5
  have HOB5 := Hd hob5
  have HU2 := Hd (ButG.grown HU1.out hg5 (row_own HRV.out))
  clear hown5 hg5 hob5
  refine hK.out _ _ (HSW.out _ HU2.out) (fun hHeld => ?_)
  clear hK Kx
  try simp only [Act.put, pz1, pz2, pz3]
  refine wpAnyH_ready (rs := [16]) (by kernel_rfl) (by simp) ?_
  refine AllReadyH.cons (sd none rfl) (fun Kx hK => ?_) AllReadyH.nil
  go_simp
  obtain ⟨w3, hup, hm5, hg6⟩ := (HG.out.map.keep (map_block HG.out HU1.out HM1.out HG5.out HRV.out)).putL (by have h := HLEN.out; unfold maxLen; omega) s HSM.out a5
  have hup2 : (Instr.mapUpdate 71 (.map (some m)) (.string s) (rwV a5)).run Tryz.prog w2 = .ok () w3 := hup
  have HPU := Hd (gi_push HG.out HB.out HB1.out HRT.out HOWN.out.1 HVR.out HOW5.out (by rw [HRV.out]; exact HG5.out) (by rw [HRV.out]; exact HOB5.out) rfl hm5 rfl hg6)
  have HU3 := Hd HPU.out.2.1
  clear hup hm5 hg6
  go_simp
  clear hup2
  refine hK.out _ _ (HSW.out _ HU3.out) (fun hHeld => ?_)
  clear hK Kx
  try simp only [Act.put, pz1, pz2, pz3]
  refine wpAnyH_done (by kernel_rfl) ?_ _
  clear hHeld
  go_wp2_with fail
  exact bodyPost_end (v := .tuple #[]) (by simp [results, Tryz.results25, go_sem]) rfl ⟨rfl, _, HPU.out⟩
 ·go_simp
  generalize hW : (w.alloc (.cells #[.int .i64 k2, .string s2, .int .i64 n2, .slice A2 ps2.length c2, .slice B2 fs2.length d2, .slice C2 vs2.length e2] 26)).drew = w1
  have hb : Below w.heap.size w w1 := by rw [← hW]; exact ((Below.refl _ _).alloc (Nat.le_refl _) _).drew
  have rs : w1.heap[w.heap.size]? = some (.cells #[.int .i64 k2, .string s2, .int .i64 n2, .slice A2 ps2.length c2, .slice B2 fs2.length d2, .slice C2 vs2.length e2] 26 (0, 0)) := by rw [← hW]; exact heap_alloc_new w _
  have HB1 := Hd hb
  have HU1 := Hd (ButG.of_below (O := rowB m F) hb)
  have HM1 := Hd (hb.block m HM.out)
  have HX := Hd rs
  clear hW hb rs
  refine hK.out _ _ (HSW.out _ HU1.out) (fun hHeld => ?_)
  clear hK Kx
  try simp only [Act.put, pz1, pz2, pz3]
  refine wpAnyH_ready (rs := [10]) (by kernel_rfl) (by simp) ?_
  refine AllReadyH.cons (sd (some 27) rfl) (fun Kx hK => ?_) AllReadyH.nil
  go_simp
  have lk := HLK.out w1 HM1.out
  go_simp
  clear lk
  refine hK.out _ _ (HSW.out _ HU1.out) (fun hHeld => ?_)
  clear hK Kx
  try simp only [Act.put, pz1, pz2, pz3]
  refine wpAnyH_ready (rs := [15]) (by kernel_rfl) (by simp) ?_
  refine AllReadyH.cons (sd (some 32) rfl) (fun Kx hK => ?_) AllReadyH.nil
  rw [if_pos (by rfl)]
  refine wp_append_own_at _ _ 22 rfl w0.heap.size 26 i0 _ 6 104 sliceTy hi0 hz0 hz1 hz2 (by decide) (by decide) _ _ _ rfl (own_later HOWN.out HB1.out) ⟨_, 0, none⟩ 1 1 [.int .i64 k2, .string s2, .int .i64 n2, .slice A2 ps2.length c2, .slice B2 fs2.length d2, .slice C2 vs2.length e2] rfl rfl ?_ ?_ ?_ ?_ (Nat.le_trans HB.out HB1.out.size) ?_
  ·intro j u hj
   rw [add_zero']
   exact row_cell HX.out hj
  ·exact one_cells HRT.out
  ·have h1 := HLEN.out; have h2 := HGL.out; simp only [maxLen]; omega
  ·have h1 := HLEN.out; have h2 := HGL.out; omega
  intro v2 w2 hown5 hg5 _ hob5
  obtain ⟨a5, ha5⟩ := own_rw hown5
  subst ha5
  have HOW5 := Hd hown5
  have HG5 := Hd hg5
  have HOB5 := Hd hob5
  have HU2 := Hd (ButG.grown HU1.out hg5 (row_own HRV.out))
  clear hown5 hg5 hob5
  refine hK.out _ _ (HSW.out _ HU2.out) (fun hHeld => ?_)
  clear hK Kx
  try simp only [Act.put, pz1, pz2, pz3]
  refine wpAnyH_ready (rs := [16]) (by kernel_rfl) (by simp) ?_
  refine AllReadyH.cons (sd none rfl) (fun Kx hK => ?_) AllReadyH.nil
  go_simp
  obtain ⟨w3, hup, hm5, hg6⟩ := (HG.out.map.keep (map_block HG.out HU1.out HM1.out HG5.out HRV.out)).putL (by have h := HLEN.out; unfold maxLen; omega) s HSM.out a5
  have hup2 : (Instr.mapUpdate 71 (.map (some m)) (.string s) (rwV a5)).run Tryz.prog w2 = .ok () w3 := hup
  have HPU := Hd (gi_push HG.out HB.out HB1.out HRT.out HOWN.out.1 HVR.out HOW5.out (by rw [HRV.out]; exact HG5.out) (by rw [HRV.out]; exact HOB5.out) rfl hm5 rfl hg6)
  have HU3 := Hd HPU.out.2.1
  clear hup hm5 hg6
  go_simp
  clear hup2
  refine hK.out _ _ (HSW.out _ HU3.out) (fun hHeld => ?_)
  clear hK Kx
  try simp only [Act.put, pz1, pz2, pz3]
  refine wpAnyH_done (by kernel_rfl) ?_ _
  clear hHeld
  go_wp2_with fail
  exact bodyPost_end (v := .tuple #[]) (by simp [results, Tryz.results25, go_sem]) rfl ⟨rfl, _, HPU.out⟩
def wT : Ty → Nat
 | .mk _ _ _ ps fs _ => 1 + ((ps.attach.map fun ⟨p, _⟩ => wT p).sum + (fs.attach.map fun ⟨f, _⟩ => wT f.2.2 + 2).sum)
termination_by t => SizeOf.sizeOf t
decreasing_by
 ·exact ty_lt_p ‹_›
 ·exact ty_lt_f ‹_›
def wL (l : List Ty) : Nat := (l.map wT).sum
def wF (l : FsT) : Nat := (l.map fun f => wT f.2.2 + 2).sum
theorem wT_mk (k t n ps fs vs) : wT (.mk k t n ps fs vs) = 1 + (wL ps + wF fs) := by
 rw [wT]
 unfold wL wF
 simp only [List.map_attach_eq_pmap, List.pmap_eq_map]
theorem wL_nil : wL [] = 0 := rfl
theorem wL_cons (a : Ty) (l : List Ty) : wL (a :: l) = wT a + wL l := by simp [wL]
theorem wL_app (l m : List Ty) : wL (l ++ m) = wL l + wL m := by simp [wL]
theorem wL_filter (q : Ty → Bool) : ∀ l : List Ty, wL (l.filter q) ≤ wL l
 | [] => Nat.le_refl _
 | a :: l => by
  have := wL_filter q l
  rw [List.filter_cons]
  split
  ·rw [wL_cons, wL_cons]; omega
  ·rw [wL_cons]; omega
theorem wL_ins (t : Ty) : ∀ l, wL (insT t l) ≤ wT t + wL l
 | [] => by simp [insT, wL]
 | x :: l => by
  have := wL_ins t l
  unfold insT
  repeat' split
  all_goals simp only [wL_cons] at *
  all_goals omega
theorem wL_sort : ∀ l, wL (sortT l) ≤ wL l
 | [] => Nat.le_refl _
 | a :: l => by
  have h1 := wL_sort l
  have h2 := wL_ins a (sortT l)
  have e : sortT (a :: l) = insT a (sortT l) := rfl
  rw [e, wL_cons]; omega
theorem wL_flat_of : ∀ (l : List Ty), (∀ p ∈ l, wL (parts1 p) ≤ wT p) → wL (flatU l) ≤ wL l
 | [], _ => Nat.le_refl _
 | a :: l, h => by
  have h1 := h a List.mem_cons_self
  have h2 := wL_flat_of l fun q hq => h q (List.mem_cons_of_mem _ hq)
  rw [flatU_cons, wL_app, wL_cons]; omega
theorem wL_parts1 (t : Ty) : wL (parts1 t) ≤ wT t := by
 refine Ty.ind (C := fun t => wL (parts1 t) ≤ wT t) (fun k t n ps fs vs hp _ _ => ?_) t
 rw [parts1_mk]
 split
 ·have := wL_flat_of ps hp
  rw [wT_mk]; omega
 ·rw [wL_cons, wL_nil]; omega
theorem w_kind (k : Int) : wT (tyK k) = 1 := by unfold tyK; rw [wT_mk]; rfl
theorem w_union (l : List Ty) : wT (unionT l) ≤ wL l + 1 := by
 have h1 := wL_sort (keptU l)
 have h2 := wL_filter (keepT (kindsOf (flatU l))) (flatU l)
 have h3 := wL_flat_of l fun p _ => wL_parts1 p
 have h4 : wL (keptU l) = wL ((flatU l).filter (keepT (kindsOf (flatU l)))) := rfl
 unfold unionT
 generalize sortT (keptU l) = s at h1
 rcases s with _ | ⟨x, _ | ⟨y, s⟩⟩
 ·show wT (tyK 1) ≤ _; rw [w_kind]; omega
 ·show wT x ≤ _; rw [wL_cons, wL_nil] at h1; omega
 ·show wT (.mk 15 emptyB 0 (x :: y :: s) [] []) ≤ _
  rw [wT_mk]
  have e1 : wF [] = 0 := rfl
  omega
theorem w_ps (t : Ty) : wL t.ps + 1 ≤ wT t := by
 obtain ⟨k, s, n, ps, fs, vs⟩ := t
 rw [wT_mk]; show wL ps + 1 ≤ _; omega
theorem wL_mem : ∀ {l : List Ty} {t : Ty}, t ∈ l → wT t ≤ wL l
 | a :: l, t, h => by
  rw [wL_cons]
  rcases List.mem_cons.1 h with rfl | h
  ·omega
  ·have := wL_mem h; omega
theorem wF_mem : ∀ {l : FsT} {f : ByteArray × Int × Ty}, f ∈ l → wT f.2.2 + 2 ≤ wF l
 | a :: l, f, h => by
  have e : wF (a :: l) = (wT a.2.2 + 2) + wF l := by simp [wF]
  rw [e]
  rcases List.mem_cons.1 h with rfl | h
  ·omega
  ·have := wF_mem h; omega
theorem w_held {t : Ty} {f : ByteArray × Int × Ty} (h : f ∈ t.fs) : wT (heldT f) ≤ wT t := by
 obtain ⟨k, s, n, ps, fs, vs⟩ := t
 have h1 : wT f.2.2 + 2 ≤ wF fs := wF_mem h
 rw [wT_mk]
 unfold heldT
 split
 ·have h2 := w_union [tyK 4, f.2.2]
  rw [wL_cons, wL_cons, wL_nil, w_kind] at h2
  omega
 ·omega
theorem len_flat {α : Type} (W : Nat) (g : α → List (ByteArray × Ty)) (c : α → Nat) : ∀ l : List α, (∀ x ∈ l, (g x).length ≤ c x * W) → (l.map g).flatten.length ≤ (l.map c).sum * W
 | [], _ => Nat.zero_le _
 | a :: l, h => by
  have h1 := h a List.mem_cons_self
  have h2 := len_flat W g c l fun q hq => h q (List.mem_cons_of_mem _ hq)
  rw [List.map_cons, List.flatten_cons, List.length_append, List.map_cons, List.sum_cons, Nat.add_mul]; omega
theorem len_zip (W : Nat) : ∀ ps ts : List Ty, (∀ q ∈ ps, ∀ u ∈ ts, (gathT q u).length ≤ cntT q * W) → (List.zipWith gathT ps ts).flatten.length ≤ cntL ps * W
 | [], _, _ => Nat.zero_le _
 | a :: l, [], _ => Nat.zero_le _
 | a :: l, b :: m, h => by
  have h1 := h a List.mem_cons_self b List.mem_cons_self
  have h2 := len_zip W l m fun q hq u hu => h q (List.mem_cons_of_mem _ hq) u (List.mem_cons_of_mem _ hu)
  rw [List.zipWith_cons_cons, List.flatten_cons, List.length_append, cntL_cons, Nat.add_mul]; omega
theorem len_head (l : List (List (ByteArray × Ty))) : (l.headD []).length ≤ l.flatten.length := by
 cases l <;> simp
theorem cnt_pos (t : Ty) : 1 ≤ cntT t := by
 obtain ⟨k, s, n, ps, fs, vs⟩ := t
 rw [cntT_mk]; omega
theorem w_pos (t : Ty) : 1 ≤ wT t := by
 obtain ⟨k, s, n, ps, fs, vs⟩ := t
 rw [wT_mk]; omega
theorem mul_upG {a b c d x : Nat} (h : x ≤ a * b) (h1 : a ≤ c) (h2 : b ≤ d) : x ≤ c * d := Nat.le_trans h (Nat.mul_le_mul h1 h2)
theorem cntL_dropG : ∀ l : List Ty, cntL l.dropLast ≤ cntL l
 | [] => Nat.le_refl _
 | [a] => Nat.zero_le _
 | a :: b :: l => by
  have := cntL_dropG (b :: l)
  rw [List.dropLast_cons_cons, cntL_cons, cntL_cons]; omega
theorem cntL_lastD : ∀ (l : List Ty) (q : Ty), l.getLast? = some q → cntL l.dropLast + cntT q = cntL l
 | [a], q, h => by
  have e : a = q := by simpa using h
  subst e
  simp [cntL]
 | a :: b :: l, q, h => by
  have := cntL_lastD (b :: l) q (by rw [← h]; simp)
  rw [List.dropLast_cons_cons, cntL_cons, cntL_cons]; omega
theorem cnt_parts (t : Ty) : cntL t.ps + cntF t.fs + 1 ≤ cntT t := by
 obtain ⟨k, s, n, ps, fs, vs⟩ := t
 rw [cntT_mk]; show cntL ps + cntF fs + 1 ≤ _; omega
theorem mem_dropLast {l : List Ty} {x : Ty} (h : x ∈ l.dropLast) : x ∈ l := List.dropLast_subset _ h
theorem len_ite {α : Type} {c : Prop} [Decidable c] {a b : List α} {n : Nat} (h1 : c → a.length ≤ n) (h2 : ¬ c → b.length ≤ n) : (if c then a else b).length ≤ n := by
 by_cases h : c
 ·rw [if_pos h]; exact h1 h
 ·rw [if_neg h]; exact h2 h
theorem gath_len (p t : Ty) : (gathT p t).length ≤ cntT p * wT t := by
 have hc := cnt_parts p
 have hw := w_ps t
 have ih1 : ∀ q ∈ p.ps, ∀ u, (gathT q u).length ≤ cntT q * wT u := fun q hq u => gath_len q u
 have ih2 : ∀ u ∈ t.ps, (gathT p u).length ≤ cntT p * wT u := fun u hu => gath_len p u
 have ih3 : ∀ f ∈ p.fs, ∀ u, (gathT f.2.2 u).length ≤ cntT f.2.2 * wT u := fun f hf u => gath_len f.2.2 u
 have zip : ∀ ps ts : List Ty, (∀ q ∈ ps, q ∈ p.ps) → (∀ u ∈ ts, u ∈ t.ps) → (List.zipWith gathT ps ts).flatten.length ≤ cntL ps * wT t := fun ps ts h1 h2 => len_zip _ _ _ fun q hq u hu => mul_upG (ih1 q (h1 q hq) u) (Nat.le_refl _) (by have := wL_mem (h2 u hu); omega)
 rw [gathT_eq]
 refine len_ite (fun _ => Nat.zero_le _) fun _ => len_ite (fun _ => ?_) fun _ => len_ite (fun _ => ?_) fun _ => len_ite (fun _ => Nat.zero_le _) fun _ => len_ite (fun _ => ?_) fun _ => len_ite (fun _ => ?_) fun _ => len_ite (fun _ => Nat.zero_le _) fun _ => len_ite (fun _ => ?_) fun _ => len_ite (fun _ => len_ite (fun _ => ?_) fun _ => Nat.zero_le _) fun _ => len_ite (fun _ => ?_) fun _ => len_ite (fun _ => ?_) fun _ => Nat.zero_le _
 ·have h := Nat.mul_le_mul (cnt_pos p) (w_pos t)
  rw [Nat.mul_one] at h
  exact h
 ·exact mul_upG (len_flat (wT t) (fun q => gathT q t) cntT p.ps fun q hq => ih1 q hq t) (show cntL p.ps ≤ _ by omega) (Nat.le_refl _)
 ·have h := len_flat (cntT p) (gathT p) wT t.ps fun u hu => by rw [Nat.mul_comm]; exact ih2 u hu
  rw [Nat.mul_comm]
  exact mul_upG h (show wL t.ps ≤ _ by omega) (Nat.le_refl _)
 ·have h1 := w_union t.ps
  exact Nat.le_trans (len_head _) (mul_upG (len_flat (wT (unionT t.ps)) (fun q => gathT q (unionT t.ps)) cntT p.ps fun q hq => ih1 q hq _) (show cntL p.ps ≤ _ by omega) (by omega))
 ·exact Nat.le_trans (len_head _) (mul_upG (zip p.ps t.ps (fun _ h => h) fun _ h => h) (by omega) (Nat.le_refl _))
 ·exact mul_upG (zip p.ps t.ps (fun _ h => h) fun _ h => h) (by omega) (Nat.le_refl _)
 ·rw [List.length_append]
  have h1 := zip p.ps.dropLast t.ps.dropLast (fun _ h => mem_dropLast h) fun _ h => mem_dropLast h
  cases hq : p.ps.getLast? with
  | none =>
   have := cntL_dropG p.ps
   exact mul_upG h1 (by omega) (Nat.le_refl _)
  | some q =>
   have h2 := cntL_lastD _ _ hq
   cases hu : t.ps.getLast? with
   | none => exact mul_upG h1 (by omega) (Nat.le_refl _)
   | some u =>
    have h3 := mul_upG (ih1 q (List.mem_of_getLast? hq) u) (Nat.le_refl _) (show wT u ≤ wT t by have := wL_mem (List.mem_of_getLast? hu); omega)
    refine Nat.le_trans (Nat.add_le_add h1 h3) ?_
    rw [← Nat.add_mul]
    exact Nat.mul_le_mul (by omega) (Nat.le_refl _)
 ·refine mul_upG (len_flat (wT t) _ (fun f => cntT f.2.2) p.fs fun f hf => ?_) (show cntF p.fs ≤ _ by omega) (Nat.le_refl _)
  cases hg : t.fs.find? fun g => decide (g.1 = f.1) with
  | none => exact Nat.zero_le _
  | some g => exact mul_upG (ih3 f hf (heldT g)) (Nat.le_refl _) (w_held (List.mem_of_find?_eq_some hg))
termination_by (SizeOf.sizeOf p, SizeOf.sizeOf t)
decreasing_by
 all_goals first
  | exact Prod.Lex.left _ _ (lt_ps ‹_›)
  | exact Prod.Lex.right _ (lt_ps ‹_›)
  | skip
 all_goals (cases p; exact Prod.Lex.left _ _ (ty_lt_f ‹_›))
theorem w_cnt (t : Ty) : wT t + 2 ≤ 3 * cntT t := by
 refine Ty.ind (C := fun t => wT t + 2 ≤ 3 * cntT t) (fun k t n ps fs vs hp hf _ => ?_) t
 have h1 : ∀ l : List Ty, (∀ p ∈ l, wT p + 2 ≤ 3 * cntT p) → wL l ≤ 3 * cntL l := fun l => by
  induction l with
  | nil => intro _; exact Nat.zero_le _
  | cons a l ih => intro h; have := h a List.mem_cons_self; have := ih fun q hq => h q (List.mem_cons_of_mem _ hq); rw [wL_cons, cntL_cons]; omega
 have h2 : ∀ l : FsT, (∀ f ∈ l, wT f.2.2 + 2 ≤ 3 * cntT f.2.2) → wF l ≤ 3 * cntF l := fun l => by
  induction l with
  | nil => intro _; exact Nat.zero_le _
  | cons a l ih =>
   intro h
   have e : wF (a :: l) = (wT a.2.2 + 2) + wF l := by simp [wF]
   have e2 : cntF (a :: l) = cntT a.2.2 + cntF l := by simp [cntF]
   have := h a List.mem_cons_self
   have := ih fun q hq => h q (List.mem_cons_of_mem _ hq)
   omega
 have := h1 ps hp
 have := h2 fs hf
 rw [wT_mk, cntT_mk]
 omega
def KeepE {α : Type} (E : (Nat → Prop) → World → α → List Value → Prop) : Prop := ∀ (K K' : Nat → Prop) (w w' : World) (a : α) (cs : List Value), (∀ b, K b → K' b ∧ (b < w.heap.size → w'.heap[b]? = w.heap[b]?)) → E K w a cs → E K' w' a cs
structure OwnE {α : Type} (E : (Nat → Prop) → World → α → List Value → Prop) (T : TypeId) (z B : Nat) (w : World) (v : Value) (l : List α) : Prop where
 ex : ∃ vs, w.ownsRow B T z v l.length vs ∧ ∀ i (h : i < l.length), ∃ cs, E (fun b => b < w.heap.size ∧ v.ownBlock ≠ some b) w l[i] cs ∧ cs.length = z ∧ ∀ j u, cs[j]? = some u → vs[i * z + j]? = some u
theorem OwnE.nil {α : Type} {E : (Nat → Prop) → World → α → List Value → Prop} {T : TypeId} {z B : Nat} {w : World} : OwnE E T z B w (.slice none 0 0) [] :=
 ⟨[], ⟨by simp, .inl ⟨rfl, rfl⟩⟩, fun i h => absurd h (by simp)⟩
structure Gro (v : Value) (w : World) (v' : Value) (w' : World) : Prop where
 but : ButG (fun x => v.ownBlock = some x) w w'
 own : v'.ownBlock = v.ownBlock ∨ ∃ b, v'.ownBlock = some b ∧ w.heap.size ≤ b
theorem Gro.refl (v : Value) (w : World) : Gro v w v w := ⟨ButG.refl _ _, .inl rfl⟩
theorem Gro.below {v : Value} {w w' : World} (h : Below w.heap.size w w') : Gro v w v w' := ⟨ButG.of_below h, .inl rfl⟩
theorem Gro.trans {v v1 v2 : Value} {w w1 w2 : World} (h : Gro v w v1 w1) (h' : Gro v1 w1 v2 w2) : Gro v w v2 w2 := by
 have hs := h.but.size
 refine ⟨h.but.trans h'.but fun x hx => ?_, ?_⟩
 ·rcases h.own with e | ⟨c, e, hc⟩
  ·exact .inl (by rw [← e]; exact hx)
  ·rw [e] at hx
   injection hx with hx
   exact .inr (by omega)
 ·rcases h'.own with e | ⟨c, e, hc⟩
  ·rw [e]; exact h.own
  ·exact .inr ⟨c, e, by omega⟩
def Off (v : Value) (w : World) (K : Nat → Prop) : Prop := ∀ b, K b → b < w.heap.size ∧ v.ownBlock ≠ some b
theorem Gro.off {v v' : Value} {w w' : World} {K : Nat → Prop} (h : Gro v w v' w') (hk : Off v w K) : Off v' w' K := fun b hb => by
 obtain ⟨h1, h2⟩ := hk b hb
 refine ⟨Nat.lt_of_lt_of_le h1 h.but.size, ?_⟩
 rcases h.own with e | ⟨c, e, hc⟩
 ·rw [e]; exact h2
 ·rw [e]; intro e2; injection e2 with e2; omega
theorem Gro.rep {v v' : Value} {w w' : World} {K : Nat → Prop} {t : Ty} {cs : List Value} (h : Gro v w v' w') (hk : Off v w K) (hr : RepT K w t cs) : RepT K w' t cs :=
 RepT.keep (fun _ h => h) (fun b _ _ hb hc => h.but.cell (hk b hb).2 hc) _ _ hr
theorem Gro.cell {v v' : Value} {w w' : World} {b o : Nat} {u : Value} (h : Gro v w v' w') (hn : v.ownBlock ≠ some b) (hc : w.cell? ⟨b, o, none⟩ = some u) : w'.cell? ⟨b, o, none⟩ = some u := h.but.cell hn hc
theorem Gro.list {v v' : Value} {w w' : World} {K : Nat → Prop} {l : List Ty} {A : Option Addr} {c : Nat} (h : Gro v w v' w') (hk : Off v w K) (hL : ListT K w l A c) : ListT K w' l A c := by
 obtain ⟨b, o, h1, h2⟩ := hL
 refine ⟨b, o, h1, fun i hi => ?_⟩
 have hb := (h1.some (by omega)).2
 exact (h2 i hi).keep (fun _ h => h) (fun x _ _ hx hc => h.but.cell (hk x hx).2 hc) fun _ _ hc => h.but.cell (hk b hb).2 hc
theorem OwnE.lt {α : Type} {E : (Nat → Prop) → World → α → List Value → Prop} {T : TypeId} {z B : Nat} {w : World} {v : Value} {l : List α} (h : OwnE E T z B w v l) {b : Nat} (hb : v.ownBlock = some b) : B ≤ b ∧ b < w.heap.size := by
 obtain ⟨vs, h1, _⟩ := h
 exact h1.lt b hb
theorem ownsRow_keep {w w' : World} {B T z n : Nat} {v : Value} {xs : List Value} (h : w.ownsRow B T z v n xs) (hk : ∀ b, v.ownBlock = some b → w'.heap[b]? = w.heap[b]?) : w'.ownsRow B T z v n xs := by
 refine ⟨h.1, ?_⟩
 rcases h.2 with h3 | ⟨g, cap, cur, hv, hg, hh, r⟩
 ·exact .inl h3
 ·exact .inr ⟨g, cap, cur, hv, hg, by rw [hk g (by rw [hv]; rfl)]; exact hh, r⟩
theorem OwnE.later {α : Type} {E : (Nat → Prop) → World → α → List Value → Prop} (hE : KeepE E) {T : TypeId} {z B : Nat} {w w' : World} {v : Value} {l : List α} (h : OwnE E T z B w v l) (hb : Below w.heap.size w w') : OwnE E T z B w' v l := by
 have hlt := fun b (e : v.ownBlock = some b) => (h.lt e).2
 obtain ⟨vs, h1, h2⟩ := h
 refine ⟨vs, ownsRow_keep h1 fun b e => hb.block b (hlt b e), fun i hi => ?_⟩
 obtain ⟨cs, h3, h4, h5⟩ := h2 i hi
 exact ⟨cs, hE _ _ _ _ _ _ (fun b hx => ⟨⟨Nat.lt_of_lt_of_le hx.1 hb.size, hx.2⟩, fun hlt => hb.block b hlt⟩) h3, h4, h5⟩
theorem OwnE.push {α : Type} {E : (Nat → Prop) → World → α → List Value → Prop} (hE : KeepE E) {T : TypeId} {z B : Nat} {w wx w' : World} {v v' : Value} {l : List α} {a : α} {vs cs : List Value} (hown : w.ownsRow B T z v l.length vs)
  (hr : ∀ i (h : i < l.length), ∃ cs, E (fun b => b < w.heap.size ∧ v.ownBlock ≠ some b) w l[i] cs ∧ cs.length = z ∧ ∀ j u, cs[j]? = some u → vs[i * z + j]? = some u) (hb : Below w.heap.size w wx)
  (ha : E (fun b => b < wx.heap.size ∧ v.ownBlock ≠ some b) wx a cs) (hz : cs.length = z) (ho : w'.ownsRow B T z v' (l.length + 1) (vs ++ cs)) (hg : wx.grownBy w' v.ownBlock) (hob : v'.ownBlock = v.ownBlock ∨ v'.ownBlock = some wx.heap.size) :
  OwnE E T z B w' v' (l ++ [a]) ∧ Gro v w v' w' := by
 have hvl := hown.1
 have hs := hb.size
 have hkeep : ∀ b, b < wx.heap.size ∧ v.ownBlock ≠ some b → (b < w'.heap.size ∧ v'.ownBlock ≠ some b) ∧ w'.heap[b]? = wx.heap[b]? := fun b hx => by
  refine ⟨⟨Nat.lt_of_lt_of_le hx.1 hg.size, ?_⟩, hg.block b hx.1 fun e => hx.2 e.symm⟩
  rcases hob with e | e
  ·rw [e]; exact hx.2
  ·rw [e]; intro e2; injection e2 with e2; omega
 refine ⟨⟨vs ++ cs, by rw [List.length_append]; exact ho, fun i hi => ?_⟩, ⟨(ButG.of_below hb).grown hg fun k hk => .inl hk, ?_⟩⟩
 ·rw [List.length_append, List.length_singleton] at hi
  by_cases hlt : i < l.length
  ·obtain ⟨cs', h1, h2, h3⟩ := hr i hlt
   refine ⟨cs', ?_, h2, fun j u hj => ?_⟩
   ·rw [List.getElem_append_left hlt]
    refine hE _ _ _ _ _ _ (fun b hx => ?_) h1
    have h4 := hkeep b ⟨by omega, hx.2⟩
    exact ⟨h4.1, fun _ => h4.2.trans (hb.block b hx.1)⟩
   ·have h4 := h3 j u hj
    rw [List.getElem?_append_left (List.getElem?_eq_some_iff.1 h4).1]
    exact h4
  ·obtain rfl : i = l.length := by omega
   refine ⟨cs, ?_, hz, fun j u hj => ?_⟩
   ·rw [List.getElem_append_right (by omega)]
    simp only [Nat.sub_self, List.getElem_cons_zero]
    exact hE _ _ _ _ _ _ (fun b hx => ⟨(hkeep b hx).1, fun _ => (hkeep b hx).2⟩) ha
   ·rw [List.getElem?_append_right (by omega), show l.length * z + j - vs.length = j from by omega]
    exact hj
 ·rcases hob with e | e
  ·exact .inl e
  ·exact .inr ⟨_, e, hs⟩
theorem OwnE.slice {α : Type} {E : (Nat → Prop) → World → α → List Value → Prop} {T : TypeId} {z B : Nat} {w : World} {v : Value} {l : List α} (h : OwnE E T z B w v l) : ∃ A c, v = .slice A l.length c ∧ ((l = [] ∧ A = none ∧ c = 0) ∨ ∃ g, A = some ⟨g, 0, none⟩ ∧ B ≤ g ∧ g < w.heap.size) ∧ ∀ i (h : i < l.length), ∃ g cs, A = some ⟨g, 0, none⟩ ∧ E (fun b => b < w.heap.size ∧ b ≠ g) w l[i] cs ∧ cs.length = z ∧ ∀ j u, cs[j]? = some u → w.cell? ⟨g, i * z + j, none⟩ = some u := by
 obtain ⟨vs, h1, h2⟩ := h
 rcases h1.2 with ⟨hv, hn⟩ | ⟨g, cap, cur, hv, hg, hh, hle, hmax, hsz, htk⟩
 ·have hl := List.eq_nil_of_length_eq_zero hn
  subst hl
  exact ⟨none, 0, hv, .inl ⟨rfl, rfl, rfl⟩, fun i hi => absurd hi (by simp)⟩
 ·refine ⟨_, cap, hv, .inr ⟨g, rfl, hg, (Array.getElem?_eq_some_iff.1 hh).1⟩, fun i hi => ?_⟩
  obtain ⟨cs, h3, h4, h5⟩ := h2 i hi
  subst hv
  refine ⟨g, cs, rfl, ?_, h4, fun j u hj => ?_⟩
  ·have e : (fun b => b < w.heap.size ∧ (Value.slice (some ⟨g, 0, none⟩) l.length cap).ownBlock ≠ some b) = fun b => b < w.heap.size ∧ b ≠ g := by
    funext b
    simp only [Value.ownBlock, ne_eq, Option.some.injEq, eq_iff_iff, and_congr_right_iff]
    exact fun _ => ⟨fun h e => h e.symm, fun h e => h e.symm⟩
   rw [← e]; exact h3
  ·have h6 := h5 j u hj
   rw [← htk, List.getElem?_take] at h6
   split at h6
   ·rw [Ch hh]; simpa using h6
   ·cases h6
def TyE (K : Nat → Prop) (w : World) (t : Ty) (cs : List Value) : Prop := RepT K w t cs
theorem keepTy : KeepE TyE := fun K K' w w' a cs h h1 => by
 have h2 := RepT.both a cs h1
 exact RepT.keep (fun b hb => (h b hb.1).1) (fun b _ _ hb hc => (World.cell?_of_block ((h b hb.1).2 hb.2)).trans hc) _ _ h2
def FdE (K : Nat → Prop) (w : World) (a : ByteArray × Ty) (cs : List Value) : Prop := ∃ rs, cs = .string a.1 :: rs ∧ RepT K w a.2 rs
theorem keepFd : KeepE FdE := fun K K' w w' a _ h ⟨rs, e, h1⟩ => ⟨rs, e, keepTy K K' w w' a.2 rs h h1⟩
def GdE (K : Nat → Prop) (w : World) (a : ByteArray × List Ty) (cs : List Value) : Prop := ∃ A c, cs = [.string a.1, .slice A a.2.length c] ∧ ListT K w a.2 A c
end Go.Proofs.YtjbccjmpebgdjaaGreatDoor
