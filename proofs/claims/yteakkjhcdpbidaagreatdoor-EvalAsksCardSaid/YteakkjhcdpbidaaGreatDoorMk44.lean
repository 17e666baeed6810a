import Derived.Test.YteakkjhcdpbidaaGreatDoorMk41
namespace Go.Proofs.YteakkjhcdpbidaaGreatDoor
set_option maxRecDepth 100000
set_option maxHeartbeats 64000000
open Go.RowKit
def aB : ByteArray := ⟨#[97]⟩
def objA : Ty := .mk 14 emptyB 0 [] [(aB, 0, tyK 7)] []
theorem name_a : nameT aB = true := by kernel_rfl
theorem form_objA : formT objA = true := by
 unfold objA
 rw [formT_mk, show shapeK 14 = ⟨false, false, true, false, 0, 0, true⟩ from rfl]
 have hf : fieldsB (fieldsT [(aB, 0, tyK 7)] formT) = true := by
  unfold fieldsB
  rw [range_all]
  intro j hj
  have hj0 : j = 0 := by simp [fieldsT] at hj; exact hj
  subst hj0
  rw [okF_zero (by simp)]
  simp [name_a, form_tyK (k := 7) (by decide) (by decide)]
 have hs : selfB 14 emptyB 0 [] (fieldsB (fieldsT [(aB, 0, tyK 7)] formT)) (varsB (varsT [] formT)) = true := by
  unfold selfB
  simpa using hf
 rw [hs]
 unfold fitsB
 simp [emptyL]
theorem cnt_objA : cntT objA = 2 := by
 unfold objA
 rw [cntT_mk]
 simp [cntL, cntF, cntV, cnt_kind]
theorem formed_objA : formedT objA = true := by
 unfold formedT
 rw [cnt_objA, form_objA]; rfl
theorem keys_objA : unionT ([aB].map strT) = strT aB := union_self (form_str aB)
theorem at_objA : atT objA (strT aB) = tyK 7 := by
 rw [at_object rfl]
 have e : Ty.fs objA = [(aB, 0, tyK 7)] := rfl
 rw [e]
 unfold fieldT
 simp [heldT]
theorem formed_str (s : ByteArray) : formedT (strT s) = true := by
 unfold formedT
 rw [form_str, show cntT (strT s) = 1 from by unfold strT; rw [cntT_mk]; rfl]; rfl
theorem ekeys_object {K : Nat → Prop} {w : World} {t : Ty} {cs : List Value} (hr : RepT K w t cs) (hlo : ∀ b, K b → b < w.heap.size) (hft : formedT t = true) (hk : t.k = 14) (hsz : ∀ f ∈ t.fs, f.1.size ≤ 1000000000000000) :
  Calls Tryz.prog 6 #[.agg cs.toArray] w (OkPost K w (unionT (t.fs.map fun f => strT f.1))) := by
 have hcnt : cntT t ≤ 4096 := by
  unfold formedT at hft
  rw [Bool.and_eq_true, decide_eq_true_eq] at hft
  exact hft.1
 refine ekeys_ok hr hlo hft fun wx hx => ?_
 obtain ⟨k, s, n, ps, fs, vs⟩ := t
 have hk' : k = 14 := hk
 subst hk'
 have hfl : fs.length ≤ 4096 := by
  rw [cntT_mk] at hcnt
  have h : ∀ l : FsT, l.length ≤ cntF l := fun l => by
   induction l with
   | nil => simp
   | cons a l ih => rw [show cntF (a :: l) = cntT a.2.2 + cntF l by simp [cntF], List.length_cons]; have := cntT_pos a.2.2; omega
  have := h fs
  omega
 have h := lkeys_some union_p (hr.later hx) (fun b hb => Nat.lt_of_lt_of_le (hlo b hb) hx.size) (fs.map fun f => f.1) (by rw [List.length_map]; omega) (fun x hx2 => by
  obtain ⟨f, hf, rfl⟩ := List.mem_map.1 hx2
  exact hsz f hf) fun wy hy => keys_14 s n ps fs vs ((hr.later hx).later hy) (by omega)
 rw [List.map_map] at h
 exact h
theorem awake13 (w : World) : Calls Tryz.prog 4 #[] w fun e w' => e = .returned (.bool true) ∧ Below w.heap.size w w' := by
 go_enter Tryz.func4, Tryz.ntmps4
 go_wp2_with fail
 refine (of13 7 w).mono ?_
 rintro e w2 ⟨rfl, hb2⟩
 have HB2 := Hd hb2
 clear hb2
 go_upto_region 2 with fail
 generalize hW : (w2.alloc (.cells #[.string ⟨#[97]⟩, .int .i64 0, .int .i64 7, .string ⟨#[]⟩, .int .i64 0, .slice none 0 0, .slice none 0 0, .slice none 0 0] 37)).alloc (.cells #[.int .i64 14, .string ⟨#[]⟩, .int .i64 0, .slice none 0 0, .slice (some ⟨w2.heap.size, 0, none⟩) 1 1, .slice none 0 0] 26) = w1
 have hb1 : Below w2.heap.size w2 w1 := by rw [← hW]; exact ((Below.refl _ _).alloc (Nat.le_refl _) _).alloc (by simp) _
 have hs1 : w1.heap.size = w2.heap.size + 2 := by rw [← hW]; simp
 have hxf : w1.heap[w2.heap.size]? = some (.cells #[.string ⟨#[97]⟩, .int .i64 0, .int .i64 7, .string ⟨#[]⟩, .int .i64 0, .slice none 0 0, .slice none 0 0, .slice none 0 0] 37 (0, 0)) := by rw [← hW, Below.heap_alloc _ _ _ (by simp)]; exact heap_alloc_new w2 _
 have hxo : w1.heap[w2.heap.size + 1]? = some (.cells #[.int .i64 14, .string ⟨#[]⟩, .int .i64 0, .slice none 0 0, .slice (some ⟨w2.heap.size, 0, none⟩) 1 1, .slice none 0 0] 26 (0, 0)) := by
  rw [← hW]
  have h := heap_alloc_new (w2.alloc (.cells #[.string ⟨#[97]⟩, .int .i64 0, .int .i64 7, .string ⟨#[]⟩, .int .i64 0, .slice none 0 0, .slice none 0 0, .slice none 0 0] 37)) (.cells #[.int .i64 14, .string ⟨#[]⟩, .int .i64 0, .slice none 0 0, .slice (some ⟨w2.heap.size, 0, none⟩) 1 1, .slice none 0 0] 26)
  rw [World.size_alloc] at h
  exact h
 have hrep : RepT (fun b => b = w2.heap.size) w1 objA [.int .i64 14, .string ⟨#[]⟩, .int .i64 0, .slice none 0 0, .slice (some ⟨w2.heap.size, 0, none⟩) 1 1, .slice none 0 0] := by
  refine RepT.of (by decide) ⟨⟨0, 0, ⟨by simp, by decide, fun _ => rfl, fun h => absurd h (by simp)⟩, fun i h => absurd h (by simp)⟩⟩ ⟨⟨w2.heap.size, 0, ⟨by simp, by decide, (fun h => by cases h), fun _ => ⟨rfl, rfl⟩⟩, fun i hi => ?_⟩⟩ ⟨⟨0, 0, ⟨by simp, by decide, fun _ => rfl, fun h => absurd h (by simp)⟩, fun i h => absurd h (by simp)⟩⟩
  have hi0 : i = 0 := by simpa using hi
  subst hi0
  refine ⟨by rw [Ch hxf]; rfl, by rw [Ch hxf]; rfl, (show aB.size ≤ 1000000000000000 by decide), [.int .i64 7, .string ⟨#[]⟩, .int .i64 0, .slice none 0 0, .slice none 0 0, .slice none 0 0], fun j u hj => ?_, rep_k _ _ 7⟩
  rw [Ch hxf]
  rcases j with _ | _ | _ | _ | _ | _ | j
  all_goals first | exact hj | (simp at hj)
 have hlo : ∀ b, b = w2.heap.size → b < w1.heap.size := fun b h => by omega
 have KKeys := Hd (ekeys_object hrep hlo formed_objA rfl (fun f hf => by
  have e : Ty.fs objA = [(aB, 0, tyK 7)] := rfl
  rw [e, List.mem_singleton] at hf
  subst hf; decide))
 have HKE : Hid (unionT (objA.fs.map fun f => strT f.1) = strT aB) := Hd keys_objA
 have HREP := Hd hrep
 have HXO1 := Hd hxo
 have HB1 := Hd hb1
 have HS1 := Hd hs1
 obtain ⟨x0, x1, x2, x3, x4, x5⟩ := cz6 hxo
 clear hW hb1 hs1 hxf hxo hrep hlo
 go_wp2_with fail
 refine KKeys.out.mono ?_
 rintro e w3 ⟨rs, rfl, hr3, hb3⟩
 rw [HKE.out] at hr3
 unfold strT at hr3
 obtain ⟨A3, c3, B3, d3, C3, e3, rfl, -⟩ := hr3.inv
 simp only [cells6T, List.length_nil] at hr3 ⊢
 have HR3 := Hd hr3
 have HB3 := Hd hb3
 clear hr3 hb3 KKeys x0 x1 x2 x3 x4 x5
 go_upto_region 3 with fail
 generalize hW : w3.alloc (.cells #[.int .i64 10, .string aB, .int .i64 0, .slice A3 0 c3, .slice B3 0 d3, .slice C3 0 e3] 26) = w4
 have hb4 : Below w3.heap.size w3 w4 := by rw [← hW]; exact (Below.refl _ _).alloc (Nat.le_refl _) _
 have hx4 : w4.heap[w3.heap.size]? = some (.cells #[.int .i64 10, .string aB, .int .i64 0, .slice A3 0 c3, .slice B3 0 d3, .slice C3 0 e3] 26 (0, 0)) := by rw [← hW]; exact heap_alloc_new w3 _
 have hl4 : w3.heap.size < w4.heap.size := by rw [← hW]; simp
 have HXK := Hd hx4
 have HLT3 := Hd hl4
 have hb14 := HB3.out.trans (hb4.mono HB3.out.size)
 have HBZ : Hid (Below w.heap.size w w4) := Hd (HB2.out.trans ((HB1.out.trans (hb14.mono HB1.out.size)).mono HB2.out.size))
 have HRK : Hid (RepT (fun _ => True) w4 (strT aB) [.int .i64 10, .string aB, .int .i64 0, .slice A3 0 c3, .slice B3 0 d3, .slice C3 0 e3]) := Hd ((HR3.out.later hb4).weak fun _ _ => trivial)
 have HXO : Hid (∀ wx, Below w4.heap.size w4 wx → wx.cell? ⟨w2.heap.size + 1, 0, none⟩ = some (.int .i64 14) ∧ wx.cell? ⟨w2.heap.size + 1, 1, none⟩ = some (.string ⟨#[]⟩) ∧ wx.cell? ⟨w2.heap.size + 1, 2, none⟩ = some (.int .i64 0) ∧ wx.cell? ⟨w2.heap.size + 1, 3, none⟩ = some (.slice none 0 0) ∧ wx.cell? ⟨w2.heap.size + 1, 4, none⟩ = some (.slice (some ⟨w2.heap.size, 0, none⟩) 1 1) ∧ wx.cell? ⟨w2.heap.size + 1, 5, none⟩ = some (.slice none 0 0)) := Hd fun wx hx => by
  have h := box_up (hb14.trans (hx.mono hb14.size)) (by have := HS1.out; omega) HXO1.out
  exact ⟨Ch h 0, Ch h 1, Ch h 2, Ch h 3, Ch h 4, Ch h 5⟩
 have KAt := Hd fun wx (hx : Below w4.heap.size w4 wx) => evalat_ok (K := fun b => b = w2.heap.size) (HREP.out.later (hb14.trans (hx.mono hb14.size))) (rep_str _ wx aB (by decide)) (fun b hb => by have := HS1.out; have := hb14.size; have := hx.size; omega) formed_objA (formed_str aB)
 rw [at_objA] at KAt
 unfold tyK at KAt
 clear hW hb4 hx4 hl4 hb14
 refine wp_region_held_drew (S := (fun w' => w'.cell? ⟨w2.heap.size + 1, 0, none⟩ = some (.int .i64 14) ∧ w'.cell? ⟨w2.heap.size + 1, 1, none⟩ = some (.string ⟨#[]⟩) ∧ w'.cell? ⟨w2.heap.size + 1, 2, none⟩ = some (.int .i64 0) ∧ w'.cell? ⟨w2.heap.size + 1, 3, none⟩ = some (.slice none 0 0) ∧ w'.cell? ⟨w2.heap.size + 1, 4, none⟩ = some (.slice (some ⟨w2.heap.size, 0, none⟩) 1 1) ∧ w'.cell? ⟨w2.heap.size + 1, 5, none⟩ = some (.slice none 0 0))) (by kernel_rfl) (HXO.out _ (Below.refl _ _).drew) (fun hHeld => ?_)
 refine Plan.start [0] ?_
 refine Plan.tk (so rfl) hHeld ?_
 try simp only [Act.put, pz1, pz2, pz3]
 refine Plan.done ?_
 refine wpAnyH_ready (rs := [1, 6]) (by kernel_rfl) (by simp) ?_
 refine AllReadyH.cons (sd (some 17) rfl) (fun Kx hK => ?_) (AllReadyH.cons (sd (some 4) rfl) (fun Kx hK => ?_) AllReadyH.nil)
 ·go_simp
  refine (str13 _ _).mono ?_
  rintro e w6 ⟨rfl, hb⟩
  have HB6 := Hd ((Below.refl w4.heap.size w4).drew.trans (hb.mono (Below.refl w4.heap.size w4).drew.size))
  clear hb
  go_wp2_with fail
  refine hK.out _ _ (HXO.out _ HB6.out) (fun hHeld => ?_)
  clear hK Kx
  try simp only [Act.put, pz1, pz2, pz3]
  refine wpAnyH_ready (rs := [2, 6]) (by kernel_rfl) (by simp) ?_
  refine AllReadyH.cons (sd (some 18) rfl) (fun Kx hK => ?_) (AllReadyH.cons (sd (some 4) rfl) (fun Kx hK => ?_) AllReadyH.nil)
  ·go_simp
   refine (KAt.out _ HB6.out).mono ?_
   rintro e w7 ⟨rs, rfl, hra, hb⟩
   have HB7 := Hd (HB6.out.trans (hb.mono HB6.out.size))
   obtain ⟨Aq, cq, Ag, cg, Ah, ch, rfl, -⟩ := hra.inv
   simp only [cells6T, List.length_nil] at hra ⊢
   clear hra hb
   go_wp2_with fail
   refine hK.out _ _ (HXO.out _ HB7.out) (fun hHeld => ?_)
   clear hK Kx
   try simp only [Act.put, pz1, pz2, pz3]
   refine Plan.start [3, 4, 5] ?_
   iterate 3 (refine Plan.tk (so rfl) hHeld ?_; try simp only [Act.put, pz1, pz2, pz3])
   refine Plan.done ?_
   refine wpAnyH_ready (rs := [6]) (by kernel_rfl) (by simp) ?_
   refine AllReadyH.cons (sd (some 4) rfl) (fun Kx hK => ?_) AllReadyH.nil
   go_simp
   generalize hW : World.alloc w7 (.cells #[.int .i64 0, .string ⟨#[]⟩, .int .i64 0, .slice none 0 0, .slice none 0 0, .slice none 0 0] 26) = w8
   have hb : Below w7.heap.size w7 w8 := by rw [← hW]; exact (Below.refl w7.heap.size w7).alloc (Nat.le_refl _) _
   have hx : w8.heap[w7.heap.size]? = some (.cells #[.int .i64 0, .string ⟨#[]⟩, .int .i64 0, .slice none 0 0, .slice none 0 0, .slice none 0 0] 26 (0, 0)) := by rw [← hW]; exact heap_alloc_new (w7) _
   clear hW
   have HB8 := Hd (HB7.out.trans (hb.mono HB7.out.size))
   have HX8 := Hd hx
   clear hb hx
   refine hK.out _ _ (HXO.out _ HB8.out) (fun hHeld => ?_)
   clear hK Kx
   try simp only [Act.put, pz1, pz2, pz3]
   refine wpAnyH_ready (rs := [7]) (by kernel_rfl) (by simp) ?_
   refine AllReadyH.cons (sd none rfl) (fun Kx hK => ?_) AllReadyH.nil
   go_simp
   have rb := HX8.out
   obtain ⟨q0, q1, q2, q3, q4, q5, z0, z1, z2, z3, z4, z5⟩ := qz6 rb
   clear rb
   go_simp
   have hx := six_set HX8.out (.int .i64 7) (.string emptyB) (.int .i64 0) (.slice Aq 0 cq) (.slice Ag 0 cg) (.slice Ah 0 ch)
   have hbn := set_six_below HB8.out (HB7.out).size (.int .i64 7) (.string emptyB) (.int .i64 0) (.slice Aq 0 cq) (.slice Ag 0 cg) (.slice Ah 0 ch)
   generalize hW : (World.setCell (World.setCell (World.setCell (World.setCell (World.setCell (World.setCell w8 ⟨w7.heap.size, 0, none⟩ (.int .i64 7)) ⟨w7.heap.size, 1, none⟩ (.string emptyB)) ⟨w7.heap.size, 2, none⟩ (.int .i64 0)) ⟨w7.heap.size, 3, none⟩ (.slice Aq 0 cq)) ⟨w7.heap.size, 4, none⟩ (.slice Ag 0 cg)) ⟨w7.heap.size, 5, none⟩ (.slice Ah 0 ch)) = w9 at hx hbn
   clear hW q0 q1 q2 q3 q4 q5 z0 z1 z2 z3 z4 z5
   have HB9 := Hd hbn
   have HX9 := Hd hx
   clear hx hbn
   refine hK.out _ _ (HXO.out _ HB9.out) (fun hHeld => ?_)
   clear hK Kx
   try simp only [Act.put, pz1, pz2, pz3]
   refine Plan.start [8] ?_
   refine Plan.tk (so rfl) hHeld ?_
   try simp only [Act.put, pz1, pz2, pz3]
   refine Plan.done ?_
   refine wpAnyH_done (by kernel_rfl) ?_ _
   clear hHeld
   go_upto_region 4 with fail
   have HC4 : Hid (∀ wx, Below w9.heap.size w9 wx → (wx.cell? ⟨w3.heap.size, 0, none⟩ = some (.int .i64 10) ∧ wx.cell? ⟨w3.heap.size, 1, none⟩ = some (.string aB) ∧ wx.cell? ⟨w3.heap.size, 2, none⟩ = some (.int .i64 0) ∧ wx.cell? ⟨w3.heap.size, 3, none⟩ = some (.slice A3 0 c3) ∧ wx.cell? ⟨w3.heap.size, 4, none⟩ = some (.slice B3 0 d3) ∧ wx.cell? ⟨w3.heap.size, 5, none⟩ = some (.slice C3 0 e3)) ∧ wx.cell? ⟨w7.heap.size, 0, none⟩ = some (.int .i64 7)) := Hd fun wx hx => by
    have h1 := box_up (HB9.out.trans (hx.mono HB9.out.size)) HLT3.out HXK.out
    have h2 := box_up hx (Array.getElem?_eq_some_iff.1 HX9.out).1 HX9.out
    exact ⟨⟨Ch h1 0, Ch h1 1, Ch h1 2, Ch h1 3, Ch h1 4, Ch h1 5⟩, Ch h2 0⟩
   have HRK4 := Hd fun wx (hx : Below w9.heap.size w9 wx) => HRK.out.later (HB9.out.trans (hx.mono HB9.out.size))
   refine wp_region_held_drew (S := (fun w' => (w'.cell? ⟨w3.heap.size, 0, none⟩ = some (.int .i64 10) ∧ w'.cell? ⟨w3.heap.size, 1, none⟩ = some (.string aB) ∧ w'.cell? ⟨w3.heap.size, 2, none⟩ = some (.int .i64 0) ∧ w'.cell? ⟨w3.heap.size, 3, none⟩ = some (.slice A3 0 c3) ∧ w'.cell? ⟨w3.heap.size, 4, none⟩ = some (.slice B3 0 d3) ∧ w'.cell? ⟨w3.heap.size, 5, none⟩ = some (.slice C3 0 e3)) ∧ w'.cell? ⟨w7.heap.size, 0, none⟩ = some (.int .i64 7))) (by kernel_rfl) (HC4.out _ (Below.refl _ _).drew) (fun hHeld => ?_)
   refine Plan.start [0, 1, 2, 3] ?_
   iterate 4 (refine Plan.tk (so rfl) hHeld ?_; try simp only [Act.put, pz1, pz2, pz3])
   refine Plan.done ?_
   refine wpAnyH_ready (rs := [4]) (by kernel_rfl) (by simp) ?_
   refine AllReadyH.cons (sd (some 25) rfl) (fun Kx hK => ?_) AllReadyH.nil
   go_simp
   refine (str13 _ _).mono ?_
   rintro e w21 ⟨rfl, hb⟩
   have HB21 := Hd ((Below.refl w9.heap.size w9).drew.trans (hb.mono (Below.refl w9.heap.size w9).drew.size))
   clear hb
   go_wp2_with fail
   refine hK.out _ _ (HC4.out _ HB21.out) (fun hHeld => ?_)
   clear hK Kx
   try simp only [Act.put, pz1, pz2, pz3]
   refine wpAnyH_ready (rs := [5]) (by kernel_rfl) (by simp) ?_
   refine AllReadyH.cons (sd (some 26) rfl) (fun Kx hK => ?_) AllReadyH.nil
   go_simp
   refine (same13 (HRK4.out _ HB21.out) (rep_str (fun _ => True) _ aB (by decide))).mono ?_
   rintro e w22 ⟨rfl, hb⟩
   rw [show (ordT (strT aB) (strT aB) == 0) = true from by rw [ordT_zero.2 rfl]; rfl]
   have HB22 := Hd (HB21.out.trans (hb.mono HB21.out.size))
   clear hb
   go_wp2_with fail
   refine hK.out _ _ (HC4.out _ HB22.out) (fun hHeld => ?_)
   clear hK Kx
   try simp only [Act.put, pz1, pz2, pz3]
   refine Plan.start [6, 7, 8, 9, 10, 11, 12, 13, 14, 15] ?_
   iterate 10 (refine Plan.tk (so rfl) hHeld ?_; try simp only [Act.put, pz1, pz2, pz3])
   refine Plan.done ?_
   refine wpAnyH_take (i := 16) (v := ?_) (sd (some 0) rfl) (by kernel_rfl) (by kernel_rfl) (by kernel_rfl) (fun _ _ _ h => h) (Or.inl ⟨by rfl, ?_⟩) hHeld ?_
   rotate_left
   ·intro w' hSw
    (try dsimp only at hSw)
    go_simp
    try with_reducible rfl
   try simp only [Act.put, List.setIfInBounds_toArray, List.set_cons_zero]
   refine wpAnyH_done (by kernel_rfl) ?_ _
   clear hHeld
   go_wp2_with fail
   go_ret
   exact ⟨rfl, HBZ.out.trans ((HB9.out.trans (HB22.out.mono HB9.out.size)).mono HBZ.out.size)⟩
  ·go_simp
   generalize hW : World.alloc w6 (.cells #[.int .i64 0, .string ⟨#[]⟩, .int .i64 0, .slice none 0 0, .slice none 0 0, .slice none 0 0] 26) = w7
   have hb : Below w6.heap.size w6 w7 := by rw [← hW]; exact (Below.refl w6.heap.size w6).alloc (Nat.le_refl _) _
   have hx : w7.heap[w6.heap.size]? = some (.cells #[.int .i64 0, .string ⟨#[]⟩, .int .i64 0, .slice none 0 0, .slice none 0 0, .slice none 0 0] 26 (0, 0)) := by rw [← hW]; exact heap_alloc_new (w6) _
   clear hW
   have HB7 := Hd (HB6.out.trans (hb.mono HB6.out.size))
   have HX7 := Hd hx
   clear hb hx
   refine hK.out _ _ (HXO.out _ HB7.out) (fun hHeld => ?_)
   clear hK Kx
   try simp only [Act.put, pz1, pz2, pz3]
   refine wpAnyH_ready (rs := [2]) (by kernel_rfl) (by simp) ?_
   refine AllReadyH.cons (sd (some 18) rfl) (fun Kx hK => ?_) AllReadyH.nil
   go_simp
   refine (KAt.out _ HB7.out).mono ?_
   rintro e w8 ⟨rs, rfl, hra, hb⟩
   have HB8 := Hd (HB7.out.trans (hb.mono HB7.out.size))
   have HX8 := Hd (box_up hb (Array.getElem?_eq_some_iff.1 HX7.out).1 HX7.out)
   obtain ⟨Aq, cq, Ag, cg, Ah, ch, rfl, -⟩ := hra.inv
   simp only [cells6T, List.length_nil] at hra ⊢
   clear hra hb
   go_wp2_with fail
   refine hK.out _ _ (HXO.out _ HB8.out) (fun hHeld => ?_)
   clear hK Kx
   try simp only [Act.put, pz1, pz2, pz3]
   refine Plan.start [3, 4, 5] ?_
   iterate 3 (refine Plan.tk (so rfl) hHeld ?_; try simp only [Act.put, pz1, pz2, pz3])
   refine Plan.done ?_
   refine wpAnyH_ready (rs := [7]) (by kernel_rfl) (by simp) ?_
   refine AllReadyH.cons (sd none rfl) (fun Kx hK => ?_) AllReadyH.nil
   go_simp
   have rb := HX8.out
   obtain ⟨q0, q1, q2, q3, q4, q5, z0, z1, z2, z3, z4, z5⟩ := qz6 rb
   clear rb
   go_simp
   have hx := six_set HX8.out (.int .i64 7) (.string emptyB) (.int .i64 0) (.slice Aq 0 cq) (.slice Ag 0 cg) (.slice Ah 0 ch)
   have hbn := set_six_below HB8.out (HB6.out).size (.int .i64 7) (.string emptyB) (.int .i64 0) (.slice Aq 0 cq) (.slice Ag 0 cg) (.slice Ah 0 ch)
   generalize hW : (World.setCell (World.setCell (World.setCell (World.setCell (World.setCell (World.setCell w8 ⟨w6.heap.size, 0, none⟩ (.int .i64 7)) ⟨w6.heap.size, 1, none⟩ (.string emptyB)) ⟨w6.heap.size, 2, none⟩ (.int .i64 0)) ⟨w6.heap.size, 3, none⟩ (.slice Aq 0 cq)) ⟨w6.heap.size, 4, none⟩ (.slice Ag 0 cg)) ⟨w6.heap.size, 5, none⟩ (.slice Ah 0 ch)) = w9 at hx hbn
   clear hW q0 q1 q2 q3 q4 q5 z0 z1 z2 z3 z4 z5
   have HB9 := Hd hbn
   have HX9 := Hd hx
   clear hx hbn
   refine hK.out _ _ (HXO.out _ HB9.out) (fun hHeld => ?_)
   clear hK Kx
   try simp only [Act.put, pz1, pz2, pz3]
   refine Plan.start [8] ?_
   refine Plan.tk (so rfl) hHeld ?_
   try simp only [Act.put, pz1, pz2, pz3]
   refine Plan.done ?_
   refine wpAnyH_done (by kernel_rfl) ?_ _
   clear hHeld
   go_upto_region 4 with fail
   have HC4 : Hid (∀ wx, Below w9.heap.size w9 wx → (wx.cell? ⟨w3.heap.size, 0, none⟩ = some (.int .i64 10) ∧ wx.cell? ⟨w3.heap.size, 1, none⟩ = some (.string aB) ∧ wx.cell? ⟨w3.heap.size, 2, none⟩ = some (.int .i64 0) ∧ wx.cell? ⟨w3.heap.size, 3, none⟩ = some (.slice A3 0 c3) ∧ wx.cell? ⟨w3.heap.size, 4, none⟩ = some (.slice B3 0 d3) ∧ wx.cell? ⟨w3.heap.size, 5, none⟩ = some (.slice C3 0 e3)) ∧ wx.cell? ⟨w6.heap.size, 0, none⟩ = some (.int .i64 7)) := Hd fun wx hx => by
    have h1 := box_up (HB9.out.trans (hx.mono HB9.out.size)) HLT3.out HXK.out
    have h2 := box_up hx (Array.getElem?_eq_some_iff.1 HX9.out).1 HX9.out
    exact ⟨⟨Ch h1 0, Ch h1 1, Ch h1 2, Ch h1 3, Ch h1 4, Ch h1 5⟩, Ch h2 0⟩
   have HRK4 := Hd fun wx (hx : Below w9.heap.size w9 wx) => HRK.out.later (HB9.out.trans (hx.mono HB9.out.size))
   refine wp_region_held_drew (S := (fun w' => (w'.cell? ⟨w3.heap.size, 0, none⟩ = some (.int .i64 10) ∧ w'.cell? ⟨w3.heap.size, 1, none⟩ = some (.string aB) ∧ w'.cell? ⟨w3.heap.size, 2, none⟩ = some (.int .i64 0) ∧ w'.cell? ⟨w3.heap.size, 3, none⟩ = some (.slice A3 0 c3) ∧ w'.cell? ⟨w3.heap.size, 4, none⟩ = some (.slice B3 0 d3) ∧ w'.cell? ⟨w3.heap.size, 5, none⟩ = some (.slice C3 0 e3)) ∧ w'.cell? ⟨w6.heap.size, 0, none⟩ = some (.int .i64 7))) (by kernel_rfl) (HC4.out _ (Below.refl _ _).drew) (fun hHeld => ?_)
   refine Plan.start [0, 1, 2, 3] ?_
   iterate 4 (refine Plan.tk (so rfl) hHeld ?_; try simp only [Act.put, pz1, pz2, pz3])
   refine Plan.done ?_
   refine wpAnyH_ready (rs := [4]) (by kernel_rfl) (by simp) ?_
   refine AllReadyH.cons (sd (some 25) rfl) (fun Kx hK => ?_) AllReadyH.nil
   go_simp
   refine (str13 _ _).mono ?_
   rintro e w21 ⟨rfl, hb⟩
   have HB21 := Hd ((Below.refl w9.heap.size w9).drew.trans (hb.mono (Below.refl w9.heap.size w9).drew.size))
   clear hb
   go_wp2_with fail
   refine hK.out _ _ (HC4.out _ HB21.out) (fun hHeld => ?_)
   clear hK Kx
   try simp only [Act.put, pz1, pz2, pz3]
   refine wpAnyH_ready (rs := [5]) (by kernel_rfl) (by simp) ?_
   refine AllReadyH.cons (sd (some 26) rfl) (fun Kx hK => ?_) AllReadyH.nil
   go_simp
   refine (same13 (HRK4.out _ HB21.out) (rep_str (fun _ => True) _ aB (by decide))).mono ?_
   rintro e w22 ⟨rfl, hb⟩
   rw [show (ordT (strT aB) (strT aB) == 0) = true from by rw [ordT_zero.2 rfl]; rfl]
   have HB22 := Hd (HB21.out.trans (hb.mono HB21.out.size))
   clear hb
   go_wp2_with fail
   refine hK.out _ _ (HC4.out _ HB22.out) (fun hHeld => ?_)
   clear hK Kx
   try simp only [Act.put, pz1, pz2, pz3]
   refine Plan.start [6, 7, 8, 9, 10, 11, 12, 13, 14, 15] ?_
   iterate 10 (refine Plan.tk (so rfl) hHeld ?_; try simp only [Act.put, pz1, pz2, pz3])
   refine Plan.done ?_
   refine wpAnyH_take (i := 16) (v := ?_) (sd (some 0) rfl) (by kernel_rfl) (by kernel_rfl) (by kernel_rfl) (fun _ _ _ h => h) (Or.inl ⟨by rfl, ?_⟩) hHeld ?_
   rotate_left
   ·intro w' hSw
    (try dsimp only at hSw)
    go_simp
    try with_reducible rfl
   try simp only [Act.put, List.setIfInBounds_toArray, List.set_cons_zero]
   refine wpAnyH_done (by kernel_rfl) ?_ _
   clear hHeld
   go_wp2_with fail
   go_ret
   exact ⟨rfl, HBZ.out.trans ((HB9.out.trans (HB22.out.mono HB9.out.size)).mono HBZ.out.size)⟩
 ·go_simp
  generalize hW : World.drew (World.alloc w4 (.cells #[.int .i64 0, .string ⟨#[]⟩, .int .i64 0, .slice none 0 0, .slice none 0 0, .slice none 0 0] 26)) = w6
  have hb : Below w4.drew.heap.size w4.drew w6 := by rw [← hW]; exact (Below.refl w4.drew.heap.size w4.drew).alloc (Nat.le_refl _) _
  have hx : w6.heap[w4.heap.size]? = some (.cells #[.int .i64 0, .string ⟨#[]⟩, .int .i64 0, .slice none 0 0, .slice none 0 0, .slice none 0 0] 26 (0, 0)) := by rw [← hW]; exact heap_alloc_new (w4.drew) _
  clear hW
  have HB6 := Hd ((Below.refl w4.heap.size w4).drew.trans (hb.mono (Below.refl w4.heap.size w4).drew.size))
  have HX6 := Hd hx
  clear hb hx
  refine hK.out _ _ (HXO.out _ HB6.out) (fun hHeld => ?_)
  clear hK Kx
  try simp only [Act.put, pz1, pz2, pz3]
  refine wpAnyH_ready (rs := [1]) (by kernel_rfl) (by simp) ?_
  refine AllReadyH.cons (sd (some 17) rfl) (fun Kx hK => ?_) AllReadyH.nil
  go_simp
  refine (str13 _ _).mono ?_
  rintro e w7 ⟨rfl, hb⟩
  have HB7 := Hd (HB6.out.trans (hb.mono HB6.out.size))
  have HX7 := Hd (box_up hb (Array.getElem?_eq_some_iff.1 HX6.out).1 HX6.out)
  clear hb
  go_wp2_with fail
  refine hK.out _ _ (HXO.out _ HB7.out) (fun hHeld => ?_)
  clear hK Kx
  try simp only [Act.put, pz1, pz2, pz3]
  refine wpAnyH_ready (rs := [2]) (by kernel_rfl) (by simp) ?_
  refine AllReadyH.cons (sd (some 18) rfl) (fun Kx hK => ?_) AllReadyH.nil
  go_simp
  refine (KAt.out _ HB7.out).mono ?_
  rintro e w8 ⟨rs, rfl, hra, hb⟩
  have HB8 := Hd (HB7.out.trans (hb.mono HB7.out.size))
  have HX8 := Hd (box_up hb (Array.getElem?_eq_some_iff.1 HX7.out).1 HX7.out)
  obtain ⟨Aq, cq, Ag, cg, Ah, ch, rfl, -⟩ := hra.inv
  simp only [cells6T, List.length_nil] at hra ⊢
  clear hra hb
  go_wp2_with fail
  refine hK.out _ _ (HXO.out _ HB8.out) (fun hHeld => ?_)
  clear hK Kx
  try simp only [Act.put, pz1, pz2, pz3]
  refine Plan.start [3, 4, 5] ?_
  iterate 3 (refine Plan.tk (so rfl) hHeld ?_; try simp only [Act.put, pz1, pz2, pz3])
  refine Plan.done ?_
  refine wpAnyH_ready (rs := [7]) (by kernel_rfl) (by simp) ?_
  refine AllReadyH.cons (sd none rfl) (fun Kx hK => ?_) AllReadyH.nil
  go_simp
  have rb := HX8.out
  obtain ⟨q0, q1, q2, q3, q4, q5, z0, z1, z2, z3, z4, z5⟩ := qz6 rb
  clear rb
  go_simp
  have hx := six_set HX8.out (.int .i64 7) (.string emptyB) (.int .i64 0) (.slice Aq 0 cq) (.slice Ag 0 cg) (.slice Ah 0 ch)
  have hbn := set_six_below HB8.out (Nat.le_refl _) (.int .i64 7) (.string emptyB) (.int .i64 0) (.slice Aq 0 cq) (.slice Ag 0 cg) (.slice Ah 0 ch)
  generalize hW : (World.setCell (World.setCell (World.setCell (World.setCell (World.setCell (World.setCell w8 ⟨w4.heap.size, 0, none⟩ (.int .i64 7)) ⟨w4.heap.size, 1, none⟩ (.string emptyB)) ⟨w4.heap.size, 2, none⟩ (.int .i64 0)) ⟨w4.heap.size, 3, none⟩ (.slice Aq 0 cq)) ⟨w4.heap.size, 4, none⟩ (.slice Ag 0 cg)) ⟨w4.heap.size, 5, none⟩ (.slice Ah 0 ch)) = w9 at hx hbn
  clear hW q0 q1 q2 q3 q4 q5 z0 z1 z2 z3 z4 z5
  have HB9 := Hd hbn
  have HX9 := Hd hx
  clear hx hbn
  refine hK.out _ _ (HXO.out _ HB9.out) (fun hHeld => ?_)
  clear hK Kx
  try simp only [Act.put, pz1, pz2, pz3]
  refine Plan.start [8] ?_
  refine Plan.tk (so rfl) hHeld ?_
  try simp only [Act.put, pz1, pz2, pz3]
  refine Plan.done ?_
  refine wpAnyH_done (by kernel_rfl) ?_ _
  clear hHeld
  go_upto_region 4 with fail
  have HC4 : Hid (∀ wx, Below w9.heap.size w9 wx → (wx.cell? ⟨w3.heap.size, 0, none⟩ = some (.int .i64 10) ∧ wx.cell? ⟨w3.heap.size, 1, none⟩ = some (.string aB) ∧ wx.cell? ⟨w3.heap.size, 2, none⟩ = some (.int .i64 0) ∧ wx.cell? ⟨w3.heap.size, 3, none⟩ = some (.slice A3 0 c3) ∧ wx.cell? ⟨w3.heap.size, 4, none⟩ = some (.slice B3 0 d3) ∧ wx.cell? ⟨w3.heap.size, 5, none⟩ = some (.slice C3 0 e3)) ∧ wx.cell? ⟨w4.heap.size, 0, none⟩ = some (.int .i64 7)) := Hd fun wx hx => by
   have h1 := box_up (HB9.out.trans (hx.mono HB9.out.size)) HLT3.out HXK.out
   have h2 := box_up hx (Array.getElem?_eq_some_iff.1 HX9.out).1 HX9.out
   exact ⟨⟨Ch h1 0, Ch h1 1, Ch h1 2, Ch h1 3, Ch h1 4, Ch h1 5⟩, Ch h2 0⟩
  have HRK4 := Hd fun wx (hx : Below w9.heap.size w9 wx) => HRK.out.later (HB9.out.trans (hx.mono HB9.out.size))
  refine wp_region_held_drew (S := (fun w' => (w'.cell? ⟨w3.heap.size, 0, none⟩ = some (.int .i64 10) ∧ w'.cell? ⟨w3.heap.size, 1, none⟩ = some (.string aB) ∧ w'.cell? ⟨w3.heap.size, 2, none⟩ = some (.int .i64 0) ∧ w'.cell? ⟨w3.heap.size, 3, none⟩ = some (.slice A3 0 c3) ∧ w'.cell? ⟨w3.heap.size, 4, none⟩ = some (.slice B3 0 d3) ∧ w'.cell? ⟨w3.heap.size, 5, none⟩ = some (.slice C3 0 e3)) ∧ w'.cell? ⟨w4.heap.size, 0, none⟩ = some (.int .i64 7))) (by kernel_rfl) (HC4.out _ (Below.refl _ _).drew) (fun hHeld => ?_)
  refine Plan.start [0, 1, 2, 3] ?_
  iterate 4 (refine Plan.tk (so rfl) hHeld ?_; try simp only [Act.put, pz1, pz2, pz3])
  refine Plan.done ?_
  refine wpAnyH_ready (rs := [4]) (by kernel_rfl) (by simp) ?_
  refine AllReadyH.cons (sd (some 25) rfl) (fun Kx hK => ?_) AllReadyH.nil
  go_simp
  refine (str13 _ _).mono ?_
  rintro e w21 ⟨rfl, hb⟩
  have HB21 := Hd ((Below.refl w9.heap.size w9).drew.trans (hb.mono (Below.refl w9.heap.size w9).drew.size))
  clear hb
  go_wp2_with fail
  refine hK.out _ _ (HC4.out _ HB21.out) (fun hHeld => ?_)
  clear hK Kx
  try simp only [Act.put, pz1, pz2, pz3]
  refine wpAnyH_ready (rs := [5]) (by kernel_rfl) (by simp) ?_
  refine AllReadyH.cons (sd (some 26) rfl) (fun Kx hK => ?_) AllReadyH.nil
  go_simp
  refine (same13 (HRK4.out _ HB21.out) (rep_str (fun _ => True) _ aB (by decide))).mono ?_
  rintro e w22 ⟨rfl, hb⟩
  rw [show (ordT (strT aB) (strT aB) == 0) = true from by rw [ordT_zero.2 rfl]; rfl]
  have HB22 := Hd (HB21.out.trans (hb.mono HB21.out.size))
  clear hb
  go_wp2_with fail
  refine hK.out _ _ (HC4.out _ HB22.out) (fun hHeld => ?_)
  clear hK Kx
  try simp only [Act.put, pz1, pz2, pz3]
  refine Plan.start [6, 7, 8, 9, 10, 11, 12, 13, 14, 15] ?_
  iterate 10 (refine Plan.tk (so rfl) hHeld ?_; try simp only [Act.put, pz1, pz2, pz3])
  refine Plan.done ?_
  refine wpAnyH_take (i := 16) (v := ?_) (sd (some 0) rfl) (by kernel_rfl) (by kernel_rfl) (by kernel_rfl) (fun _ _ _ h => h) (Or.inl ⟨by rfl, ?_⟩) hHeld ?_
  rotate_left
  ·intro w' hSw
   (try dsimp only at hSw)
   go_simp
   try with_reducible rfl
  try simp only [Act.put, List.setIfInBounds_toArray, List.set_cons_zero]
  refine wpAnyH_done (by kernel_rfl) ?_ _
  clear hHeld
  go_wp2_with fail
  go_ret
  exact ⟨rfl, HBZ.out.trans ((HB9.out.trans (HB22.out.mono HB9.out.size)).mono HBZ.out.size)⟩
end Go.Proofs.YteakkjhcdpbidaaGreatDoor
