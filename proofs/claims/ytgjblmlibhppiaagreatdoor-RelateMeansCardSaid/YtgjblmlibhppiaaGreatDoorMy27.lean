import Derived.Test.YtgjblmlibhppiaaGreatDoorMy26
namespace Go.Proofs.YtgjblmlibhppiaaGreatDoor
set_option maxRecDepth 100000
set_option maxHeartbeats 64000000
open Go.RowKit
theorem clo_top {K K' : Nat → Prop} {w : World} {s t : Ty} {cs ds : List Value} {c1 c2 b : Nat} {fuel lo rows : Int} {m1 m2 : Option Nat} {asked : Value} {q p : Prop} (hr : RepT K w s cs) (hp : RepT K' w t ds) (h1 : w.heap[c1]? = some (.cells cs.toArray 26 (0, 0))) (h2 : w.heap[c2]? = some (.cells ds.toArray 26 (0, 0)))
  (KF : Calls Tryz.prog 28 #[.pointer (some ⟨b, 0, none⟩), .agg cs.toArray, .agg ds.toArray] w (FitPost b fuel lo m1 m2 asked rows w q p)) :
  Calls Tryz.prog 27 #[.pointer (some ⟨b, 0, none⟩), .pointer (some ⟨c1, 0, none⟩), .pointer (some ⟨c2, 0, none⟩)] w (FitPost b fuel lo m1 m2 asked rows w q p) := by
 obtain ⟨k, s, n, ps, fs, vs⟩ := s
 obtain ⟨A, c, B, d, C, e, rfl, -⟩ := hr.inv
 obtain ⟨k2, s2, n2, ps2, fs2, vs2⟩ := t
 obtain ⟨A2, c2', B2, d2, C2, e2, rfl, -⟩ := hp.inv
 simp only [cells6T] at h1 h2 KF ⊢
 obtain ⟨x0, x1, x2, x3, x4, x5⟩ := cz6 h1
 obtain ⟨y0, y1, y2, y3, y4, y5⟩ := cz6 h2
 have KF1 := Hd KF
 obtain ⟨PO, hPO⟩ : ∃ PO : Ending → World → Prop, PO = FitPost b fuel lo m1 m2 asked rows w q p := ⟨_, rfl⟩
 have HPO : Hid (∀ e w', FitPost b fuel lo m1 m2 asked rows w q p e w' → PO e w') := Hd fun e w' h => by rw [hPO]; exact h
 rw [← hPO]
 clear hr hp h1 h2 KF hPO
 go_enter Tryz.func27, Tryz.ntmps27
 go_wp2_with fail
 refine KF1.out.mono ?_
 intro e5 w5 h5
 have HP := Hd (HPO.out e5 w5 h5)
 rcases h5 with ⟨r, rfl, -, -⟩ | ⟨rfl, -, -⟩
 ·clear x0 x1 x2 x3 x4 x5 y0 y1 y2 y3 y4 y5
  go_wp2_with fail
  exact HP.out
 ·clear x0 x1 x2 x3 x4 x5 y0 y1 y2 y3 y4 y5
  go_wp2_with fail
  first | exact HP.out | (simp only [bodyPost]; exact ⟨trivial, HP.out⟩)
theorem box_world (w : World) (fuel : Int) (cs ds : List Value) : ∃ (w1 : World) (g0 g1 g2 : Nat), ((w.alloc (.cells #[.slice none 0 0, .slice none 0 0, .int .i64 fuel] 32)).alloc (.cells cs.toArray 26)).alloc (.cells ds.toArray 26) = w1 ∧ w.heap.size = g0 ∧ g0 + 1 = g1 ∧ g1 + 1 = g2 ∧ Below w.heap.size w w1 ∧ w1.heap.size = w.heap.size + 3 ∧ w1.heap[g0]? = some (.cells #[.slice none 0 0, .slice none 0 0, .int .i64 fuel] 32 (0, 0)) ∧ w1.heap[g1]? = some (.cells cs.toArray 26 (0, 0)) ∧ w1.heap[g2]? = some (.cells ds.toArray 26 (0, 0)) := by
 obtain ⟨w1, g1, g2, h1, h2, h3, h4, h5, h6, h7⟩ := box_two (w.alloc (.cells #[.slice none 0 0, .slice none 0 0, .int .i64 fuel] 32)) cs ds
 rw [World.size_alloc] at h2 h5
 have hb : Below w.heap.size w (w.alloc (.cells #[.slice none 0 0, .slice none 0 0, .int .i64 fuel] 32)) := (Below.refl _ _).alloc (Nat.le_refl _) _
 exact ⟨w1, _, g1, g2, h1, rfl, h2, h3, hb.trans (h4.mono (by rw [World.size_alloc]; omega)), by omega, box_up h4 (by rw [World.size_alloc]; omega) (heap_alloc_new w _), h6, h7⟩
theorem Fits_any {K K' : Nat → Prop} {w : World} {s t : Ty} {cs ds : List Value} {fuel : Int} (hr : RepT K w s cs) (hp : RepT K' w t ds) (hgs : GdT s) (hgt : GdT t) (hfs : formedT s = true) (hft : formedT t = true) (hK : ∀ x, K x → x < w.heap.size) (hK' : ∀ x, K' x → x < w.heap.size) (h0 : 0 ≤ fuel) (h1 : fuel ≤ 100000) :
  Calls Tryz.prog 13 #[.agg #[.slice none 0 0, .slice none 0 0, .int .i64 fuel], .agg cs.toArray, .agg ds.toArray] w (RanPost fuel w (DeepT s t ∨ fuel < 3) (Fit s t)) := by
 obtain ⟨w1, g0, g1, g2, HW1, HG0, HG1, HG2, hb1, hs1, hz, hx, hy⟩ := box_world w fuel cs ds
 have HF1 : Hid (∀ wx, Below w1.heap.size w1 wx → Calls Tryz.prog 24 #[.agg cs.toArray] wx fun e w' => e = .returned (.bool true) ∧ Below wx.heap.size wx w') := Hd fun wx h => by have := Formed_any ((hr.later hb1).later h); rwa [hfs] at this
 have HF2 : Hid (∀ wx, Below w1.heap.size w1 wx → Calls Tryz.prog 24 #[.agg ds.toArray] wx fun e w' => e = .returned (.bool true) ∧ Below wx.heap.size wx w') := Hd fun wx h => by have := Formed_any ((hp.later hb1).later h); rwa [hft] at this
 have HRG := Hd (right_none h0 h1)
 have hcf : ∀ (args : Array Value) (w : World), Sem.run Tryz.prog (callFunc 27 args) w = .ok (.enter 27 args) w := fun args w => by go_simp
 obtain ⟨PO, hPO⟩ : ∃ PO : Ending → World → Prop, PO = RanPost fuel w (DeepT s t ∨ fuel < 3) (Fit s t) := ⟨_, rfl⟩
 have HRAN : Hid (∀ wx, Below w1.heap.size w1 wx → Calls Tryz.prog 26 #[.agg #[.slice none 0 0, .slice none 0 0, .int .i64 fuel], .func (.func 27) #[] #[.pointer (some ⟨g1, 0, none⟩), .pointer (some ⟨g2, 0, none⟩)]] wx (RanPost fuel wx (DeepT s t ∨ fuel < 3) (Fit s t))) := Hd fun wx hwx => by
  refine ran_bool hcf fun wy b m1 m2 hwy hlb hrun => ?_
  have h1y : Below w1.heap.size w1 wy := hwx.trans (hwy.mono hwx.size)
  have h0y : Below w.heap.size w wy := hb1.trans (h1y.mono hb1.size)
  have hsz := hwx.size
  have hrs := hr.later h0y
  have hpt := hp.later h0y
  refine clo_top hrs hpt (box_up h1y (by omega) hx) (box_up h1y (by omega) hy) ?_
  have h := fits_all fuel.toNat K K' wy s t cs ds b fuel 0 0 m1 m2 (.slice none 0 0) hrs hpt hgs hgt (fun x hk => ⟨by have := hK x hk; have := h0y.size; omega, by have := hK x hk; omega⟩) (fun x hk => ⟨by have := hK' x hk; have := h0y.size; omega, by have := hK' x hk; omega⟩) hrun (Int.le_refl _) h0 h1 (Int.le_refl _) (Int.le_refl _) (by omega)
  exact h.mono fun e w' h => FitPost.trans (ButG.refl _ _) (by omega) (fun h => h.imp id fun h => by omega) Iff.rfl h
 have HPO : Hid (∀ (e : Ending) (wx w' : World), Below w1.heap.size w1 wx → RanPost fuel wx (DeepT s t ∨ fuel < 3) (Fit s t) e w' → PO e w') := Hd fun e wx w' hw h => by
  rw [hPO]
  have h0x : Below w.heap.size w wx := hb1.trans (hw.mono hb1.size)
  exact ⟨h.1, h0x.trans (h.2.mono h0x.size)⟩
 rw [← hPO]
 have HC : Hid (∀ wx, Below w1.heap.size w1 wx → wx.cell? ⟨g0, 0, none⟩ = some (.slice none 0 0) ∧ wx.cell? ⟨g0, 1, none⟩ = some (.slice none 0 0) ∧ wx.cell? ⟨g0, 2, none⟩ = some (.int .i64 fuel) ∧ wx.heap[g1]? = some (.cells cs.toArray 26 (0, 0)) ∧ wx.heap[g2]? = some (.cells ds.toArray 26 (0, 0))) := Hd fun wx h => by
  have e := box_up h (by omega) hz
  exact ⟨Ch e 0, Ch e 1, Ch e 2, box_up h (by omega) hx, box_up h (by omega) hy⟩
 generalize (DeepT s t ∨ fuel < 3) = dc at HRAN HPO
 generalize Fit s t = ft at HRAN HPO
 obtain ⟨k, s, n, ps, fs, vs⟩ := s
 obtain ⟨A, c, B, d, C, e, rfl, -⟩ := hr.inv
 obtain ⟨k2, s2, n2, ps2, fs2, vs2⟩ := t
 obtain ⟨A2, c2, B2, d2, C2, e2, rfl, -⟩ := hp.inv
 simp only [cells6T] at HC HF1 HF2 HW1 ⊢
 have hmf : ∀ (fn : Fn) (first cap : Array Value) (w : World), (Instr.makeFunc fn first cap).run Tryz.prog w = .ok (.func fn first cap) w := fun _ _ _ _ => rfl
 replace HW1 := Hd HW1
 replace HG0 := Hd HG0
 replace HG1 := Hd HG1
 replace HG2 := Hd HG2
 clear hr hp hgs hgt hfs hft hK hK' h0 h1 hb1 hs1 hz hx hy hcf hPO
 go_enter Tryz.func13, Tryz.ntmps13
 go_upto_region 1 with fail
 rw [HW1.out, HG0.out, HG1.out, HG2.out]
 obtain ⟨r0, r1, r2, hx, hy⟩ := HC.out w1 (Below.refl _ _)
 obtain ⟨x0, x1, x2, x3, x4, x5⟩ := cz6 hx
 obtain ⟨y0, y1, y2, y3, y4, y5⟩ := cz6 hy
 clear hx hy
 go_wp2_with fail
 refine (HF1.out w1 (Below.refl _ _)).mono ?_
 rintro e2 w2 ⟨rfl, hb2⟩
 have HB2 := Hd hb2
 clear hb2 r0 r1 r2 x0 x1 x2 x3 x4 x5 y0 y1 y2 y3 y4 y5
 obtain ⟨r0, r1, r2, hx, hy⟩ := HC.out w2 HB2.out
 obtain ⟨x0, x1, x2, x3, x4, x5⟩ := cz6 hx
 obtain ⟨y0, y1, y2, y3, y4, y5⟩ := cz6 hy
 clear hx hy
 go_wp2_with fail
 refine (HF2.out w2 HB2.out).mono ?_
 rintro e3 w3 ⟨rfl, hb3⟩
 have HB3 := Hd (HB2.out.trans (hb3.mono HB2.out.size))
 clear hb3 r0 r1 r2 x0 x1 x2 x3 x4 x5 y0 y1 y2 y3 y4 y5
 obtain ⟨r0, r1, r2, hx, hy⟩ := HC.out w3 HB3.out
 obtain ⟨x0, x1, x2, x3, x4, x5⟩ := cz6 hx
 obtain ⟨y0, y1, y2, y3, y4, y5⟩ := cz6 hy
 clear hx hy
 go_wp2_with fail
 refine (HRG.out w3).mono ?_
 rintro e4 w4 ⟨rfl, hb4⟩
 have HB4 := Hd (HB3.out.trans (hb4.mono HB3.out.size))
 clear hb4 r0 r1 r2 x0 x1 x2 x3 x4 x5 y0 y1 y2 y3 y4 y5
 obtain ⟨r0, r1, r2, hx, hy⟩ := HC.out w4 HB4.out
 clear hx hy
 go_wp2_with fail
 refine (HRAN.out w4 HB4.out).mono ?_
 intro e5 w5 h5
 have HP := Hd (HPO.out e5 w4 w5 HB4.out h5)
 rcases h5 with ⟨⟨r, n5, rfl, -, -⟩ | ⟨rfl, -⟩, -⟩
 ·clear r0 r1 r2
  go_wp2_with fail
  exact HP.out
 ·clear r0 r1 r2
  go_wp2_with fail
  exact HP.out
theorem of15 (k : Int) (w : World) : Calls Tryz.prog 22 #[.int .i64 k] w fun e w' => e = .returned (.agg #[.int .i64 k, .string ⟨#[]⟩, .int .i64 0, .slice none 0 0, .slice none 0 0, .slice none 0 0]) ∧ Below w.heap.size w w' := by
 go_enter Tryz.func22, Tryz.ntmps22
 go_wp2_with fail
 exact bodyPost_ret (v := .agg #[.int .i64 k, .string ⟨#[]⟩, .int .i64 0, .slice none 0 0, .slice none 0 0, .slice none 0 0]) (by simp [results, Tryz.results22, go_sem]) rfl ⟨rfl, (Below.refl _ _).alloc (Nat.le_refl _) _⟩
theorem rep_lf (K : Nat → Prop) (w : World) (k n : Int) : RepT K w (.mk k emptyB n [] [] []) [.int .i64 k, .string ⟨#[]⟩, .int .i64 n, .slice none 0 0, .slice none 0 0, .slice none 0 0] :=
 RepT.of (A := none) (c := 0) (A' := none) (c' := 0) (A'' := none) (c'' := 0) (by decide) ⟨0, 0, ⟨by simp, by simp, fun _ => rfl, fun h => absurd h (by simp)⟩, fun i h => absurd h (by simp)⟩ ⟨0, 0, ⟨by simp, by simp, fun _ => rfl, fun h => absurd h (by simp)⟩, fun i h => absurd h (by simp)⟩ ⟨0, 0, ⟨by simp, by simp, fun _ => rfl, fun h => absurd h (by simp)⟩, fun i h => absurd h (by simp)⟩
theorem gd_num : GdT (.mk 9 emptyB 5 [] [] []) ∧ formedT (.mk 9 emptyB 5 [] [] []) = true := by
 have hf : formT (.mk 9 emptyB 5 [] [] []) = true := by rw [formT_mk]; simp [shapeK, fitsB, selfB, emptyB]
 refine ⟨⟨hf, by rw [smpT_mk]; simp⟩, ?_⟩
 unfold formedT
 rw [hf, cntT_mk]
 simp [cntL, cntF, cntV]
theorem gd_number : GdT (.mk 7 emptyB 0 [] [] []) ∧ formedT (.mk 7 emptyB 0 [] [] []) = true := by
 have hf : formT (.mk 7 emptyB 0 [] [] []) = true := by rw [formT_mk]; simp [shapeK, fitsB, selfB, emptyB]
 refine ⟨⟨hf, by rw [smpT_mk]; simp⟩, ?_⟩
 unfold formedT
 rw [hf, cntT_mk]
 simp [cntL, cntF, cntV]
theorem no_num : ¬ Fit (.mk 7 emptyB 0 [] [] []) (.mk 9 emptyB 5 [] [] []) := by
 intro h
 have := (fit_look (s := .mk 7 emptyB 0 [] [] []) (t := .mk 9 emptyB 5 [] [] []) (by unfold plnT; rw [decide_eq_false fun e => by have := ordT_zero.1 e; injection this with h1; exact absurd h1 (by decide)]; simp [Ty.k])).1 h
 simp [Ty.k, Ty.ps, RowF] at this
theorem awake15 (w : World) : Calls Tryz.prog 9 #[] w fun e w' => e = .returned (.bool true) ∧ Below w.heap.size w w' := by
 obtain ⟨w1, hw1⟩ : ∃ x, x = w.alloc (.cells #[.slice none 0 0, .slice none 0 0, .int .i64 100] 32) := ⟨_, rfl⟩
 obtain ⟨g, hg⟩ : ∃ x, x = w.heap.size := ⟨_, rfl⟩
 have hb1 : Below w.heap.size w w1 := by rw [hw1]; exact (Below.refl _ _).alloc (Nat.le_refl _) _
 have hx1 : w1.heap[g]? = some (.cells #[.slice none 0 0, .slice none 0 0, .int .i64 100] 32 (0, 0)) := by rw [hw1, hg]; exact heap_alloc_new w _
 have HC : Hid (∀ wx, Below w1.heap.size w1 wx → wx.cell? ⟨g, 0, none⟩ = some (.slice none 0 0) ∧ wx.cell? ⟨g, 1, none⟩ = some (.slice none 0 0) ∧ wx.cell? ⟨g, 2, none⟩ = some (.int .i64 100)) := Hd fun wx h => by
  have e := box_up h (Array.getElem?_eq_some_iff.1 hx1).1 hx1
  exact ⟨Ch e 0, Ch e 1, Ch e 2⟩
 have HB1 := Hd hb1
 have HBw1 : Hid (Below w1.heap.size w1 w1) := Hd (Below.refl _ _)
 have HW1 := Hd hw1
 have HG := Hd hg
 clear hw1 hg hb1 hx1
 go_enter Tryz.func9, Tryz.ntmps9
 go_upto_region 2 with fail
 rw [← HW1.out, ← HG.out]
 refine wp_region_held_drew (S := (fun w' => w'.cell? ⟨g, 0, none⟩ = some (.slice none 0 0) ∧ w'.cell? ⟨g, 1, none⟩ = some (.slice none 0 0) ∧ w'.cell? ⟨g, 2, none⟩ = some (.int .i64 100))) (by kernel_rfl) (HC.out _ (HBw1.out.trans ((Below.refl w1.heap.size w1).drew.mono HBw1.out.size))) (fun hHeld => ?_)
 refine Plan.start [0, 1] ?_
 iterate 2 (refine Plan.tk (so rfl) hHeld ?_; try simp only [Act.put, pz1, pz2, pz3])
 refine Plan.done ?_
 refine wpAnyH_ready (rs := [2]) (by kernel_rfl) (by simp) ?_
 refine AllReadyH.cons (sd (some 12) rfl) (fun Kx hK => ?_) AllReadyH.nil
 go_simp
 refine (of15 7 w1.drew).mono ?_
 rintro e5 w2 ⟨rfl, hb5⟩
 have HB2 : Hid (Below w1.heap.size w1 w2) := Hd ((HBw1.out.trans ((Below.refl w1.heap.size w1).drew.mono HBw1.out.size)).trans (hb5.mono (HBw1.out.size)))
 clear hb5
 go_wp2_with fail
 refine hK.out _ _ (HC.out _ HB2.out) (fun hHeld => ?_)
 clear hK Kx
 try simp only [Act.put, pz1, pz2, pz3]
 refine wpAnyH_ready (rs := [3]) (by kernel_rfl) (by simp) ?_
 refine AllReadyH.cons (sd (some 13) rfl) (fun Kx hK => ?_) AllReadyH.nil
 go_simp
 refine (Fits_any (K := fun _ => False) (K' := fun _ => False) (s := .mk 9 emptyB 5 [] [] []) (t := .mk 7 emptyB 0 [] [] []) (cs := [.int .i64 9, .string ⟨#[]⟩, .int .i64 5, .slice none 0 0, .slice none 0 0, .slice none 0 0]) (ds := [.int .i64 7, .string ⟨#[]⟩, .int .i64 0, .slice none 0 0, .slice none 0 0, .slice none 0 0]) (rep_lf _ w2 _ _) (rep_lf _ w2 _ _) gd_num.1 gd_number.1 gd_num.2 gd_number.2 (fun _ h => h.elim) (fun _ h => h.elim) (show (0 : Int) ≤ 100 by omega) (by omega)).mono ?_
 rintro e5 w3 ⟨⟨r, n2, rfl, hr5, hn2⟩ | ⟨-, hc⟩, hb5⟩
 rotate_left
 ·rcases hc with (h | h | h) | h
  ·exact absurd rfl h
  ·exact absurd rfl h
  ·exact absurd rfl h
  ·omega
 have HN2 := Hd hn2
 have HBw3 : Hid (Below w1.heap.size w1 w3) := Hd (HB2.out.trans (hb5.mono HB2.out.size))
 obtain rfl : r = true := by exact hr5.2 (.num rfl rfl)
 clear hb5 hr5 hn2
 go_wp2_with fail
 refine hK.out _ _ (HC.out _ HBw3.out) (fun hHeld => ?_)
 clear hK Kx
 try simp only [Act.put, pz1, pz2, pz3]
 refine Plan.start [4, 5, 6, 7, 8, 9, 10] ?_
 iterate 7 (refine Plan.tk (so rfl) hHeld ?_; try simp only [Act.put, pz1, pz2, pz3])
 refine Plan.done ?_
 refine wpAnyH_done (by kernel_rfl) ?_ _
 clear hHeld
 go_upto_region 3 with fail
 refine wp_region_held_drew (S := (fun w' => w'.cell? ⟨g, 0, none⟩ = some (.slice none 0 0) ∧ w'.cell? ⟨g, 1, none⟩ = some (.slice none 0 0) ∧ w'.cell? ⟨g, 2, none⟩ = some (.int .i64 100))) (by kernel_rfl) (HC.out _ (HBw3.out.trans ((Below.refl w3.heap.size w3).drew.mono HBw3.out.size))) (fun hHeld => ?_)
 refine Plan.start [0, 2] ?_
 iterate 2 (refine Plan.tk (so rfl) hHeld ?_; try simp only [Act.put, pz1, pz2, pz3])
 refine Plan.done ?_
 refine wpAnyH_ready (rs := [1]) (by kernel_rfl) (by simp) ?_
 refine AllReadyH.cons (sd (some 19) rfl) (fun Kx hK => ?_) AllReadyH.nil
 go_simp
 refine (of15 7 w3.drew).mono ?_
 rintro e5 w4 ⟨rfl, hb5⟩
 have HB4 : Hid (Below w1.heap.size w1 w4) := Hd ((HBw3.out.trans ((Below.refl w3.heap.size w3).drew.mono HBw3.out.size)).trans (hb5.mono (HBw3.out.size)))
 clear hb5
 go_wp2_with fail
 refine hK.out _ _ (HC.out _ HB4.out) (fun hHeld => ?_)
 clear hK Kx
 try simp only [Act.put, pz1, pz2, pz3]
 refine wpAnyH_ready (rs := [3]) (by kernel_rfl) (by simp) ?_
 refine AllReadyH.cons (sd (some 21) rfl) (fun Kx hK => ?_) AllReadyH.nil
 go_simp
 refine (Fits_any (K := fun _ => False) (K' := fun _ => False) (s := .mk 7 emptyB 0 [] [] []) (t := .mk 9 emptyB 5 [] [] []) (cs := [.int .i64 7, .string ⟨#[]⟩, .int .i64 0, .slice none 0 0, .slice none 0 0, .slice none 0 0]) (ds := [.int .i64 9, .string ⟨#[]⟩, .int .i64 5, .slice none 0 0, .slice none 0 0, .slice none 0 0]) (rep_lf _ w4 _ _) (rep_lf _ w4 _ _) gd_number.1 gd_num.1 gd_number.2 gd_num.2 (fun _ h => h.elim) (fun _ h => h.elim) (show (0 : Int) ≤ 100 by omega) (by omega)).mono ?_
 rintro e5 w5 ⟨⟨r, n4, rfl, hr5, hn4⟩ | ⟨-, hc⟩, hb5⟩
 rotate_left
 ·rcases hc with (h | h | h) | h
  ·exact absurd rfl h
  ·exact absurd rfl h
  ·exact absurd rfl h
  ·omega
 have HN4 := Hd hn4
 have HBw5 : Hid (Below w1.heap.size w1 w5) := Hd (HB4.out.trans (hb5.mono HB4.out.size))
 obtain rfl : r = false := by cases r with | false => rfl | true => exact absurd (hr5.1 rfl) no_num
 clear hb5 hr5 hn4
 go_wp2_with fail
 refine hK.out _ _ (HC.out _ HBw5.out) (fun hHeld => ?_)
 clear hK Kx
 try simp only [Act.put, pz1, pz2, pz3]
 refine Plan.start [4, 5, 6, 7, 8, 9, 10] ?_
 iterate 7 (refine Plan.tk (so rfl) hHeld ?_; try simp only [Act.put, pz1, pz2, pz3])
 refine Plan.done ?_
 refine wpAnyH_done (by kernel_rfl) ?_ _
 clear hHeld
 have t1 : decide (1 ≤ n2) = true := decide_eq_true HN2.out
 have t2 : 1 ≤ n2 := HN2.out
 go_wp2_with fail
 go_ret
 exact ⟨rfl, HB1.out.trans (HBw5.out.mono HB1.out.size)⟩
end Go.Proofs.YtgjblmlibhppiaaGreatDoor
