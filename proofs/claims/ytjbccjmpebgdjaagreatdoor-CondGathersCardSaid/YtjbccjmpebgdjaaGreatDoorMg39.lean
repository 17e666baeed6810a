import Derived.Test.YtjbccjmpebgdjaaGreatDoorMg32
import Derived.Test.YtjbccjmpebgdjaaGreatDoorMg33
import Derived.Test.YtjbccjmpebgdjaaGreatDoorMg34
import Derived.Test.YtjbccjmpebgdjaaGreatDoorMg35
namespace Go.Proofs.YtjbccjmpebgdjaaGreatDoor
open Go.RowKit
set_option maxRecDepth 100000
set_option maxHeartbeats 64000000
theorem small14_y {K K2 : Nat → Prop} {w : World} (k : Int) (s : ByteArray) (n : Int) (ps : List Ty) (fs : FsT) (vs : VsT) (k3 : Int) (s3 : ByteArray) (n3 : Int) (ps3 : List Ty) (fs3 : FsT) (vs3 : VsT) {cs ds : List Value} (hr : RepT K w (.mk k s n ps fs vs) cs) (hp : RepT K2 w (.mk k3 s3 n3 ps3 fs3 vs3) ds) (hsm : cntT (.mk k s n ps fs vs) + cntT (.mk k3 s3 n3 ps3 fs3 vs3) ≤ 1000) : Calls Tryz.prog 6 #[.agg cs.toArray, .agg ds.toArray] w fun e w' => e = .returned (.bool true) ∧ Below w.heap.size w w' := by
 refine two_pre hr hp fun A c A' c' A'' c'' A3 c3 B3 d3 C3 e3 w1 h hcs hds => ?_
 subst hcs
 subst hds
 clear hr hp
 obtain ⟨HBX, HB1, HW1, HR, HP⟩ := h
 obtain ⟨X, hX, kx⟩ := nod14 HR.out HB1.out
 obtain ⟨Y, hY, ky⟩ := nod14 HP.out HB1.out
 have KX := Hd kx
 have KY := Hd ky
 have w12 : wrap64 (X + Y) = X + Y := wrap_in (by omega) (by omega)
 have v12 : IntKind.i64.wrap (X + Y) = X + Y := (wrap14 _).trans w12
 have g1 : decide (X + Y ≤ (1000 : Int)) = true := decide_eq_true (by omega)
 have g2 : X + Y ≤ (1000 : Int) := by omega
 clear kx ky hX hY hsm
 go_enter Tryz.func6, Tryz.ntmps6
 go_upto_region 1 with fail
 rw [← HW1.out]
 refine wp_region_held_drew (S := (fun w' => (w'.cell? ⟨w.heap.size, 0, none⟩ = some (.int .i64 k) ∧ w'.cell? ⟨w.heap.size, 1, none⟩ = some (.string s) ∧ w'.cell? ⟨w.heap.size, 2, none⟩ = some (.int .i64 n) ∧ w'.cell? ⟨w.heap.size, 3, none⟩ = some (.slice A ps.length c) ∧ w'.cell? ⟨w.heap.size, 4, none⟩ = some (.slice A' fs.length c') ∧ w'.cell? ⟨w.heap.size, 5, none⟩ = some (.slice A'' vs.length c'')) ∧ (w'.cell? ⟨w.heap.size + 1, 0, none⟩ = some (.int .i64 k3) ∧ w'.cell? ⟨w.heap.size + 1, 1, none⟩ = some (.string s3) ∧ w'.cell? ⟨w.heap.size + 1, 2, none⟩ = some (.int .i64 n3) ∧ w'.cell? ⟨w.heap.size + 1, 3, none⟩ = some (.slice A3 ps3.length c3) ∧ w'.cell? ⟨w.heap.size + 1, 4, none⟩ = some (.slice B3 fs3.length d3) ∧ w'.cell? ⟨w.heap.size + 1, 5, none⟩ = some (.slice C3 vs3.length e3)))) (by kernel_rfl) (HBX.out _ (Below.refl _ _).drew) (fun hHeld => ?_)
 refine Plan.start [0, 2] ?_
 iterate 2 (refine Plan.tk (so rfl) hHeld ?_; try simp only [Act.put, pz1, pz2, pz3])
 refine Plan.done ?_
 refine wpAnyH_ready (rs := [1]) (by kernel_rfl) (by simp) ?_
 refine AllReadyH.cons (sd (some 6) rfl) (fun Kx hK => ?_) AllReadyH.nil
 go_simp
 refine (KX.out _ (Below.refl w1.heap.size w1).drew).mono ?_
 rintro e w2 ⟨rfl, hb⟩
 have HB2 := Hd (((Below.refl w1.heap.size w1).drew).trans (hb.mono ((Below.refl w1.heap.size w1).drew).size))
 clear hb
 go_wp2_with fail
 refine hK.out _ _ (HBX.out _ HB2.out) (fun hHeld => ?_)
 clear hK Kx
 try simp only [Act.put, pz1, pz2, pz3]
 refine wpAnyH_ready (rs := [3]) (by kernel_rfl) (by simp) ?_
 refine AllReadyH.cons (sd (some 8) rfl) (fun Kx hK => ?_) AllReadyH.nil
 go_simp
 refine (KY.out _ HB2.out).mono ?_
 rintro e w3 ⟨rfl, hb⟩
 have HB3 := Hd ((HB2.out).trans (hb.mono (HB2.out).size))
 clear hb
 go_wp2_with fail
 refine hK.out _ _ (HBX.out _ HB3.out) (fun hHeld => ?_)
 clear hK Kx
 try simp only [Act.put, pz1, pz2, pz3]
 refine Plan.start [4, 5, 6] ?_
 iterate 3 (refine Plan.tk (so rfl) hHeld ?_; try simp only [Act.put, pz1, pz2, pz3])
 refine Plan.done ?_
 refine wpAnyH_done (by kernel_rfl) ?_ _
 clear hHeld
 go_wp2_with fail
 go_ret
 exact ⟨rfl, HB1.out.trans (HB3.out.mono HB1.out.size)⟩
theorem small14_n {K K2 : Nat → Prop} {w : World} (k : Int) (s : ByteArray) (n : Int) (ps : List Ty) (fs : FsT) (vs : VsT) (k3 : Int) (s3 : ByteArray) (n3 : Int) (ps3 : List Ty) (fs3 : FsT) (vs3 : VsT) {cs ds : List Value} (hr : RepT K w (.mk k s n ps fs vs) cs) (hp : RepT K2 w (.mk k3 s3 n3 ps3 fs3 vs3) ds) (hsm : ¬ cntT (.mk k s n ps fs vs) + cntT (.mk k3 s3 n3 ps3 fs3 vs3) ≤ 1000) : Calls Tryz.prog 6 #[.agg cs.toArray, .agg ds.toArray] w fun e w' => e = .returned (.bool false) ∧ Below w.heap.size w w' := by
 refine two_pre hr hp fun A c A' c' A'' c'' A3 c3 B3 d3 C3 e3 w1 h hcs hds => ?_
 subst hcs
 subst hds
 clear hr hp
 obtain ⟨HBX, HB1, HW1, HR, HP⟩ := h
 obtain ⟨X, hX, kx⟩ := nod14 HR.out HB1.out
 obtain ⟨Y, hY, ky⟩ := nod14 HP.out HB1.out
 have KX := Hd kx
 have KY := Hd ky
 have w12 : wrap64 (X + Y) = X + Y := wrap_in (by omega) (by omega)
 have v12 : IntKind.i64.wrap (X + Y) = X + Y := (wrap14 _).trans w12
 have g1 : decide (X + Y ≤ (1000 : Int)) = false := decide_eq_false (by omega)
 have g2 : ¬ X + Y ≤ (1000 : Int) := by omega
 clear kx ky hX hY hsm
 go_enter Tryz.func6, Tryz.ntmps6
 go_upto_region 1 with fail
 rw [← HW1.out]
 refine wp_region_held_drew (S := (fun w' => (w'.cell? ⟨w.heap.size, 0, none⟩ = some (.int .i64 k) ∧ w'.cell? ⟨w.heap.size, 1, none⟩ = some (.string s) ∧ w'.cell? ⟨w.heap.size, 2, none⟩ = some (.int .i64 n) ∧ w'.cell? ⟨w.heap.size, 3, none⟩ = some (.slice A ps.length c) ∧ w'.cell? ⟨w.heap.size, 4, none⟩ = some (.slice A' fs.length c') ∧ w'.cell? ⟨w.heap.size, 5, none⟩ = some (.slice A'' vs.length c'')) ∧ (w'.cell? ⟨w.heap.size + 1, 0, none⟩ = some (.int .i64 k3) ∧ w'.cell? ⟨w.heap.size + 1, 1, none⟩ = some (.string s3) ∧ w'.cell? ⟨w.heap.size + 1, 2, none⟩ = some (.int .i64 n3) ∧ w'.cell? ⟨w.heap.size + 1, 3, none⟩ = some (.slice A3 ps3.length c3) ∧ w'.cell? ⟨w.heap.size + 1, 4, none⟩ = some (.slice B3 fs3.length d3) ∧ w'.cell? ⟨w.heap.size + 1, 5, none⟩ = some (.slice C3 vs3.length e3)))) (by kernel_rfl) (HBX.out _ (Below.refl _ _).drew) (fun hHeld => ?_)
 refine Plan.start [0, 2] ?_
 iterate 2 (refine Plan.tk (so rfl) hHeld ?_; try simp only [Act.put, pz1, pz2, pz3])
 refine Plan.done ?_
 refine wpAnyH_ready (rs := [1]) (by kernel_rfl) (by simp) ?_
 refine AllReadyH.cons (sd (some 6) rfl) (fun Kx hK => ?_) AllReadyH.nil
 go_simp
 refine (KX.out _ (Below.refl w1.heap.size w1).drew).mono ?_
 rintro e w2 ⟨rfl, hb⟩
 have HB2 := Hd (((Below.refl w1.heap.size w1).drew).trans (hb.mono ((Below.refl w1.heap.size w1).drew).size))
 clear hb
 go_wp2_with fail
 refine hK.out _ _ (HBX.out _ HB2.out) (fun hHeld => ?_)
 clear hK Kx
 try simp only [Act.put, pz1, pz2, pz3]
 refine wpAnyH_ready (rs := [3]) (by kernel_rfl) (by simp) ?_
 refine AllReadyH.cons (sd (some 8) rfl) (fun Kx hK => ?_) AllReadyH.nil
 go_simp
 refine (KY.out _ HB2.out).mono ?_
 rintro e w3 ⟨rfl, hb⟩
 have HB3 := Hd ((HB2.out).trans (hb.mono (HB2.out).size))
 clear hb
 go_wp2_with fail
 refine hK.out _ _ (HBX.out _ HB3.out) (fun hHeld => ?_)
 clear hK Kx
 try simp only [Act.put, pz1, pz2, pz3]
 refine Plan.start [4, 5, 6] ?_
 iterate 3 (refine Plan.tk (so rfl) hHeld ?_; try simp only [Act.put, pz1, pz2, pz3])
 refine Plan.done ?_
 refine wpAnyH_done (by kernel_rfl) ?_ _
 clear hHeld
 go_wp2_with fail
 go_ret
 exact ⟨rfl, HB1.out.trans (HB3.out.mono HB1.out.size)⟩
theorem small14 {K K2 : Nat → Prop} {w : World} {t p : Ty} {cs ds : List Value} (hr : RepT K w t cs) (hp : RepT K2 w p ds) : Calls Tryz.prog 6 #[.agg cs.toArray, .agg ds.toArray] w fun e w' => e = .returned (.bool (decide (cntT t + cntT p ≤ 1000))) ∧ Below w.heap.size w w' := by
 obtain ⟨k, s, n, ps, fs, vs⟩ := t
 obtain ⟨k3, s3, n3, ps3, fs3, vs3⟩ := p
 by_cases h : cntT (.mk k s n ps fs vs) + cntT (.mk k3 s3 n3 ps3 fs3 vs3) ≤ 1000
 ·rw [decide_eq_true h]; exact small14_y k s n ps fs vs k3 s3 n3 ps3 fs3 vs3 hr hp h
 ·rw [decide_eq_false h]; exact small14_n k s n ps fs vs k3 s3 n3 ps3 fs3 vs3 hr hp h
theorem form_step15 (t : ByteArray) (n : Int) (ps : List Ty) (fs : FsT) (vs : VsT) (hp : ∀ p ∈ ps, FormR p) (hf : ∀ f ∈ fs, FormR f.2.2) (hv : ∀ v ∈ vs, ∀ b ∈ v.2, FormR b) (hnf : fs.length = 0) (hnv : vs.length = 0) (hpa : ps.all formT = true) : FormR (.mk 15 t n ps fs vs) := by
 by_cases ht0 : t.toList = []
 ·by_cases hn0 : n = 0
  ·by_cases hnp : 2 ≤ ps.length
   ·exact form_15y t n ps fs vs hp hf hv hnf hnv hpa ht0 hn0 hnp
   ·exact form_15p t n ps fs vs hp hf hv hnf hnv hpa ht0 hn0 hnp
  ·exact form_15n t n ps fs vs hp hf hv hnf hnv hpa ht0 hn0
 ·obtain ⟨a0, l0, h⟩ := List.exists_cons_of_ne_nil ht0
  exact form_15t t n ps fs vs hp hf hv hnf hnv hpa a0 l0 h
theorem form_stepL (k : Int) (hk : k = 1 ∨ k = 2 ∨ k = 3 ∨ k = 4 ∨ k = 5 ∨ k = 6 ∨ k = 7 ∨ k = 8) (t : ByteArray) (n : Int) (ps : List Ty) (fs : FsT) (vs : VsT) (hp : ∀ p ∈ ps, FormR p) (hf : ∀ f ∈ fs, FormR f.2.2) (hv : ∀ v ∈ vs, ∀ b ∈ v.2, FormR b) (hnf : fs.length = 0) (hnv : vs.length = 0) (hpa : ps.all formT = true) : FormR (.mk k t n ps fs vs) := by
 by_cases ht0 : t.toList = []
 ·by_cases hn0 : n = 0
  ·by_cases hnp : ps.length = 0
   ·exact form_Ly k hk t n ps fs vs hp hf hv hnf hnv hpa ht0 hn0 hnp
   ·exact form_Lp k hk t n ps fs vs hp hf hv hnf hnv hpa ht0 hn0 hnp
  ·exact form_Ln k hk t n ps fs vs hp hf hv hnf hnv hpa ht0 hn0
 ·obtain ⟨a0, l0, h⟩ := List.exists_cons_of_ne_nil ht0
  exact form_Lt k hk t n ps fs vs hp hf hv hnf hnv hpa a0 l0 h
theorem form_step9 (t : ByteArray) (n : Int) (ps : List Ty) (fs : FsT) (vs : VsT) (hp : ∀ p ∈ ps, FormR p) (hf : ∀ f ∈ fs, FormR f.2.2) (hv : ∀ v ∈ vs, ∀ b ∈ v.2, FormR b) (hnf : fs.length = 0) (hnv : vs.length = 0) (hpa : ps.all formT = true) : FormR (.mk 9 t n ps fs vs) := by
 by_cases ht0 : t.toList = []
 ·by_cases hn0 : 0 ≤ n
  ·by_cases hnp : ps.length = 0
   ·exact form_9y t n ps fs vs hp hf hv hnf hnv hpa ht0 hn0 hnp
   ·exact form_9p t n ps fs vs hp hf hv hnf hnv hpa ht0 hn0 hnp
  ·exact form_9n t n ps fs vs hp hf hv hnf hnv hpa ht0 hn0
 ·obtain ⟨a0, l0, h⟩ := List.exists_cons_of_ne_nil ht0
  exact form_9t t n ps fs vs hp hf hv hnf hnv hpa a0 l0 h
theorem form_step10 (t : ByteArray) (n : Int) (ps : List Ty) (fs : FsT) (vs : VsT) (hp : ∀ p ∈ ps, FormR p) (hf : ∀ f ∈ fs, FormR f.2.2) (hv : ∀ v ∈ vs, ∀ b ∈ v.2, FormR b) (hnf : fs.length = 0) (hnv : vs.length = 0) (hpa : ps.all formT = true) : FormR (.mk 10 t n ps fs vs) := by
 by_cases hn0 : n = 0
 ·by_cases hnp : ps.length = 0
  ·exact form_10y t n ps fs vs hp hf hv hnf hnv hpa hn0 hnp
  ·exact form_10p t n ps fs vs hp hf hv hnf hnv hpa hn0 hnp
 ·exact form_10n t n ps fs vs hp hf hv hnf hnv hpa hn0
theorem form_step11 (t : ByteArray) (n : Int) (ps : List Ty) (fs : FsT) (vs : VsT) (hp : ∀ p ∈ ps, FormR p) (hf : ∀ f ∈ fs, FormR f.2.2) (hv : ∀ v ∈ vs, ∀ b ∈ v.2, FormR b) (hnf : fs.length = 0) (hnv : vs.length = 0) (hpa : ps.all formT = true) : FormR (.mk 11 t n ps fs vs) := by
 by_cases ht0 : t.toList = []
 ·by_cases hn0 : n = 0
  ·by_cases hnp : ps.length = 1
   ·exact form_Ry 11 (by omega) t n ps fs vs hp hf hv hnf hnv hpa ht0 hn0 hnp
   ·exact form_Rp 11 (by omega) t n ps fs vs hp hf hv hnf hnv hpa ht0 hn0 hnp
  ·exact form_Rn 11 (by omega) t n ps fs vs hp hf hv hnf hnv hpa ht0 hn0
 ·obtain ⟨a0, l0, h⟩ := List.exists_cons_of_ne_nil ht0
  exact form_Rt 11 (by omega) t n ps fs vs hp hf hv hnf hnv hpa a0 l0 h
theorem form_step12 (t : ByteArray) (n : Int) (ps : List Ty) (fs : FsT) (vs : VsT) (hp : ∀ p ∈ ps, FormR p) (hf : ∀ f ∈ fs, FormR f.2.2) (hv : ∀ v ∈ vs, ∀ b ∈ v.2, FormR b) (hnf : fs.length = 0) (hnv : vs.length = 0) (hpa : ps.all formT = true) : FormR (.mk 12 t n ps fs vs) := by
 by_cases ht0 : t.toList = []
 ·by_cases hn0 : n = 0
  ·exact form_12y t n ps fs vs hp hf hv hnf hnv hpa ht0 hn0
  ·exact form_12n t n ps fs vs hp hf hv hnf hnv hpa ht0 hn0
 ·obtain ⟨a0, l0, h⟩ := List.exists_cons_of_ne_nil ht0
  exact form_12t t n ps fs vs hp hf hv hnf hnv hpa a0 l0 h
theorem form_step13 (t : ByteArray) (n : Int) (ps : List Ty) (fs : FsT) (vs : VsT) (hp : ∀ p ∈ ps, FormR p) (hf : ∀ f ∈ fs, FormR f.2.2) (hv : ∀ v ∈ vs, ∀ b ∈ v.2, FormR b) (hnf : fs.length = 0) (hpa : ps.all formT = true) : FormR (.mk 13 t n ps fs vs) := by
 by_cases ht0 : t.toList = []
 ·by_cases hn0 : n = 0
  ·by_cases hnp : 1 ≤ ps.length
   ·cases hq : varsB (varsT vs formT) with
    | false => exact form_13bf t n ps fs vs hp hf hv hnf hpa ht0 hn0 hnp hq
    | true => exact form_13bt t n ps fs vs hp hf hv hnf hpa ht0 hn0 hnp hq
   ·exact form_13p t n ps fs vs hp hf hv hnf hpa ht0 hn0 hnp
  ·exact form_13n t n ps fs vs hp hf hv hnf hpa ht0 hn0
 ·obtain ⟨a0, l0, h⟩ := List.exists_cons_of_ne_nil ht0
  exact form_13t t n ps fs vs hp hf hv hnf hpa a0 l0 h
theorem form_step14 (t : ByteArray) (n : Int) (ps : List Ty) (fs : FsT) (vs : VsT) (hp : ∀ p ∈ ps, FormR p) (hf : ∀ f ∈ fs, FormR f.2.2) (hv : ∀ v ∈ vs, ∀ b ∈ v.2, FormR b) (hnv : vs.length = 0) (hpa : ps.all formT = true) : FormR (.mk 14 t n ps fs vs) := by
 by_cases ht0 : t.toList = []
 ·by_cases hn0 : n = 0
  ·by_cases hnp : ps.length = 0
   ·cases hq : fieldsB (fieldsT fs formT) with
    | false => exact form_14bf t n ps fs vs hp hf hv hnv hpa ht0 hn0 hnp hq
    | true => exact form_14bt t n ps fs vs hp hf hv hnv hpa ht0 hn0 hnp hq
   ·exact form_14p t n ps fs vs hp hf hv hnv hpa ht0 hn0 hnp
  ·exact form_14n t n ps fs vs hp hf hv hnv hpa ht0 hn0
 ·obtain ⟨a0, l0, h⟩ := List.exists_cons_of_ne_nil ht0
  exact form_14t t n ps fs vs hp hf hv hnv hpa a0 l0 h
theorem form_step16 (t : ByteArray) (n : Int) (ps : List Ty) (fs : FsT) (vs : VsT) (hp : ∀ p ∈ ps, FormR p) (hf : ∀ f ∈ fs, FormR f.2.2) (hv : ∀ v ∈ vs, ∀ b ∈ v.2, FormR b) (hnf : fs.length = 0) (hnv : vs.length = 0) (hpa : ps.all formT = true) : FormR (.mk 16 t n ps fs vs) := by
 cases hnm : nameT t with
 | false => exact form_Mm 16 (by omega) t n ps fs vs hp hf hv hnf hnv hpa hnm
 | true =>
  by_cases hn0 : n = 0
  ·by_cases hnp : ps.length = 0
   ·exact form_My 16 (by omega) t n ps fs vs hp hf hv hnf hnv hpa hnm hn0 hnp
   ·exact form_Mp 16 (by omega) t n ps fs vs hp hf hv hnf hnv hpa hnm hn0 hnp
  ·exact form_Mn 16 (by omega) t n ps fs vs hp hf hv hnf hnv hpa hnm hn0
theorem form_step17 (t : ByteArray) (n : Int) (ps : List Ty) (fs : FsT) (vs : VsT) (hp : ∀ p ∈ ps, FormR p) (hf : ∀ f ∈ fs, FormR f.2.2) (hv : ∀ v ∈ vs, ∀ b ∈ v.2, FormR b) (hnf : fs.length = 0) (hnv : vs.length = 0) (hpa : ps.all formT = true) : FormR (.mk 17 t n ps fs vs) := by
 cases hnm : nameT t with
 | false => exact form_17m t n ps fs vs hp hf hv hnf hnv hpa hnm
 | true =>
  by_cases hn0 : n = 0
  ·exact form_17y t n ps fs vs hp hf hv hnf hnv hpa hnm hn0
  ·exact form_17n t n ps fs vs hp hf hv hnf hnv hpa hnm hn0
theorem form_step18 (t : ByteArray) (n : Int) (ps : List Ty) (fs : FsT) (vs : VsT) (hp : ∀ p ∈ ps, FormR p) (hf : ∀ f ∈ fs, FormR f.2.2) (hv : ∀ v ∈ vs, ∀ b ∈ v.2, FormR b) (hnf : fs.length = 0) (hnv : vs.length = 0) (hpa : ps.all formT = true) : FormR (.mk 18 t n ps fs vs) := by
 by_cases ht0 : t.toList = []
 ·by_cases hn0 : n = 0
  ·by_cases hnp : ps.length = 1
   ·exact form_Ry 18 (by omega) t n ps fs vs hp hf hv hnf hnv hpa ht0 hn0 hnp
   ·exact form_Rp 18 (by omega) t n ps fs vs hp hf hv hnf hnv hpa ht0 hn0 hnp
  ·exact form_Rn 18 (by omega) t n ps fs vs hp hf hv hnf hnv hpa ht0 hn0
 ·obtain ⟨a0, l0, h⟩ := List.exists_cons_of_ne_nil ht0
  exact form_Rt 18 (by omega) t n ps fs vs hp hf hv hnf hnv hpa a0 l0 h
theorem form_step19 (t : ByteArray) (n : Int) (ps : List Ty) (fs : FsT) (vs : VsT) (hp : ∀ p ∈ ps, FormR p) (hf : ∀ f ∈ fs, FormR f.2.2) (hv : ∀ v ∈ vs, ∀ b ∈ v.2, FormR b) (hnf : fs.length = 0) (hnv : vs.length = 0) (hpa : ps.all formT = true) : FormR (.mk 19 t n ps fs vs) := by
 by_cases ht0 : t.toList = []
 ·by_cases hn0 : n = 0
  ·by_cases hnp : ps.length = 2
   ·exact form_19y t n ps fs vs hp hf hv hnf hnv hpa ht0 hn0 hnp
   ·exact form_19p t n ps fs vs hp hf hv hnf hnv hpa ht0 hn0 hnp
  ·exact form_19n t n ps fs vs hp hf hv hnf hnv hpa ht0 hn0
 ·obtain ⟨a0, l0, h⟩ := List.exists_cons_of_ne_nil ht0
  exact form_19t t n ps fs vs hp hf hv hnf hnv hpa a0 l0 h
theorem form_step20 (t : ByteArray) (n : Int) (ps : List Ty) (fs : FsT) (vs : VsT) (hp : ∀ p ∈ ps, FormR p) (hf : ∀ f ∈ fs, FormR f.2.2) (hv : ∀ v ∈ vs, ∀ b ∈ v.2, FormR b) (hnf : fs.length = 0) (hnv : vs.length = 0) (hpa : ps.all formT = true) : FormR (.mk 20 t n ps fs vs) := by
 cases hnm : nameT t with
 | false => exact form_20m t n ps fs vs hp hf hv hnf hnv hpa hnm
 | true =>
  by_cases hn0 : 0 ≤ n
  ·by_cases hn3 : n ≤ 3
   ·by_cases hnp : ps.length = 2
    ·exact form_20y t n ps fs vs hp hf hv hnf hnv hpa hnm hn0 hn3 hnp
    ·exact form_20p t n ps fs vs hp hf hv hnf hnv hpa hnm hn0 hn3 hnp
   ·exact form_20o t n ps fs vs hp hf hv hnf hnv hpa hnm hn0 hn3
  ·exact form_20n t n ps fs vs hp hf hv hnf hnv hpa hnm hn0
theorem form_step21 (t : ByteArray) (n : Int) (ps : List Ty) (fs : FsT) (vs : VsT) (hp : ∀ p ∈ ps, FormR p) (hf : ∀ f ∈ fs, FormR f.2.2) (hv : ∀ v ∈ vs, ∀ b ∈ v.2, FormR b) (hnf : fs.length = 0) (hnv : vs.length = 0) (hpa : ps.all formT = true) : FormR (.mk 21 t n ps fs vs) := by
 by_cases hnp : ps.length = 4
 ·by_cases hn0 : n = 0
  ·by_cases ht0 : t.toList = []
   ·exact form_21a t n ps fs vs hp hf hv hnf hnv hpa hnp hn0 ht0
   ·obtain ⟨a0, l0, h⟩ := List.exists_cons_of_ne_nil ht0
    exact form_21b t n ps fs vs hp hf hv hnf hnv hpa hnp hn0 a0 l0 h
  ·by_cases hn1 : n = 1
   ·cases hnm : nameT t with
    | false => exact form_21mf t n ps fs vs hp hf hv hnf hnv hpa hnp hn0 hn1 hnm
    | true => exact form_21mt t n ps fs vs hp hf hv hnf hnv hpa hnp hn0 hn1 hnm
   ·exact form_21c t n ps fs vs hp hf hv hnf hnv hpa hnp hn0 hn1
 ·exact form_21p t n ps fs vs hp hf hv hnf hnv hpa hnp
theorem form_step22 (t : ByteArray) (n : Int) (ps : List Ty) (fs : FsT) (vs : VsT) (hp : ∀ p ∈ ps, FormR p) (hf : ∀ f ∈ fs, FormR f.2.2) (hv : ∀ v ∈ vs, ∀ b ∈ v.2, FormR b) (hnf : fs.length = 0) (hnv : vs.length = 0) (hpa : ps.all formT = true) : FormR (.mk 22 t n ps fs vs) := by
 cases hnm : nameT t with
 | false => exact form_Mm 22 (by omega) t n ps fs vs hp hf hv hnf hnv hpa hnm
 | true =>
  by_cases hn0 : n = 0
  ·by_cases hnp : ps.length = 0
   ·exact form_My 22 (by omega) t n ps fs vs hp hf hv hnf hnv hpa hnm hn0 hnp
   ·exact form_Mp 22 (by omega) t n ps fs vs hp hf hv hnf hnv hpa hnm hn0 hnp
  ·exact form_Mn 22 (by omega) t n ps fs vs hp hf hv hnf hnv hpa hnm hn0
theorem form_step23 (t : ByteArray) (n : Int) (ps : List Ty) (fs : FsT) (vs : VsT) (hp : ∀ p ∈ ps, FormR p) (hf : ∀ f ∈ fs, FormR f.2.2) (hv : ∀ v ∈ vs, ∀ b ∈ v.2, FormR b) (hnf : fs.length = 0) (hnv : vs.length = 0) (hpa : ps.all formT = true) : FormR (.mk 23 t n ps fs vs) := by
 by_cases ht0 : t.toList = []
 ·by_cases hn0 : n = 0
  ·by_cases hnp : 2 ≤ ps.length
   ·cases hq : overT ps with
    | false => exact form_23bf t n ps fs vs hp hf hv hnf hnv hpa ht0 hn0 hnp hq
    | true => exact form_23bt t n ps fs vs hp hf hv hnf hnv hpa ht0 hn0 hnp hq
   ·exact form_23p t n ps fs vs hp hf hv hnf hnv hpa ht0 hn0 hnp
  ·exact form_23n t n ps fs vs hp hf hv hnf hnv hpa ht0 hn0
 ·obtain ⟨a0, l0, h⟩ := List.exists_cons_of_ne_nil ht0
  exact form_23t t n ps fs vs hp hf hv hnf hnv hpa a0 l0 h
theorem formr_step (k : Int) (t : ByteArray) (n : Int) (ps : List Ty) (fs : FsT) (vs : VsT) (hp : ∀ p ∈ ps, FormR p) (hf : ∀ f ∈ fs, FormR f.2.2) (hv : ∀ v ∈ vs, ∀ b ∈ v.2, FormR b) : FormR (.mk k t n ps fs vs) := by
 by_cases h14 : k = 14
 ·subst h14
  by_cases hnv : vs.length = 0
  ·cases hpa : ps.all formT with
   | false => exact form_pa14 t n ps fs vs hp hf hv hnv hpa
   | true => exact form_step14 t n ps fs vs hp hf hv hnv hpa
  ·exact form_nv14 t n ps fs vs hp hf hv (by omega)
 by_cases hnf : fs.length = 0
 ·by_cases h13 : k = 13
  ·subst h13
   cases hpa : ps.all formT with
   | false => exact form_pa13 t n ps fs vs hp hf hv hnf hpa
   | true => exact form_step13 t n ps fs vs hp hf hv hnf hpa
  by_cases hnv : vs.length = 0
  ·cases hpa : ps.all formT with
   | false => exact form_pa k t n ps fs vs hp hf hv h14 hnf h13 hnv hpa
   | true =>
    by_cases hL : k = 1 ∨ k = 2 ∨ k = 3 ∨ k = 4 ∨ k = 5 ∨ k = 6 ∨ k = 7 ∨ k = 8
    ·exact form_stepL k hL t n ps fs vs hp hf hv hnf hnv hpa
    by_cases h9 : k = 9
    ·subst h9; exact form_step9 t n ps fs vs hp hf hv hnf hnv hpa
    by_cases h10 : k = 10
    ·subst h10; exact form_step10 t n ps fs vs hp hf hv hnf hnv hpa
    by_cases h11 : k = 11
    ·subst h11; exact form_step11 t n ps fs vs hp hf hv hnf hnv hpa
    by_cases h12 : k = 12
    ·subst h12; exact form_step12 t n ps fs vs hp hf hv hnf hnv hpa
    by_cases h15 : k = 15
    ·subst h15; exact form_step15 t n ps fs vs hp hf hv hnf hnv hpa
    by_cases h16 : k = 16
    ·subst h16; exact form_step16 t n ps fs vs hp hf hv hnf hnv hpa
    by_cases h17 : k = 17
    ·subst h17; exact form_step17 t n ps fs vs hp hf hv hnf hnv hpa
    by_cases h18 : k = 18
    ·subst h18; exact form_step18 t n ps fs vs hp hf hv hnf hnv hpa
    by_cases h19 : k = 19
    ·subst h19; exact form_step19 t n ps fs vs hp hf hv hnf hnv hpa
    by_cases h20 : k = 20
    ·subst h20; exact form_step20 t n ps fs vs hp hf hv hnf hnv hpa
    by_cases h21 : k = 21
    ·subst h21; exact form_step21 t n ps fs vs hp hf hv hnf hnv hpa
    by_cases h22 : k = 22
    ·subst h22; exact form_step22 t n ps fs vs hp hf hv hnf hnv hpa
    by_cases h23 : k = 23
    ·subst h23; exact form_step23 t n ps fs vs hp hf hv hnf hnv hpa
    exact form_no k t n ps fs vs hp hf hv (by omega) (by omega) (by omega) (by omega) (by omega) (by omega) (by omega) (by omega) h9 h10 h11 h12 h13 h14 h15 h16 h17 h18 h19 h20 h21 h22 h23 hnf hnv hpa
  ·exact form_nv k t n ps fs vs hp hf hv h14 hnf h13 (by omega)
 ·exact form_nf k t n ps fs vs hp hf hv h14 (by omega)
theorem form_ref (t : Ty) : FormR t := Ty.ind (C := FormR) (fun k t n ps fs vs hp hf hv => formr_step k t n ps fs vs hp hf hv) t
end Go.Proofs.YtjbccjmpebgdjaaGreatDoor
