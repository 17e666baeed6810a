import Derived.Test.YtfchnfnifpopnaaGreatDoorMa0
import Derived.Test.YtfchnfnifpopnaaGreatDoorMa42
namespace Go.Proofs.YtfchnfnifpopnaaGreatDoor
open Go.RowKit
theorem six_heap {b g : Nat} (W : World) (y0 y1 y2 y3 y4 y5 : Value) (h : b ≠ g) : ((((((W.setCell ⟨g, 0, none⟩ y0).setCell ⟨g, 1, none⟩ y1).setCell ⟨g, 2, none⟩ y2).setCell ⟨g, 3, none⟩ y3).setCell ⟨g, 4, none⟩ y4).setCell ⟨g, 5, none⟩ y5).heap[b]? = W.heap[b]? := by
 rw [Below.heap_setCell _ _ _ _ h, Below.heap_setCell _ _ _ _ h, Below.heap_setCell _ _ _ _ h, Below.heap_setCell _ _ _ _ h, Below.heap_setCell _ _ _ _ h, Below.heap_setCell _ _ _ _ h]
theorem prts_keys {t : Ty} (h : formT t = true) (hk : t.k = 14) : prtsT (unionT (t.fs.map fun f => strT f.1)) = t.fs.map fun f => strT f.1 := by
 have h1 := keys_object h hk
 obtain ⟨k, s, n, ps, fs, vs⟩ := t
 have hk' : k = 14 := hk
 subst hk'
 have e : keysT (.mk 14 s n ps fs vs) = unionT (fs.map fun f => strT f.1) := by
  unfold keysT
  rw [keysN_mk, if_neg (by decide), if_pos rfl]
  show unionT ((fs.map fun f => f.1).map strT) = _
  rw [List.map_map]; rfl
 rw [e] at h1
 exact h1
theorem len_cntL : ∀ l : List Ty, l.length ≤ cntL l
 | [] => by simp
 | a :: l => by rw [cntL_cons, List.length_cons]; have := cntT_pos a; have := len_cntL l; omega
theorem len_cntF : ∀ l : List (ByteArray × Int × Ty), l.length ≤ cntF l
 | [] => by simp
 | a :: l => by
  have e : cntF (a :: l) = cntT a.2.2 + cntF l := by simp [cntF]
  rw [e, List.length_cons]; have := cntT_pos a.2.2; have := len_cntF l; omega
theorem cnt_strs : ∀ fs : List (ByteArray × Int × Ty), cntL (fs.map fun f => strT f.1) = fs.length
 | [] => rfl
 | a :: l => by
  rw [List.map_cons, cntL_cons, cnt_strs l, List.length_cons, show cntT (strT a.1) = 1 from by unfold strT; rw [cntT_mk]; rfl]; omega
set_option maxRecDepth 100000 in
set_option maxHeartbeats 64000000 in
theorem fields_s {K : Nat → Prop} {w : World} (k : Int) (s : ByteArray) (n : Int) (ps : List Ty) (fs : List (ByteArray × Int × Ty)) (vs : List (ByteArray × List Ty)) {cs : List Value} (hr : RepT K w (.mk k s n ps fs vs) cs) (hsm : ¬ cntT (.mk k s n ps fs vs) ≤ 4096) : Calls Tryz.prog 3 #[.agg cs.toArray] w (fun e w' => e = .returned (.bool true) ∧ Below w.heap.size w w') := by
 obtain ⟨A, c, A', c', A'', c'', rfl, -, -, hF, -⟩ := hr.inv
 simp only [cells6T] at hr ⊢
 obtain ⟨w1, hw1⟩ : ∃ x, x = w.alloc (.cells #[.int .i64 k, .string s, .int .i64 n, .slice A ps.length c, .slice A' fs.length c', .slice A'' vs.length c''] 26) := ⟨_, rfl⟩
 have hb1 : Below w.heap.size w w1 := by rw [hw1]; exact (Below.refl _ _).alloc (Nat.le_refl _) _
 have hs1 : w1.heap.size = w.heap.size + 1 := by rw [hw1]; simp
 have hx0 : w1.heap[w.heap.size]? = some (.cells #[.int .i64 k, .string s, .int .i64 n, .slice A ps.length c, .slice A' fs.length c', .slice A'' vs.length c''] 26 (0, 0)) := by rw [hw1]; exact heap_alloc_new w _
 have HXT : Hid (∀ wx, Below w1.heap.size w1 wx → wx.cell? ⟨w.heap.size, 0, none⟩ = some (.int .i64 k) ∧ wx.cell? ⟨w.heap.size, 1, none⟩ = some (.string s) ∧ wx.cell? ⟨w.heap.size, 2, none⟩ = some (.int .i64 n) ∧ wx.cell? ⟨w.heap.size, 3, none⟩ = some (.slice A ps.length c) ∧ wx.cell? ⟨w.heap.size, 4, none⟩ = some (.slice A' fs.length c') ∧ wx.cell? ⟨w.heap.size, 5, none⟩ = some (.slice A'' vs.length c'')) := Lib.hid fun wx hx => by
  have h := box_up hx (by omega) hx0
  exact ⟨Lib.cell_of_heap h 0, Lib.cell_of_heap h 1, Lib.cell_of_heap h 2, Lib.cell_of_heap h 3, Lib.cell_of_heap h 4, Lib.cell_of_heap h 5⟩
 have KAw := Lib.hid fun wx => awake13 wx
 have KSm := Lib.hid fun wx (hx : Below w1.heap.size w1 wx) => small13 (hr.later (hb1.trans (hx.mono hb1.size)))
 have KFo := Lib.hid fun wx (hx : Below w1.heap.size w1 wx) => formed_ref (hr.later (hb1.trans (hx.mono hb1.size)))
 have HB1 := Lib.hid hb1
 have HS1 := Lib.hid hs1
 have HW1 := Lib.hid hw1
 rw [decide_eq_false hsm] at KSm
 clear hr hF hb1 hs1 hx0 hw1 hsm
 go_enter Tryz.func3, Tryz.ntmps3
 go_upto_region 1 with fail
 rw [← HW1.out]
 obtain ⟨x0, x1, x2, x3, x4, x5⟩ := HXT.out _ (Below.refl _ _)
 go_wp2_with fail
 refine (KAw.out _).mono ?_
 rintro e w2 ⟨rfl, hb⟩
 have HB2 := Lib.hid hb
 clear x0 x1 x2 x3 x4 x5 hb
 obtain ⟨x0, x1, x2, x3, x4, x5⟩ := HXT.out _ HB2.out
 go_wp2_with fail
 refine (KSm.out _ HB2.out).mono ?_
 rintro e w3 ⟨rfl, hb⟩
 have HB3 := Lib.hid (HB2.out.trans (hb.mono HB2.out.size))
 clear x0 x1 x2 x3 x4 x5 hb
 obtain ⟨x0, x1, x2, x3, x4, x5⟩ := HXT.out _ HB3.out
 go_wp2_with fail
 refine (KAw.out _).mono ?_
 rintro e w9 ⟨rfl, hb⟩
 have HB9 := Lib.hid (HB3.out.trans (hb.mono HB3.out.size))
 clear x0 x1 x2 x3 x4 x5 hb
 go_wp2_with fail
 go_ret
 exact ⟨rfl, HB1.out.trans (HB9.out.mono HB1.out.size)⟩
set_option maxRecDepth 100000 in
set_option maxHeartbeats 64000000 in
theorem fields_f {K : Nat → Prop} {w : World} (k : Int) (s : ByteArray) (n : Int) (ps : List Ty) (fs : List (ByteArray × Int × Ty)) (vs : List (ByteArray × List Ty)) {cs : List Value} (hr : RepT K w (.mk k s n ps fs vs) cs) (hsm : cntT (.mk k s n ps fs vs) ≤ 4096) (hf : formT (.mk k s n ps fs vs) = false) : Calls Tryz.prog 3 #[.agg cs.toArray] w (fun e w' => e = .returned (.bool true) ∧ Below w.heap.size w w') := by
 obtain ⟨A, c, A', c', A'', c'', rfl, -, -, hF, -⟩ := hr.inv
 simp only [cells6T] at hr ⊢
 obtain ⟨w1, hw1⟩ : ∃ x, x = w.alloc (.cells #[.int .i64 k, .string s, .int .i64 n, .slice A ps.length c, .slice A' fs.length c', .slice A'' vs.length c''] 26) := ⟨_, rfl⟩
 have hb1 : Below w.heap.size w w1 := by rw [hw1]; exact (Below.refl _ _).alloc (Nat.le_refl _) _
 have hs1 : w1.heap.size = w.heap.size + 1 := by rw [hw1]; simp
 have hx0 : w1.heap[w.heap.size]? = some (.cells #[.int .i64 k, .string s, .int .i64 n, .slice A ps.length c, .slice A' fs.length c', .slice A'' vs.length c''] 26 (0, 0)) := by rw [hw1]; exact heap_alloc_new w _
 have HXT : Hid (∀ wx, Below w1.heap.size w1 wx → wx.cell? ⟨w.heap.size, 0, none⟩ = some (.int .i64 k) ∧ wx.cell? ⟨w.heap.size, 1, none⟩ = some (.string s) ∧ wx.cell? ⟨w.heap.size, 2, none⟩ = some (.int .i64 n) ∧ wx.cell? ⟨w.heap.size, 3, none⟩ = some (.slice A ps.length c) ∧ wx.cell? ⟨w.heap.size, 4, none⟩ = some (.slice A' fs.length c') ∧ wx.cell? ⟨w.heap.size, 5, none⟩ = some (.slice A'' vs.length c'')) := Lib.hid fun wx hx => by
  have h := box_up hx (by omega) hx0
  exact ⟨Lib.cell_of_heap h 0, Lib.cell_of_heap h 1, Lib.cell_of_heap h 2, Lib.cell_of_heap h 3, Lib.cell_of_heap h 4, Lib.cell_of_heap h 5⟩
 have KAw := Lib.hid fun wx => awake13 wx
 have KSm := Lib.hid fun wx (hx : Below w1.heap.size w1 wx) => small13 (hr.later (hb1.trans (hx.mono hb1.size)))
 have KFo := Lib.hid fun wx (hx : Below w1.heap.size w1 wx) => formed_ref (hr.later (hb1.trans (hx.mono hb1.size)))
 have HB1 := Lib.hid hb1
 have HS1 := Lib.hid hs1
 have HW1 := Lib.hid hw1
 rw [decide_eq_true hsm] at KSm
 rw [show formedT (.mk k s n ps fs vs) = false from by unfold formedT; rw [hf, Bool.and_false]] at KFo
 clear hr hF hb1 hs1 hx0 hw1 hsm hf
 go_enter Tryz.func3, Tryz.ntmps3
 go_upto_region 1 with fail
 rw [← HW1.out]
 obtain ⟨x0, x1, x2, x3, x4, x5⟩ := HXT.out _ (Below.refl _ _)
 go_wp2_with fail
 refine (KAw.out _).mono ?_
 rintro e w2 ⟨rfl, hb⟩
 have HB2 := Lib.hid hb
 clear x0 x1 x2 x3 x4 x5 hb
 obtain ⟨x0, x1, x2, x3, x4, x5⟩ := HXT.out _ HB2.out
 go_wp2_with fail
 refine (KSm.out _ HB2.out).mono ?_
 rintro e w3 ⟨rfl, hb⟩
 have HB3 := Lib.hid (HB2.out.trans (hb.mono HB2.out.size))
 clear x0 x1 x2 x3 x4 x5 hb
 obtain ⟨x0, x1, x2, x3, x4, x5⟩ := HXT.out _ HB3.out
 go_wp2_with fail
 refine (KFo.out _ HB3.out).mono ?_
 rintro e w4 ⟨rfl, hb⟩
 have HB4 := Lib.hid (HB3.out.trans (hb.mono HB3.out.size))
 clear x0 x1 x2 x3 x4 x5 hb
 obtain ⟨x0, x1, x2, x3, x4, x5⟩ := HXT.out _ HB4.out
 go_wp2_with fail
 refine (KAw.out _).mono ?_
 rintro e w9 ⟨rfl, hb⟩
 have HB9 := Lib.hid (HB4.out.trans (hb.mono HB4.out.size))
 clear x0 x1 x2 x3 x4 x5 hb
 go_wp2_with fail
 go_ret
 exact ⟨rfl, HB1.out.trans (HB9.out.mono HB1.out.size)⟩
set_option maxRecDepth 100000 in
set_option maxHeartbeats 64000000 in
theorem fields_k {K : Nat → Prop} {w : World} (k : Int) (s : ByteArray) (n : Int) (ps : List Ty) (fs : List (ByteArray × Int × Ty)) (vs : List (ByteArray × List Ty)) {cs : List Value} (hr : RepT K w (.mk k s n ps fs vs) cs) (hsm : cntT (.mk k s n ps fs vs) ≤ 4096) (hf : formT (.mk k s n ps fs vs) = true) (hk : k ≠ 14) : Calls Tryz.prog 3 #[.agg cs.toArray] w (fun e w' => e = .returned (.bool true) ∧ Below w.heap.size w w') := by
 obtain ⟨A, c, A', c', A'', c'', rfl, -, -, hF, -⟩ := hr.inv
 simp only [cells6T] at hr ⊢
 obtain ⟨w1, hw1⟩ : ∃ x, x = w.alloc (.cells #[.int .i64 k, .string s, .int .i64 n, .slice A ps.length c, .slice A' fs.length c', .slice A'' vs.length c''] 26) := ⟨_, rfl⟩
 have hb1 : Below w.heap.size w w1 := by rw [hw1]; exact (Below.refl _ _).alloc (Nat.le_refl _) _
 have hs1 : w1.heap.size = w.heap.size + 1 := by rw [hw1]; simp
 have hx0 : w1.heap[w.heap.size]? = some (.cells #[.int .i64 k, .string s, .int .i64 n, .slice A ps.length c, .slice A' fs.length c', .slice A'' vs.length c''] 26 (0, 0)) := by rw [hw1]; exact heap_alloc_new w _
 have HXT : Hid (∀ wx, Below w1.heap.size w1 wx → wx.cell? ⟨w.heap.size, 0, none⟩ = some (.int .i64 k) ∧ wx.cell? ⟨w.heap.size, 1, none⟩ = some (.string s) ∧ wx.cell? ⟨w.heap.size, 2, none⟩ = some (.int .i64 n) ∧ wx.cell? ⟨w.heap.size, 3, none⟩ = some (.slice A ps.length c) ∧ wx.cell? ⟨w.heap.size, 4, none⟩ = some (.slice A' fs.length c') ∧ wx.cell? ⟨w.heap.size, 5, none⟩ = some (.slice A'' vs.length c'')) := Lib.hid fun wx hx => by
  have h := box_up hx (by omega) hx0
  exact ⟨Lib.cell_of_heap h 0, Lib.cell_of_heap h 1, Lib.cell_of_heap h 2, Lib.cell_of_heap h 3, Lib.cell_of_heap h 4, Lib.cell_of_heap h 5⟩
 have KAw := Lib.hid fun wx => awake13 wx
 have KSm := Lib.hid fun wx (hx : Below w1.heap.size w1 wx) => small13 (hr.later (hb1.trans (hx.mono hb1.size)))
 have KFo := Lib.hid fun wx (hx : Below w1.heap.size w1 wx) => formed_ref (hr.later (hb1.trans (hx.mono hb1.size)))
 have HB1 := Lib.hid hb1
 have HS1 := Lib.hid hs1
 have HW1 := Lib.hid hw1
 rw [decide_eq_true hsm] at KSm
 rw [show formedT (.mk k s n ps fs vs) = true from by unfold formedT; rw [hf, decide_eq_true hsm]; rfl] at KFo
 have g1 : (k == 14) = false := beq_eq_false_iff_ne.2 hk
 clear hr hF hb1 hs1 hx0 hw1 hsm hf hk
 go_enter Tryz.func3, Tryz.ntmps3
 go_upto_region 1 with fail
 rw [← HW1.out]
 obtain ⟨x0, x1, x2, x3, x4, x5⟩ := HXT.out _ (Below.refl _ _)
 go_wp2_with fail
 refine (KAw.out _).mono ?_
 rintro e w2 ⟨rfl, hb⟩
 have HB2 := Lib.hid hb
 clear x0 x1 x2 x3 x4 x5 hb
 obtain ⟨x0, x1, x2, x3, x4, x5⟩ := HXT.out _ HB2.out
 go_wp2_with fail
 refine (KSm.out _ HB2.out).mono ?_
 rintro e w3 ⟨rfl, hb⟩
 have HB3 := Lib.hid (HB2.out.trans (hb.mono HB2.out.size))
 clear x0 x1 x2 x3 x4 x5 hb
 obtain ⟨x0, x1, x2, x3, x4, x5⟩ := HXT.out _ HB3.out
 go_wp2_with fail
 refine (KFo.out _ HB3.out).mono ?_
 rintro e w4 ⟨rfl, hb⟩
 have HB4 := Lib.hid (HB3.out.trans (hb.mono HB3.out.size))
 clear x0 x1 x2 x3 x4 x5 hb
 obtain ⟨x0, x1, x2, x3, x4, x5⟩ := HXT.out _ HB4.out
 go_wp2_with fail
 refine (KAw.out _).mono ?_
 rintro e w9 ⟨rfl, hb⟩
 have HB9 := Lib.hid (HB4.out.trans (hb.mono HB4.out.size))
 clear x0 x1 x2 x3 x4 x5 hb
 go_wp2_with fail
 go_ret
 exact ⟨rfl, HB1.out.trans (HB9.out.mono HB1.out.size)⟩
set_option maxRecDepth 100000 in
set_option maxHeartbeats 64000000 in
theorem fields_y {K : Nat → Prop} {w : World} (s : ByteArray) (n : Int) (ps : List Ty) (fs : List (ByteArray × Int × Ty)) (vs : List (ByteArray × List Ty)) {cs : List Value} (hr : RepT K w (.mk 14 s n ps fs vs) cs) (hsm : cntT (.mk 14 s n ps fs vs) ≤ 4096) (hf : formT (.mk 14 s n ps fs vs) = true) : Calls Tryz.prog 3 #[.agg cs.toArray] w (fun e w' => e = .returned (.bool true) ∧ Below w.heap.size w w') := by
 obtain ⟨A, c, A', c', A'', c'', rfl, -, -, hF, -⟩ := hr.inv
 simp only [cells6T] at hr ⊢
 obtain ⟨w1, hw1⟩ : ∃ x, x = w.alloc (.cells #[.int .i64 14, .string s, .int .i64 n, .slice A ps.length c, .slice A' fs.length c', .slice A'' vs.length c''] 26) := ⟨_, rfl⟩
 have hb1 : Below w.heap.size w w1 := by rw [hw1]; exact (Below.refl _ _).alloc (Nat.le_refl _) _
 have hs1 : w1.heap.size = w.heap.size + 1 := by rw [hw1]; simp
 have hx0 : w1.heap[w.heap.size]? = some (.cells #[.int .i64 14, .string s, .int .i64 n, .slice A ps.length c, .slice A' fs.length c', .slice A'' vs.length c''] 26 (0, 0)) := by rw [hw1]; exact heap_alloc_new w _
 have HXT : Hid (∀ wx, Below w1.heap.size w1 wx → wx.cell? ⟨w.heap.size, 0, none⟩ = some (.int .i64 14) ∧ wx.cell? ⟨w.heap.size, 1, none⟩ = some (.string s) ∧ wx.cell? ⟨w.heap.size, 2, none⟩ = some (.int .i64 n) ∧ wx.cell? ⟨w.heap.size, 3, none⟩ = some (.slice A ps.length c) ∧ wx.cell? ⟨w.heap.size, 4, none⟩ = some (.slice A' fs.length c') ∧ wx.cell? ⟨w.heap.size, 5, none⟩ = some (.slice A'' vs.length c'')) := Lib.hid fun wx hx => by
  have h := box_up hx (by omega) hx0
  exact ⟨Lib.cell_of_heap h 0, Lib.cell_of_heap h 1, Lib.cell_of_heap h 2, Lib.cell_of_heap h 3, Lib.cell_of_heap h 4, Lib.cell_of_heap h 5⟩
 have KAw := Lib.hid fun wx => awake13 wx
 have KSm := Lib.hid fun wx (hx : Below w1.heap.size w1 wx) => small13 (hr.later (hb1.trans (hx.mono hb1.size)))
 have KFo := Lib.hid fun wx (hx : Below w1.heap.size w1 wx) => formed_ref (hr.later (hb1.trans (hx.mono hb1.size)))
 have HB1 := Lib.hid hb1
 have HS1 := Lib.hid hs1
 have HW1 := Lib.hid hw1
 have hft : formedT (.mk 14 s n ps fs vs) = true := by unfold formedT; rw [hf, decide_eq_true hsm]; rfl
 rw [decide_eq_true hsm] at KSm
 rw [hft] at KFo
 have hszs : ∀ f ∈ fs, f.1.size ≤ 1000000000000000 := fun f hfm => by
  obtain ⟨i, hi, rfl⟩ := List.getElem_of_mem hfm
  obtain ⟨b, o, _, _, hat⟩ := hF.at (by omega)
  exact (hat i hi).2.2.1
 have hlow := RepT.low _ _ hr
 have KKey := Lib.hid fun wx (hx : Below w1.heap.size w1 wx) => ekeys_object (hlow.later (hb1.trans (hx.mono hb1.size))) (fun b h => by have := hx.size; omega) hft rfl hszs
 have e0 : Ty.fs (.mk 14 s n ps fs vs) = fs := rfl
 have hprt := prts_keys (t := .mk 14 s n ps fs vs) hf rfl
 have hfl : fs.length ≤ 4096 := by have h := hsm; rw [cntT_mk] at h; have := len_cntF fs; omega
 rw [e0] at KKey hprt
 have hul : cntT (unionT (fs.map fun f => strT f.1)) ≤ 4097 := by have := cnt_union (fs.map fun f => strT f.1); rw [cnt_strs] at this; omega
 generalize unionT (fs.map fun f => strT f.1) = u at KKey hprt hul
 have hpl : u.ps.length ≤ 1099511627776 := by have h1 := len_cntL u.ps; have h2 := cnt_ps u; omega
 obtain ⟨ku, su, nu, pu, fu, vu⟩ := u
 have HPR : Hid (prtsT (.mk ku su nu pu fu vu) = fs.map (fun f => strT f.1) ∧ (prtsT (.mk ku su nu pu fu vu)).length = fs.length) := Lib.hid ⟨hprt, by rw [hprt, List.length_map]⟩
 have HPL := Lib.hid hpl
 have HR := Lib.hid hr
 have HF := Lib.hid hF
 have HFT := Lib.hid hft
 have HFM := Lib.hid hf
 have HSM := Lib.hid hsm
 have HSZ := Lib.hid hszs
 clear hr hlow hF hb1 hs1 hx0 hw1 hsm hf hft hszs e0 hprt hul hpl
 go_enter Tryz.func3, Tryz.ntmps3
 go_upto_region 1 with fail
 rw [← HW1.out]
 obtain ⟨x0, x1, x2, x3, x4, x5⟩ := HXT.out _ (Below.refl _ _)
 go_wp2_with fail
 refine (KAw.out _).mono ?_
 rintro e w2 ⟨rfl, hb⟩
 have HB2 := Lib.hid hb
 clear x0 x1 x2 x3 x4 x5 hb
 obtain ⟨x0, x1, x2, x3, x4, x5⟩ := HXT.out _ HB2.out
 go_wp2_with fail
 refine (KSm.out _ HB2.out).mono ?_
 rintro e w3 ⟨rfl, hb⟩
 have HB3 := Lib.hid (HB2.out.trans (hb.mono HB2.out.size))
 clear x0 x1 x2 x3 x4 x5 hb
 obtain ⟨x0, x1, x2, x3, x4, x5⟩ := HXT.out _ HB3.out
 go_wp2_with fail
 refine (KFo.out _ HB3.out).mono ?_
 rintro e w4 ⟨rfl, hb⟩
 have HB4 := Lib.hid (HB3.out.trans (hb.mono HB3.out.size))
 clear x0 x1 x2 x3 x4 x5 hb
 obtain ⟨x0, x1, x2, x3, x4, x5⟩ := HXT.out _ HB4.out
 go_wp2_with fail
 refine (KKey.out _ HB4.out).mono ?_
 rintro e w5 ⟨rs, rfl, hru, hb⟩
 obtain ⟨Au, cu, Bu, du, Cu, eu, rfl, -⟩ := hru.inv
 simp only [cells6T] at hru ⊢
 have HB5 := Lib.hid (HB4.out.trans (hb.mono HB4.out.size))
 have HRU := Lib.hid hru
 clear x0 x1 x2 x3 x4 x5 hb hru KKey KFo KSm KAw
 go_upto_region 4 with fail
 generalize hW : w5.alloc (.cells #[.int .i64 ku, .string su, .int .i64 nu, .slice Au pu.length cu, .slice Bu fu.length du, .slice Cu vu.length eu] 26) = w6
 have hb : Below w5.heap.size w5 w6 := by rw [← hW]; exact (Below.refl _ _).alloc (Nat.le_refl _) _
 have hx : w6.heap[w5.heap.size]? = some (.cells #[.int .i64 ku, .string su, .int .i64 nu, .slice Au pu.length cu, .slice Bu fu.length du, .slice Cu vu.length eu] 26 (0, 0)) := by rw [← hW]; exact heap_alloc_new w5 _
 have HB6 := Lib.hid (HB5.out.trans (hb.mono HB5.out.size))
 have KPt := Lib.hid (eparts_any (RepT.low _ _ (HRU.out.later hb)) (fun b h => h) HPL.out)
 obtain ⟨y0, y1, y2, y3, y4, y5⟩ := cz6 hx
 clear hW hb hx
 go_wp2_with fail
 refine KPt.out.mono ?_
 rintro e w7 ⟨A5, c5, he, hl5, hb⟩
 rw [HPR.out.2] at he
 rw [HPR.out.1] at hl5
 subst he
 have HB7 := Lib.hid (HB6.out.trans (hb.mono HB6.out.size))
 have HL5 := Lib.hid hl5
 clear y0 y1 y2 y3 y4 y5 hb hl5 KPt
 obtain ⟨x0, x1, x2, x3, x4, x5⟩ := HXT.out _ HB7.out
 have HLT : Hid (w.heap.size < w7.heap.size) := Lib.hid (by have := HS1.out; have := HB7.out.size; omega)
 have HBW7 := Lib.hid (HB1.out.trans (HB7.out.mono HB1.out.size))
 have HRT := Lib.hid (RepT.low _ _ (HR.out.later HBW7.out))
 have HF7 := Lib.hid (HF.out.later HBW7.out)
 have HX7 : Hid (∀ wx, Below w7.heap.size w7 wx → wx.cell? ⟨w.heap.size, 0, none⟩ = some (.int .i64 14) ∧ wx.cell? ⟨w.heap.size, 1, none⟩ = some (.string s) ∧ wx.cell? ⟨w.heap.size, 2, none⟩ = some (.int .i64 n) ∧ wx.cell? ⟨w.heap.size, 3, none⟩ = some (.slice A ps.length c) ∧ wx.cell? ⟨w.heap.size, 4, none⟩ = some (.slice A' fs.length c') ∧ wx.cell? ⟨w.heap.size, 5, none⟩ = some (.slice A'' vs.length c'')) := Lib.hid fun wx hx => HXT.out wx (HB7.out.trans (hx.mono HB7.out.size))
 clear HB2 HB3 HB4 HB5 HB6 HRU
 go_wp2_with fail
 go_loopw [6] (fun v wr => ∃ (i : Nat), i ≤ fs.length ∧ v = .int .i64 i ∧ Below w7.heap.size w7 wr) (fun v _ => fs.length - (intOf v).toNat)
 case atStart => exact ⟨0, by omega, rfl, Below.refl _ _⟩
 case round =>
  obtain ⟨i, hi, rfl, hb⟩ := hrel
  have HB := Lib.hid hb
  clear x0 x1 x2 x3 x4 x5 hb
  obtain ⟨x0, x1, x2, x3, x4, x5⟩ := HX7.out _ HB.out
  by_cases hin : i < fs.length
  ·have t1 : decide ((i : Int) < (fs.length : Int)) = true := by simp; omega
   have wr2 : wrap64 ((i : Int) + 1) = ((i + 1 : Nat) : Int) := wrap_one (by omega)
   have HM := Lib.hid (measI hin)
   have HIn : Hid (i + 1 ≤ fs.length) := Lib.hid hin
   have hmem := List.getElem_mem hin
   have hfb := fieldsB_mem (form_fields HFM.out rfl) hmem
   have hat' := at_key HFM.out rfl hin
   have hcf := cnt_field_le HSM.out (show fs[i] ∈ Ty.fs (.mk 14 s n ps fs vs) from hmem)
   have e0 : Ty.fs (.mk 14 s n ps fs vs) = fs := rfl
   simp only [e0] at hat'
   have hsz := HSZ.out _ hmem
   have hwant := held_want (f := fs[i])
   have hhf : formT (heldT fs[i]) = true := form_held hfb.2.2.2
   obtain ⟨b, o, hA, _, hat⟩ := HF7.out.at (by omega)
   subst hA
   obtain ⟨hc0, hc1, _, ds, hds, hrep⟩ := hat i hin
   obtain ⟨b5, o5, hr5, hat5⟩ := HL5.out
   have hin5 : i < (fs.map fun f => strT f.1).length := by rw [List.length_map]; exact hin
   have hA5 := (hr5.some (by omega)).1
   subst hA5
   obtain ⟨dq, hdq, hrq⟩ := hat5 i hin5
   rw [List.getElem_map] at hrq
   generalize fs[i] = f at hfb hat' hcf hsz hwant hhf hc0 hc1 hds hrep hrq
   obtain ⟨nm, fl, tf⟩ := f
   obtain ⟨k3, s3, n3, ps3, fs3, vs3⟩ := tf
   obtain ⟨A3, c3, B3, d3, C3, e3, rfl, -⟩ := hrep.inv
   have hrq' : RepT _ w7 (.mk 10 nm 0 [] [] []) dq := hrq
   obtain ⟨Ae, ce, Be, de, Ce, ee, rfl, -⟩ := hrq'.inv
   simp only [cells6T, List.length_nil] at hrq' hdq
   generalize hhe : heldT (nm, fl, .mk k3 s3 n3 ps3 fs3 vs3) = he8 at hat' hwant hhf
   obtain ⟨k8, s8, n8, ps8, fs8, vs8⟩ := he8
   have HF8 : Hid (∀ wx, Below w7.heap.size w7 wx → wx.cell? ⟨b, o + i * 8, none⟩ = some (.string nm) ∧ wx.cell? ⟨b, o + i * 8 + 1, none⟩ = some (.int .i64 fl) ∧ wx.cell? ⟨b, o + i * 8 + 2, none⟩ = some (.int .i64 k3) ∧ wx.cell? ⟨b, o + i * 8 + 3, none⟩ = some (.string s3) ∧ wx.cell? ⟨b, o + i * 8 + 4, none⟩ = some (.int .i64 n3) ∧ wx.cell? ⟨b, o + i * 8 + 5, none⟩ = some (.slice A3 ps3.length c3) ∧ wx.cell? ⟨b, o + i * 8 + 6, none⟩ = some (.slice B3 fs3.length d3) ∧ wx.cell? ⟨b, o + i * 8 + 7, none⟩ = some (.slice C3 vs3.length e3)) := Lib.hid fun wx hx =>
    ⟨cell_stays hx hc0, cell_stays hx hc1, cell_stays hx (hds 0 _ rfl), cell_stays hx (hds 1 _ rfl), cell_stays hx (hds 2 _ rfl), cell_stays hx (hds 3 _ rfl), cell_stays hx (hds 4 _ rfl), cell_stays hx (hds 5 _ rfl)⟩
   have HE8 : Hid (∀ wx, Below w7.heap.size w7 wx → wx.cell? ⟨b5, o5 + i * 6, none⟩ = some (.int .i64 10) ∧ wx.cell? ⟨b5, o5 + i * 6 + 1, none⟩ = some (.string nm) ∧ wx.cell? ⟨b5, o5 + i * 6 + 2, none⟩ = some (.int .i64 0) ∧ wx.cell? ⟨b5, o5 + i * 6 + 3, none⟩ = some (.slice Ae 0 ce) ∧ wx.cell? ⟨b5, o5 + i * 6 + 4, none⟩ = some (.slice Be 0 de) ∧ wx.cell? ⟨b5, o5 + i * 6 + 5, none⟩ = some (.slice Ce 0 ee)) := Lib.hid fun wx hx =>
    ⟨cell_stays hx (hdq 0 _ rfl), cell_stays hx (hdq 1 _ rfl), cell_stays hx (hdq 2 _ rfl), cell_stays hx (hdq 3 _ rfl), cell_stays hx (hdq 4 _ rfl), cell_stays hx (hdq 5 _ rfl)⟩
   have HRF := Lib.hid (RepT.low _ _ hrep)
   have KAt := Lib.hid fun wx (hx : Below w7.heap.size w7 wx) => evalat_ok (K := fun b => b < w7.heap.size) (HRT.out.later hx) ((RepT.low _ _ hrq').later hx) (fun b h => by have := hx.size; omega) HFT.out (formed_str nm)
   rw [show (Ty.mk 10 nm 0 [] [] []) = strT nm from rfl, hat'] at KAt
   have HWN := Lib.hid hwant
   have HFB := Lib.hid hfb
   have HCF := Lib.hid hcf
   obtain ⟨z0, z1, z2, z3, z4, z5, z6, z7⟩ := HF8.out _ HB.out
   clear hi hmem hfb hat' hcf e0 hsz hwant hhf hat hc0 hc1 hds hrep hr5 hat5 hin5 hdq hrq hrq' hhe
   go_upto_region 11 with fail
   generalize hW : wr.alloc (.cells #[.string nm, .int .i64 fl, .int .i64 k3, .string s3, .int .i64 n3, .slice A3 ps3.length c3, .slice B3 fs3.length d3, .slice C3 vs3.length e3] 34) = wa
   have hb : Below wr.heap.size wr wa := by rw [← hW]; exact (Below.refl _ _).alloc (Nat.le_refl _) _
   have hx : wa.heap[wr.heap.size]? = some (.cells #[.string nm, .int .i64 fl, .int .i64 k3, .string s3, .int .i64 n3, .slice A3 ps3.length c3, .slice B3 fs3.length d3, .slice C3 vs3.length e3] 34 (0, 0)) := by rw [← hW]; exact heap_alloc_new wr _
   have HXF := Lib.hid hx
   have HBA := Lib.hid (HB.out.trans (hb.mono HB.out.size))
   have HXO : Hid (∀ wx, Below w7.heap.size w7 wx → (wx.cell? ⟨w.heap.size, 0, none⟩ = some (.int .i64 14) ∧ wx.cell? ⟨w.heap.size, 1, none⟩ = some (.string s) ∧ wx.cell? ⟨w.heap.size, 2, none⟩ = some (.int .i64 n) ∧ wx.cell? ⟨w.heap.size, 3, none⟩ = some (.slice A ps.length c) ∧ wx.cell? ⟨w.heap.size, 4, none⟩ = some (.slice (some ⟨b, o, none⟩) fs.length c') ∧ wx.cell? ⟨w.heap.size, 5, none⟩ = some (.slice A'' vs.length c'')) ∧ (wx.cell? ⟨b5, o5 + i * 6, none⟩ = some (.int .i64 10) ∧ wx.cell? ⟨b5, o5 + i * 6 + 1, none⟩ = some (.string nm) ∧ wx.cell? ⟨b5, o5 + i * 6 + 2, none⟩ = some (.int .i64 0) ∧ wx.cell? ⟨b5, o5 + i * 6 + 3, none⟩ = some (.slice Ae 0 ce) ∧ wx.cell? ⟨b5, o5 + i * 6 + 4, none⟩ = some (.slice Be 0 de) ∧ wx.cell? ⟨b5, o5 + i * 6 + 5, none⟩ = some (.slice Ce 0 ee))) := Lib.hid fun wx hx => ⟨HX7.out wx hx, HE8.out wx hx⟩
   have i1 : (0 : Int) ≤ (i : Int) := by omega
   have i2 : (i : Int) < (fs.length : Int) := by omega
   clear hW hb hx x0 x1 x2 x3 x4 x5 z0 z1 z2 z3 z4 z5 z6 z7
   have HXF0 := Lib.hid (show wa.drew.heap[wr.heap.size]? = _ from HXF.out)
   refine wp_region_held_drew (S := (fun w' => (w'.cell? ⟨w.heap.size, 0, none⟩ = some (.int .i64 14) ∧ w'.cell? ⟨w.heap.size, 1, none⟩ = some (.string s) ∧ w'.cell? ⟨w.heap.size, 2, none⟩ = some (.int .i64 n) ∧ w'.cell? ⟨w.heap.size, 3, none⟩ = some (.slice A ps.length c) ∧ w'.cell? ⟨w.heap.size, 4, none⟩ = some (.slice (some ⟨b, o, none⟩) fs.length c') ∧ w'.cell? ⟨w.heap.size, 5, none⟩ = some (.slice A'' vs.length c'')) ∧ (w'.cell? ⟨b5, o5 + i * 6, none⟩ = some (.int .i64 10) ∧ w'.cell? ⟨b5, o5 + i * 6 + 1, none⟩ = some (.string nm) ∧ w'.cell? ⟨b5, o5 + i * 6 + 2, none⟩ = some (.int .i64 0) ∧ w'.cell? ⟨b5, o5 + i * 6 + 3, none⟩ = some (.slice Ae 0 ce) ∧ w'.cell? ⟨b5, o5 + i * 6 + 4, none⟩ = some (.slice Be 0 de) ∧ w'.cell? ⟨b5, o5 + i * 6 + 5, none⟩ = some (.slice Ce 0 ee)))) (by kernel_rfl) (HXO.out _ HBA.out.drew) (fun hHeld => ?_)
   refine Plan.start [0, 1, 2, 3, 4] ?_
   iterate 5 ((refine Plan.take (v := ?_) (so rfl) (by kernel_rfl) (by kernel_rfl) (by kernel_rfl) (fun _ _ _ h => h) (Or.inl ⟨by rfl, ?_⟩) hHeld ?_; rotate_left; focus (intro w' hSw; (try dsimp only at hSw); go_simp; try with_reducible rfl)); try simp only [Act.put, List.setIfInBounds_toArray, List.set_cons_zero, List.set_cons_succ])
   refine Plan.done ?_
   refine wpAnyH_ready (rs := [5, 9]) (by kernel_rfl) (by simp) ?_
   refine AllReadyH.cons (sd (some 65) rfl) (fun Kx hK => ?_) (AllReadyH.cons (sd (some 8) rfl) (fun Kx hK => ?_) AllReadyH.nil)
   ·go_simp
    refine (KAt.out _ HBA.out.drew).mono ?_
    rintro e w11 ⟨rs, rfl, hra, hb⟩
    have HB11 := Lib.hid (HBA.out.drew.trans (hb.mono HBA.out.drew.size))
    have HY11 := Lib.hid (box_up hb (Array.getElem?_eq_some_iff.1 HXF0.out).1 HXF0.out)
    have HQA11 := Lib.hid ((Below.refl wa.heap.size wa).drew.trans (hb.mono (Below.refl wa.heap.size wa).drew.size))
    obtain ⟨A8, c8, B8, d8, C8, e8, rfl, -⟩ := hra.inv
    simp only [cells6T] at hra ⊢
    have HR11 := Lib.hid (RepT.low _ _ hra)
    clear hra hb
    go_wp2_with fail
    refine hK.out _ _ (HXO.out _ HB11.out) (fun hHeld => ?_)
    clear hK Kx
    try simp only [Act.put, List.setIfInBounds_toArray, List.set_cons_zero, List.set_cons_succ]
    refine Plan.start [6, 7, 8] ?_
    iterate 3 ((refine Plan.take (v := ?_) (so rfl) (by kernel_rfl) (by kernel_rfl) (by kernel_rfl) (fun _ _ _ h => h) (Or.inl ⟨by rfl, ?_⟩) hHeld ?_; rotate_left; focus (intro w' hSw; (try dsimp only at hSw); go_simp; try with_reducible rfl)); try simp only [Act.put, List.setIfInBounds_toArray, List.set_cons_zero, List.set_cons_succ])
    refine Plan.done ?_
    refine wpAnyH_ready (rs := [9]) (by kernel_rfl) (by simp) ?_
    refine AllReadyH.cons (sd (some 8) rfl) (fun Kx hK => ?_) AllReadyH.nil
    go_simp
    generalize hW : World.alloc w11 (.cells #[.int .i64 0, .string ⟨#[]⟩, .int .i64 0, .slice none 0 0, .slice none 0 0, .slice none 0 0] 26) = w12
    have hb : Below w11.heap.size w11 w12 := by rw [← hW]; exact (Below.refl w11.heap.size w11).alloc (Nat.le_refl _) _
    have hx : w12.heap[w11.heap.size]? = some (.cells #[.int .i64 0, .string ⟨#[]⟩, .int .i64 0, .slice none 0 0, .slice none 0 0, .slice none 0 0] 26 (0, 0)) := by rw [← hW]; exact heap_alloc_new (w11) _
    clear hW
    have HB12 := Lib.hid (HB11.out.trans (hb.mono HB11.out.size))
    have HR12 := Lib.hid (HR11.out.later hb)
    have HY12 := Lib.hid (box_up hb (Array.getElem?_eq_some_iff.1 HY11.out).1 HY11.out)
    have HQA12 := Lib.hid (HQA11.out.trans (hb.mono HQA11.out.size))
    have HRn12 : Hid (RepT (fun b => b ≠ w11.heap.size) w12 _ _) := Lib.hid (HR12.out.weak fun b h => by have : b < w11.heap.size := h; omega)
    have HX12 := Lib.hid hx
    clear hb hx
    refine hK.out _ _ (HXO.out _ HB12.out) (fun hHeld => ?_)
    clear hK Kx
    try simp only [Act.put, List.setIfInBounds_toArray, List.set_cons_zero, List.set_cons_succ]
    refine wpAnyH_ready (rs := [10]) (by kernel_rfl) (by simp) ?_
    refine AllReadyH.cons (sd none rfl) (fun Kx hK => ?_) AllReadyH.nil
    go_simp
    have rb := HX12.out
    obtain ⟨q0, q1, q2, q3, q4, q5, z0, z1, z2, z3, z4, z5⟩ := qz6 rb
    clear rb
    go_simp
    have hx := six_set HX12.out (.int .i64 k8) (.string s8) (.int .i64 n8) (.slice A8 ps8.length c8) (.slice B8 fs8.length d8) (.slice C8 vs8.length e8)
    have hbn := set_six_below HB12.out ((HB11.out).size) (.int .i64 k8) (.string s8) (.int .i64 n8) (.slice A8 ps8.length c8) (.slice B8 fs8.length d8) (.slice C8 vs8.length e8)
    have hrn := six_rep HRn12.out (fun b h => h) (.int .i64 k8) (.string s8) (.int .i64 n8) (.slice A8 ps8.length c8) (.slice B8 fs8.length d8) (.slice C8 vs8.length e8)
    have hyf : (World.setCell (World.setCell (World.setCell (World.setCell (World.setCell (World.setCell w12 ⟨w11.heap.size, 0, none⟩ (.int .i64 k8)) ⟨w11.heap.size, 1, none⟩ (.string s8)) ⟨w11.heap.size, 2, none⟩ (.int .i64 n8)) ⟨w11.heap.size, 3, none⟩ (.slice A8 ps8.length c8)) ⟨w11.heap.size, 4, none⟩ (.slice B8 fs8.length d8)) ⟨w11.heap.size, 5, none⟩ (.slice C8 vs8.length e8)).heap[wr.heap.size]? = _ := (six_heap w12 _ _ _ _ _ _ (show _ ≠ w11.heap.size from by have h1 := (Array.getElem?_eq_some_iff.1 HXF.out).1; have h2 := (HQA11.out).size; omega)).trans HY12.out
    generalize hW : (World.setCell (World.setCell (World.setCell (World.setCell (World.setCell (World.setCell w12 ⟨w11.heap.size, 0, none⟩ (.int .i64 k8)) ⟨w11.heap.size, 1, none⟩ (.string s8)) ⟨w11.heap.size, 2, none⟩ (.int .i64 n8)) ⟨w11.heap.size, 3, none⟩ (.slice A8 ps8.length c8)) ⟨w11.heap.size, 4, none⟩ (.slice B8 fs8.length d8)) ⟨w11.heap.size, 5, none⟩ (.slice C8 vs8.length e8)) = w13 at hx hbn hrn hyf
    clear hW q0 q1 q2 q3 q4 q5 z0 z1 z2 z3 z4 z5
    have HB13 := Lib.hid hbn
    have HX13 := Lib.hid hx
    have HR13 := Lib.hid hrn
    clear hx hbn hrn
    have HY13 := Lib.hid hyf
    clear hyf
    refine hK.out _ _ (HXO.out _ HB13.out) (fun hHeld => ?_)
    clear hK Kx
    try simp only [Act.put, List.setIfInBounds_toArray, List.set_cons_zero, List.set_cons_succ]
    refine wpAnyH_take (i := 11) (v := ?_) (sd (some 9) rfl) (by kernel_rfl) (by kernel_rfl) (by kernel_rfl) (fun _ _ _ h => h) (Or.inl ⟨by rfl, ?_⟩) hHeld ?_
    rotate_left
    ·intro w' hSw
     (try dsimp only at hSw)
     go_simp
     try with_reducible rfl
    try simp only [Act.put, List.setIfInBounds_toArray, List.set_cons_zero, List.set_cons_succ]
    refine wpAnyH_done (by kernel_rfl) ?_ _
    clear hHeld
    rcases (fl_cases HFB.out.2.1 HFB.out.2.2.1) with hfl | hfl | hfl | hfl
    ·subst hfl
     go_upto_region 12 with fail
     have hyf := HY13.out
     obtain ⟨z0, z1, z2, z3, z4, z5, z6, z7⟩ := cz8 hyf
     clear hyf
     go_upto_region 13 with fail
     generalize hW : w13.alloc (.cells #[.int .i64 k3, .string s3, .int .i64 n3, .slice A3 ps3.length c3, .slice B3 fs3.length d3, .slice C3 vs3.length e3] 26) = w14
     have hb : Below w13.heap.size w13 w14 := by rw [← hW]; exact (Below.refl _ _).alloc (Nat.le_refl _) _
     have hx : w14.heap[w13.heap.size]? = some (.cells #[.int .i64 k3, .string s3, .int .i64 n3, .slice A3 ps3.length c3, .slice B3 fs3.length d3, .slice C3 vs3.length e3] 26 (0, 0)) := by rw [← hW]; exact heap_alloc_new w13 _
     have HXW14 := Lib.hid hx
     have HST14 := Lib.hid hb
     have HB14 := Lib.hid (HB13.out.trans (hb.mono HB13.out.size))
     have HY14 := Lib.hid (box_up hb (Array.getElem?_eq_some_iff.1 HY13.out).1 HY13.out)
     have H8X14 := Lib.hid (box_up hb (Array.getElem?_eq_some_iff.1 HX13.out).1 HX13.out)
     have H8R14 := Lib.hid (HR13.out.later hb)
     have hyf := HY14.out
     clear hW hb hx z0 z1 z2 z3 z4 z5 z6 z7
     obtain ⟨z0, z1, z2, z3, z4, z5, z6, z7⟩ := cz8 hyf
     clear hyf
     have HRW14 := Lib.hid ((HRF.out.later HB14.out).weak (K' := fun _ => True) fun _ _ => trivial)
     have HEQ : Hid (Ty.mk k8 s8 n8 ps8 fs8 vs8 = .mk k3 s3 n3 ps3 fs3 vs3) := Lib.hid (by rw [HWN.out]; rfl)
     go_upto_region 15 with fail
     clear z0 z1 z2 z3 z4 z5 z6 z7
     have HS15 : Hid (∀ wx, Below w14.heap.size w14 wx → (wx.cell? ⟨b5, o5 + i * 6, none⟩ = some (.int .i64 10) ∧ wx.cell? ⟨b5, o5 + i * 6 + 1, none⟩ = some (.string nm) ∧ wx.cell? ⟨b5, o5 + i * 6 + 2, none⟩ = some (.int .i64 0) ∧ wx.cell? ⟨b5, o5 + i * 6 + 3, none⟩ = some (.slice Ae 0 ce) ∧ wx.cell? ⟨b5, o5 + i * 6 + 4, none⟩ = some (.slice Be 0 de) ∧ wx.cell? ⟨b5, o5 + i * 6 + 5, none⟩ = some (.slice Ce 0 ee)) ∧ wx.cell? ⟨wr.heap.size, 0, none⟩ = some (.string nm) ∧ (wx.cell? ⟨w11.heap.size, 0, none⟩ = some (.int .i64 k8) ∧ wx.cell? ⟨w11.heap.size, 1, none⟩ = some (.string s8) ∧ wx.cell? ⟨w11.heap.size, 2, none⟩ = some (.int .i64 n8) ∧ wx.cell? ⟨w11.heap.size, 3, none⟩ = some (.slice A8 ps8.length c8) ∧ wx.cell? ⟨w11.heap.size, 4, none⟩ = some (.slice B8 fs8.length d8) ∧ wx.cell? ⟨w11.heap.size, 5, none⟩ = some (.slice C8 vs8.length e8)) ∧ (wx.cell? ⟨w13.heap.size, 0, none⟩ = some (.int .i64 k3) ∧ wx.cell? ⟨w13.heap.size, 1, none⟩ = some (.string s3) ∧ wx.cell? ⟨w13.heap.size, 2, none⟩ = some (.int .i64 n3) ∧ wx.cell? ⟨w13.heap.size, 3, none⟩ = some (.slice A3 ps3.length c3) ∧ wx.cell? ⟨w13.heap.size, 4, none⟩ = some (.slice B3 fs3.length d3) ∧ wx.cell? ⟨w13.heap.size, 5, none⟩ = some (.slice C3 vs3.length e3))) := Lib.hid fun wx hx => by
      have h1 := box_up hx (Array.getElem?_eq_some_iff.1 HY14.out).1 HY14.out
      have h2 := box_up hx (Array.getElem?_eq_some_iff.1 H8X14.out).1 H8X14.out
      have h3 := box_up hx (Array.getElem?_eq_some_iff.1 HXW14.out).1 HXW14.out
      exact ⟨HE8.out wx (HB14.out.trans (hx.mono HB14.out.size)), Lib.cell_of_heap h1 0, ⟨Lib.cell_of_heap h2 0, Lib.cell_of_heap h2 1, Lib.cell_of_heap h2 2, Lib.cell_of_heap h2 3, Lib.cell_of_heap h2 4, Lib.cell_of_heap h2 5⟩, ⟨Lib.cell_of_heap h3 0, Lib.cell_of_heap h3 1, Lib.cell_of_heap h3 2, Lib.cell_of_heap h3 3, Lib.cell_of_heap h3 4, Lib.cell_of_heap h3 5⟩⟩
     have KSame := Lib.hid fun wx (hx : Below w14.heap.size w14 wx) => same13 (H8R14.out.later hx) (HRW14.out.later hx)
     rw [show (ordT (.mk k8 s8 n8 ps8 fs8 vs8) (.mk k3 s3 n3 ps3 fs3 vs3) == 0) = true from by rw [HEQ.out, ordT_zero.2 rfl]; rfl] at KSame
     refine wp_region_held_drew (S := (fun w' => (w'.cell? ⟨b5, o5 + i * 6, none⟩ = some (.int .i64 10) ∧ w'.cell? ⟨b5, o5 + i * 6 + 1, none⟩ = some (.string nm) ∧ w'.cell? ⟨b5, o5 + i * 6 + 2, none⟩ = some (.int .i64 0) ∧ w'.cell? ⟨b5, o5 + i * 6 + 3, none⟩ = some (.slice Ae 0 ce) ∧ w'.cell? ⟨b5, o5 + i * 6 + 4, none⟩ = some (.slice Be 0 de) ∧ w'.cell? ⟨b5, o5 + i * 6 + 5, none⟩ = some (.slice Ce 0 ee)) ∧ w'.cell? ⟨wr.heap.size, 0, none⟩ = some (.string nm) ∧ (w'.cell? ⟨w11.heap.size, 0, none⟩ = some (.int .i64 k8) ∧ w'.cell? ⟨w11.heap.size, 1, none⟩ = some (.string s8) ∧ w'.cell? ⟨w11.heap.size, 2, none⟩ = some (.int .i64 n8) ∧ w'.cell? ⟨w11.heap.size, 3, none⟩ = some (.slice A8 ps8.length c8) ∧ w'.cell? ⟨w11.heap.size, 4, none⟩ = some (.slice B8 fs8.length d8) ∧ w'.cell? ⟨w11.heap.size, 5, none⟩ = some (.slice C8 vs8.length e8)) ∧ (w'.cell? ⟨w13.heap.size, 0, none⟩ = some (.int .i64 k3) ∧ w'.cell? ⟨w13.heap.size, 1, none⟩ = some (.string s3) ∧ w'.cell? ⟨w13.heap.size, 2, none⟩ = some (.int .i64 n3) ∧ w'.cell? ⟨w13.heap.size, 3, none⟩ = some (.slice A3 ps3.length c3) ∧ w'.cell? ⟨w13.heap.size, 4, none⟩ = some (.slice B3 fs3.length d3) ∧ w'.cell? ⟨w13.heap.size, 5, none⟩ = some (.slice C3 vs3.length e3)))) (by kernel_rfl) (HS15.out _ (Below.refl _ _).drew) (fun hHeld => ?_)
     refine Plan.start [0, 1, 2, 3, 4, 5, 6, 7, 8, 9, 10, 11, 12, 13, 14, 15, 16, 17, 18, 19, 20, 21, 22] ?_
     iterate 23 ((refine Plan.take (v := ?_) (so rfl) (by kernel_rfl) (by kernel_rfl) (by kernel_rfl) (fun _ _ _ h => h) (Or.inl ⟨by rfl, ?_⟩) hHeld ?_; rotate_left; focus (intro w' hSw; (try dsimp only at hSw); go_simp; try with_reducible rfl)); try simp only [Act.put, List.setIfInBounds_toArray, List.set_cons_zero, List.set_cons_succ])
     refine Plan.done ?_
     refine wpAnyH_ready (rs := [23]) (by kernel_rfl) (by simp) ?_
     refine AllReadyH.cons (sd (some 102) rfl) (fun Kx hK => ?_) AllReadyH.nil
     go_simp
     refine (KSame.out _ (Below.refl w14.heap.size w14).drew).mono ?_
     rintro e w16 ⟨rfl, hb⟩
     have HQ16 := Lib.hid ((Below.refl w14.heap.size w14).drew.trans (hb.mono (Below.refl w14.heap.size w14).drew.size))
     clear hb
     go_wp2_with fail
     refine hK.out _ _ (HS15.out _ HQ16.out) (fun hHeld => ?_)
     clear hK Kx
     try simp only [Act.put, List.setIfInBounds_toArray, List.set_cons_zero, List.set_cons_succ]
     refine Plan.start [24, 25] ?_
     iterate 2 ((refine Plan.take (v := ?_) (so rfl) (by kernel_rfl) (by kernel_rfl) (by kernel_rfl) (fun _ _ _ h => h) (Or.inl ⟨by rfl, ?_⟩) hHeld ?_; rotate_left; focus (intro w' hSw; (try dsimp only at hSw); go_simp; try with_reducible rfl)); try simp only [Act.put, List.setIfInBounds_toArray, List.set_cons_zero, List.set_cons_succ])
     refine Plan.done ?_
     refine wpAnyH_done (by kernel_rfl) ?_ _
     clear hHeld
     go_wp2_with fail
     refine ⟨⟨i + 1, HIn.out, by first | rfl | rw [wr2], HB14.out.trans (HQ16.out.mono HB14.out.size)⟩, ?_⟩
     first | exact HM.out | (rw [wr2]; exact HM.out)
    ·subst hfl
     go_upto_region 12 with fail
     have hyf := HY13.out
     obtain ⟨z0, z1, z2, z3, z4, z5, z6, z7⟩ := cz8 hyf
     clear hyf
     go_upto_region 13 with fail
     generalize hW : w13.alloc (.cells #[.int .i64 k3, .string s3, .int .i64 n3, .slice A3 ps3.length c3, .slice B3 fs3.length d3, .slice C3 vs3.length e3] 26) = w14
     have hb : Below w13.heap.size w13 w14 := by rw [← hW]; exact (Below.refl _ _).alloc (Nat.le_refl _) _
     have hx : w14.heap[w13.heap.size]? = some (.cells #[.int .i64 k3, .string s3, .int .i64 n3, .slice A3 ps3.length c3, .slice B3 fs3.length d3, .slice C3 vs3.length e3] 26 (0, 0)) := by rw [← hW]; exact heap_alloc_new w13 _
     have HXW14 := Lib.hid hx
     have HST14 := Lib.hid hb
     have HB14 := Lib.hid (HB13.out.trans (hb.mono HB13.out.size))
     have HY14 := Lib.hid (box_up hb (Array.getElem?_eq_some_iff.1 HY13.out).1 HY13.out)
     have H8X14 := Lib.hid (box_up hb (Array.getElem?_eq_some_iff.1 HX13.out).1 HX13.out)
     have H8R14 := Lib.hid (HR13.out.later hb)
     have hyf := HY14.out
     clear hW hb hx z0 z1 z2 z3 z4 z5 z6 z7
     obtain ⟨z0, z1, z2, z3, z4, z5, z6, z7⟩ := cz8 hyf
     clear hyf
     have HEQ0 : Hid (Ty.mk k8 s8 n8 ps8 fs8 vs8 = unionT [.mk k3 s3 n3 ps3 fs3 vs3, tyK 4]) := Lib.hid (by rw [HWN.out]; rfl)
     go_upto_region 14 with fail
     clear z0 z1 z2 z3 z4 z5 z6 z7
     have HS14 : Hid (∀ wx, Below w14.heap.size w14 wx → wx.cell? ⟨wr.heap.size, 2, none⟩ = some (.int .i64 k3) ∧ wx.cell? ⟨wr.heap.size, 3, none⟩ = some (.string s3) ∧ wx.cell? ⟨wr.heap.size, 4, none⟩ = some (.int .i64 n3) ∧ wx.cell? ⟨wr.heap.size, 5, none⟩ = some (.slice A3 ps3.length c3) ∧ wx.cell? ⟨wr.heap.size, 6, none⟩ = some (.slice B3 fs3.length d3) ∧ wx.cell? ⟨wr.heap.size, 7, none⟩ = some (.slice C3 vs3.length e3)) := Lib.hid fun wx hx => by
      have h1 := box_up hx (Array.getElem?_eq_some_iff.1 HY14.out).1 HY14.out
      exact ⟨Lib.cell_of_heap h1 2, Lib.cell_of_heap h1 3, Lib.cell_of_heap h1 4, Lib.cell_of_heap h1 5, Lib.cell_of_heap h1 6, Lib.cell_of_heap h1 7⟩
     have HOLD : Hid (wr.heap.size < w13.heap.size ∧ w11.heap.size < w13.heap.size ∧ w7.heap.size ≤ w13.heap.size) := Lib.hid ⟨(Array.getElem?_eq_some_iff.1 HY13.out).1, (Array.getElem?_eq_some_iff.1 HX13.out).1, HB13.out.size⟩
     have H8L14 := Lib.hid ((RepT.low _ _ HR13.out).later (show Below w13.heap.size w13 w14.drew from HST14.out.drew))
     refine wp_region_held_drew (S := (fun w' => w'.cell? ⟨wr.heap.size, 2, none⟩ = some (.int .i64 k3) ∧ w'.cell? ⟨wr.heap.size, 3, none⟩ = some (.string s3) ∧ w'.cell? ⟨wr.heap.size, 4, none⟩ = some (.int .i64 n3) ∧ w'.cell? ⟨wr.heap.size, 5, none⟩ = some (.slice A3 ps3.length c3) ∧ w'.cell? ⟨wr.heap.size, 6, none⟩ = some (.slice B3 fs3.length d3) ∧ w'.cell? ⟨wr.heap.size, 7, none⟩ = some (.slice C3 vs3.length e3))) (by kernel_rfl) (HS14.out _ (Below.refl _ _).drew) (fun hHeld => ?_)
     refine Plan.start [0, 1] ?_
     iterate 2 ((refine Plan.take (v := ?_) (so rfl) (by kernel_rfl) (by kernel_rfl) (by kernel_rfl) (fun _ _ _ h => h) (Or.inl ⟨by rfl, ?_⟩) hHeld ?_; rotate_left; focus (intro w' hSw; (try dsimp only at hSw); go_simp; try with_reducible rfl)); try simp only [Act.put, List.setIfInBounds_toArray, List.set_cons_zero, List.set_cons_succ])
     refine Plan.done ?_
     refine wpAnyH_ready (rs := [2]) (by kernel_rfl) (by simp) ?_
     refine AllReadyH.cons (sd (some 76) rfl) (fun Kx hK => ?_) AllReadyH.nil
     go_simp
     refine (of13 4 _).mono ?_
     rintro e w16 ⟨rfl, hb⟩
     have HB16 := Lib.hid ((HB14.out.drew).trans (hb.mono (HB14.out.drew).size))
     have HX16 := Lib.hid (box_up hb (Array.getElem?_eq_some_iff.1 HXW14.out).1 HXW14.out)
     have HY16 := Lib.hid (box_up hb (Array.getElem?_eq_some_iff.1 HY14.out).1 HY14.out)
     have H8X16 := Lib.hid (box_up hb (Array.getElem?_eq_some_iff.1 H8X14.out).1 H8X14.out)
     have H8R16 := Lib.hid (H8L14.out.later hb)
     have HQ16 := Lib.hid ((Below.refl w14.heap.size w14).drew.trans (hb.mono (Below.refl w14.heap.size w14).drew.size))
     clear hb
     go_wp2_with fail
     refine hK.out _ _ (HS14.out _ HQ16.out) (fun hHeld => ?_)
     clear hK Kx
     try simp only [Act.put, List.setIfInBounds_toArray, List.set_cons_zero, List.set_cons_succ]
     refine wpAnyH_ready (rs := [3]) (by kernel_rfl) (by simp) ?_
     refine AllReadyH.cons (sd (some 77) rfl) (fun Kx hK => ?_) AllReadyH.nil
     go_simp
     generalize hW : World.alloc w16 (.cells #[.int .i64 k3, .string s3, .int .i64 n3, .slice A3 ps3.length c3, .slice B3 fs3.length d3, .slice C3 vs3.length e3, .int .i64 4, .string ⟨#[]⟩, .int .i64 0, .slice none 0 0, .slice none 0 0, .slice none 0 0] 26) = w17
     have hb : Below w16.heap.size w16 w17 := by rw [← hW]; exact (Below.refl _ _).alloc (Nat.le_refl _) _
     have hx : w17.heap[w16.heap.size]? = some (.cells #[.int .i64 k3, .string s3, .int .i64 n3, .slice A3 ps3.length c3, .slice B3 fs3.length d3, .slice C3 vs3.length e3, .int .i64 4, .string ⟨#[]⟩, .int .i64 0, .slice none 0 0, .slice none 0 0, .slice none 0 0] 26 (0, 0)) := by rw [← hW]; exact heap_alloc_new w16 _
     clear hW
     have HB17 := Lib.hid (HB16.out.trans (hb.mono HB16.out.size))
     have HX17 := Lib.hid (box_up hb (Array.getElem?_eq_some_iff.1 HX16.out).1 HX16.out)
     have HY17 := Lib.hid (box_up hb (Array.getElem?_eq_some_iff.1 HY16.out).1 HY16.out)
     have H8X17 := Lib.hid (box_up hb (Array.getElem?_eq_some_iff.1 H8X16.out).1 H8X16.out)
     have H8R17 := Lib.hid (H8R16.out.later hb)
     have HQ17 := Lib.hid (HQ16.out.trans (hb.mono HQ16.out.size))
     have KU := Lib.hid (uni2_ref (HRF.out.later HB17.out) (rep_k (fun b => b < w7.heap.size) w17 4) hx HFB.out.2.2.2 (form_tyK (by decide) (by decide)) (by have := HCF.out; omega) (by rw [cnt_kind]; omega))
     rw [← HEQ0.out] at KU
     have HLB : Hid (w13.heap.size < w16.heap.size ∧ w13.heap.size < w17.heap.size) := Lib.hid ⟨Nat.lt_of_lt_of_le (Array.getElem?_eq_some_iff.1 HXW14.out).1 HQ16.out.size, Nat.lt_of_lt_of_le (Array.getElem?_eq_some_iff.1 HXW14.out).1 HQ17.out.size⟩
     clear hb hx
     refine hK.out _ _ (HS14.out _ HQ17.out) (fun hHeld => ?_)
     clear hK Kx
     try simp only [Act.put, List.setIfInBounds_toArray, List.set_cons_zero, List.set_cons_succ]
     refine wpAnyH_ready (rs := [4]) (by kernel_rfl) (by simp) ?_
     refine AllReadyH.cons (sd (some 78) rfl) (fun Kx hK => ?_) AllReadyH.nil
     go_simp
     refine KU.out.mono ?_
     rintro e w18 ⟨rs, rfl, hrw, hb⟩
     have HB18 := Lib.hid (HB17.out.trans (hb.mono HB17.out.size))
     have HX18 := Lib.hid (box_up hb (Array.getElem?_eq_some_iff.1 HX17.out).1 HX17.out)
     have HY18 := Lib.hid (box_up hb (Array.getElem?_eq_some_iff.1 HY17.out).1 HY17.out)
     have H8X18 := Lib.hid (box_up hb (Array.getElem?_eq_some_iff.1 H8X17.out).1 H8X17.out)
     have H8R18 := Lib.hid (H8R17.out.later hb)
     have HQ18 := Lib.hid (HQ17.out.trans (hb.mono HQ17.out.size))
     have HR18 : Hid (RepT (fun b => b ≠ w13.heap.size) w18 (.mk k8 s8 n8 ps8 fs8 vs8) rs) := Lib.hid (hrw.weak fun b h => by have h1 := HLB.out; have h2 := HOLD.out; rcases h with h | h | h <;> omega)
     obtain ⟨A9, c9, B9, d9, C9, e9, rfl, -⟩ := hrw.inv
     simp only [cells6T] at HR18 ⊢
     clear hrw hb
     go_wp2_with fail
     refine hK.out _ _ (HS14.out _ HQ18.out) (fun hHeld => ?_)
     clear hK Kx
     try simp only [Act.put, List.setIfInBounds_toArray, List.set_cons_zero, List.set_cons_succ]
     refine wpAnyH_ready (rs := [5]) (by kernel_rfl) (by simp) ?_
     refine AllReadyH.cons (sd none rfl) (fun Kx hK => ?_) AllReadyH.nil
     go_simp
     have rb := HX18.out
     obtain ⟨q0, q1, q2, q3, q4, q5, z0, z1, z2, z3, z4, z5⟩ := qz6 rb
     clear rb
     go_simp
     have hx := six_set HX18.out (.int .i64 k8) (.string s8) (.int .i64 n8) (.slice A9 ps8.length c9) (.slice B9 fs8.length d9) (.slice C9 vs8.length e9)
     have hbn := set_six_below HB18.out (HOLD.out.2.2) (.int .i64 k8) (.string s8) (.int .i64 n8) (.slice A9 ps8.length c9) (.slice B9 fs8.length d9) (.slice C9 vs8.length e9)
     have hrn := six_rep HR18.out (fun b h => h) (.int .i64 k8) (.string s8) (.int .i64 n8) (.slice A9 ps8.length c9) (.slice B9 fs8.length d9) (.slice C9 vs8.length e9)
     have hyf : (World.setCell (World.setCell (World.setCell (World.setCell (World.setCell (World.setCell w18 ⟨w13.heap.size, 0, none⟩ (.int .i64 k8)) ⟨w13.heap.size, 1, none⟩ (.string s8)) ⟨w13.heap.size, 2, none⟩ (.int .i64 n8)) ⟨w13.heap.size, 3, none⟩ (.slice A9 ps8.length c9)) ⟨w13.heap.size, 4, none⟩ (.slice B9 fs8.length d9)) ⟨w13.heap.size, 5, none⟩ (.slice C9 vs8.length e9)).heap[wr.heap.size]? = _ := (six_heap w18 _ _ _ _ _ _ (show _ ≠ w13.heap.size from by have h1 := HOLD.out; omega)).trans HY18.out
     have hy8 : (World.setCell (World.setCell (World.setCell (World.setCell (World.setCell (World.setCell w18 ⟨w13.heap.size, 0, none⟩ (.int .i64 k8)) ⟨w13.heap.size, 1, none⟩ (.string s8)) ⟨w13.heap.size, 2, none⟩ (.int .i64 n8)) ⟨w13.heap.size, 3, none⟩ (.slice A9 ps8.length c9)) ⟨w13.heap.size, 4, none⟩ (.slice B9 fs8.length d9)) ⟨w13.heap.size, 5, none⟩ (.slice C9 vs8.length e9)).heap[w11.heap.size]? = _ := (six_heap w18 _ _ _ _ _ _ (show _ ≠ w13.heap.size from by have h1 := HOLD.out; omega)).trans H8X18.out
     have hr8 := six_rep (RepT.weak H8R18.out (K' := fun b => b ≠ w13.heap.size) (fun b h => by have h2 : b < w13.heap.size := h; omega)) (fun b h => h) (.int .i64 k8) (.string s8) (.int .i64 n8) (.slice A9 ps8.length c9) (.slice B9 fs8.length d9) (.slice C9 vs8.length e9)
     generalize hW : (World.setCell (World.setCell (World.setCell (World.setCell (World.setCell (World.setCell w18 ⟨w13.heap.size, 0, none⟩ (.int .i64 k8)) ⟨w13.heap.size, 1, none⟩ (.string s8)) ⟨w13.heap.size, 2, none⟩ (.int .i64 n8)) ⟨w13.heap.size, 3, none⟩ (.slice A9 ps8.length c9)) ⟨w13.heap.size, 4, none⟩ (.slice B9 fs8.length d9)) ⟨w13.heap.size, 5, none⟩ (.slice C9 vs8.length e9)) = w19 at hx hbn hrn hyf hy8 hr8
     clear hW q0 q1 q2 q3 q4 q5 z0 z1 z2 z3 z4 z5
     have HB19 := Lib.hid hbn
     have HX19 := Lib.hid hx
     have HR19 := Lib.hid hrn
     clear hx hbn hrn
     have HY19 := Lib.hid hyf
     clear hyf
     have H8X19 := Lib.hid hy8
     clear hy8
     have H8R19 := Lib.hid hr8
     clear hr8
     refine hK.out _ _ ((by have h1 := HY19.out; exact ⟨Lib.cell_of_heap h1 2, Lib.cell_of_heap h1 3, Lib.cell_of_heap h1 4, Lib.cell_of_heap h1 5, Lib.cell_of_heap h1 6, Lib.cell_of_heap h1 7⟩)) (fun hHeld => ?_)
     clear hK Kx
     try simp only [Act.put, List.setIfInBounds_toArray, List.set_cons_zero, List.set_cons_succ]
     refine wpAnyH_done (by kernel_rfl) ?_ _
     clear hHeld
     go_upto_region 15 with fail
     have HEQ : Hid (Ty.mk k8 s8 n8 ps8 fs8 vs8 = .mk k8 s8 n8 ps8 fs8 vs8) := Lib.hid rfl
     have HS15 : Hid (∀ wx, Below w19.heap.size w19 wx → (wx.cell? ⟨b5, o5 + i * 6, none⟩ = some (.int .i64 10) ∧ wx.cell? ⟨b5, o5 + i * 6 + 1, none⟩ = some (.string nm) ∧ wx.cell? ⟨b5, o5 + i * 6 + 2, none⟩ = some (.int .i64 0) ∧ wx.cell? ⟨b5, o5 + i * 6 + 3, none⟩ = some (.slice Ae 0 ce) ∧ wx.cell? ⟨b5, o5 + i * 6 + 4, none⟩ = some (.slice Be 0 de) ∧ wx.cell? ⟨b5, o5 + i * 6 + 5, none⟩ = some (.slice Ce 0 ee)) ∧ wx.cell? ⟨wr.heap.size, 0, none⟩ = some (.string nm) ∧ (wx.cell? ⟨w11.heap.size, 0, none⟩ = some (.int .i64 k8) ∧ wx.cell? ⟨w11.heap.size, 1, none⟩ = some (.string s8) ∧ wx.cell? ⟨w11.heap.size, 2, none⟩ = some (.int .i64 n8) ∧ wx.cell? ⟨w11.heap.size, 3, none⟩ = some (.slice A8 ps8.length c8) ∧ wx.cell? ⟨w11.heap.size, 4, none⟩ = some (.slice B8 fs8.length d8) ∧ wx.cell? ⟨w11.heap.size, 5, none⟩ = some (.slice C8 vs8.length e8)) ∧ (wx.cell? ⟨w13.heap.size, 0, none⟩ = some (.int .i64 k8) ∧ wx.cell? ⟨w13.heap.size, 1, none⟩ = some (.string s8) ∧ wx.cell? ⟨w13.heap.size, 2, none⟩ = some (.int .i64 n8) ∧ wx.cell? ⟨w13.heap.size, 3, none⟩ = some (.slice A9 ps8.length c9) ∧ wx.cell? ⟨w13.heap.size, 4, none⟩ = some (.slice B9 fs8.length d9) ∧ wx.cell? ⟨w13.heap.size, 5, none⟩ = some (.slice C9 vs8.length e9))) := Lib.hid fun wx hx => by
      have h1 := box_up hx (Array.getElem?_eq_some_iff.1 HY19.out).1 HY19.out
      have h2 := box_up hx (Array.getElem?_eq_some_iff.1 H8X19.out).1 H8X19.out
      have h3 := box_up hx (Array.getElem?_eq_some_iff.1 HX19.out).1 HX19.out
      exact ⟨HE8.out wx (HB19.out.trans (hx.mono HB19.out.size)), Lib.cell_of_heap h1 0, ⟨Lib.cell_of_heap h2 0, Lib.cell_of_heap h2 1, Lib.cell_of_heap h2 2, Lib.cell_of_heap h2 3, Lib.cell_of_heap h2 4, Lib.cell_of_heap h2 5⟩, ⟨Lib.cell_of_heap h3 0, Lib.cell_of_heap h3 1, Lib.cell_of_heap h3 2, Lib.cell_of_heap h3 3, Lib.cell_of_heap h3 4, Lib.cell_of_heap h3 5⟩⟩
     have KSame := Lib.hid fun wx (hx : Below w19.heap.size w19 wx) => same13 (H8R19.out.later hx) (HR19.out.later hx)
     rw [show (ordT (.mk k8 s8 n8 ps8 fs8 vs8) (.mk k8 s8 n8 ps8 fs8 vs8) == 0) = true from by rw [HEQ.out, ordT_zero.2 rfl]; rfl] at KSame
     refine wp_region_held_drew (S := (fun w' => (w'.cell? ⟨b5, o5 + i * 6, none⟩ = some (.int .i64 10) ∧ w'.cell? ⟨b5, o5 + i * 6 + 1, none⟩ = some (.string nm) ∧ w'.cell? ⟨b5, o5 + i * 6 + 2, none⟩ = some (.int .i64 0) ∧ w'.cell? ⟨b5, o5 + i * 6 + 3, none⟩ = some (.slice Ae 0 ce) ∧ w'.cell? ⟨b5, o5 + i * 6 + 4, none⟩ = some (.slice Be 0 de) ∧ w'.cell? ⟨b5, o5 + i * 6 + 5, none⟩ = some (.slice Ce 0 ee)) ∧ w'.cell? ⟨wr.heap.size, 0, none⟩ = some (.string nm) ∧ (w'.cell? ⟨w11.heap.size, 0, none⟩ = some (.int .i64 k8) ∧ w'.cell? ⟨w11.heap.size, 1, none⟩ = some (.string s8) ∧ w'.cell? ⟨w11.heap.size, 2, none⟩ = some (.int .i64 n8) ∧ w'.cell? ⟨w11.heap.size, 3, none⟩ = some (.slice A8 ps8.length c8) ∧ w'.cell? ⟨w11.heap.size, 4, none⟩ = some (.slice B8 fs8.length d8) ∧ w'.cell? ⟨w11.heap.size, 5, none⟩ = some (.slice C8 vs8.length e8)) ∧ (w'.cell? ⟨w13.heap.size, 0, none⟩ = some (.int .i64 k8) ∧ w'.cell? ⟨w13.heap.size, 1, none⟩ = some (.string s8) ∧ w'.cell? ⟨w13.heap.size, 2, none⟩ = some (.int .i64 n8) ∧ w'.cell? ⟨w13.heap.size, 3, none⟩ = some (.slice A9 ps8.length c9) ∧ w'.cell? ⟨w13.heap.size, 4, none⟩ = some (.slice B9 fs8.length d9) ∧ w'.cell? ⟨w13.heap.size, 5, none⟩ = some (.slice C9 vs8.length e9)))) (by kernel_rfl) (HS15.out _ (Below.refl _ _).drew) (fun hHeld => ?_)
     refine Plan.start [0, 1, 2, 3, 4, 5, 6, 7, 8, 9, 10, 11, 12, 13, 14, 15, 16, 17, 18, 19, 20, 21, 22] ?_
     iterate 23 ((refine Plan.take (v := ?_) (so rfl) (by kernel_rfl) (by kernel_rfl) (by kernel_rfl) (fun _ _ _ h => h) (Or.inl ⟨by rfl, ?_⟩) hHeld ?_; rotate_left; focus (intro w' hSw; (try dsimp only at hSw); go_simp; try with_reducible rfl)); try simp only [Act.put, List.setIfInBounds_toArray, List.set_cons_zero, List.set_cons_succ])
     refine Plan.done ?_
     refine wpAnyH_ready (rs := [23]) (by kernel_rfl) (by simp) ?_
     refine AllReadyH.cons (sd (some 102) rfl) (fun Kx hK => ?_) AllReadyH.nil
     go_simp
     refine (KSame.out _ (Below.refl w19.heap.size w19).drew).mono ?_
     rintro e w21 ⟨rfl, hb⟩
     have HQ21 := Lib.hid ((Below.refl w19.heap.size w19).drew.trans (hb.mono (Below.refl w19.heap.size w19).drew.size))
     clear hb
     go_wp2_with fail
     refine hK.out _ _ (HS15.out _ HQ21.out) (fun hHeld => ?_)
     clear hK Kx
     try simp only [Act.put, List.setIfInBounds_toArray, List.set_cons_zero, List.set_cons_succ]
     refine Plan.start [24, 25] ?_
     iterate 2 ((refine Plan.take (v := ?_) (so rfl) (by kernel_rfl) (by kernel_rfl) (by kernel_rfl) (fun _ _ _ h => h) (Or.inl ⟨by rfl, ?_⟩) hHeld ?_; rotate_left; focus (intro w' hSw; (try dsimp only at hSw); go_simp; try with_reducible rfl)); try simp only [Act.put, List.setIfInBounds_toArray, List.set_cons_zero, List.set_cons_succ])
     refine Plan.done ?_
     refine wpAnyH_done (by kernel_rfl) ?_ _
     clear hHeld
     go_wp2_with fail
     refine ⟨⟨i + 1, HIn.out, by first | rfl | rw [wr2], HB19.out.trans (HQ21.out.mono HB19.out.size)⟩, ?_⟩
     first | exact HM.out | (rw [wr2]; exact HM.out)
    ·subst hfl
     go_upto_region 12 with fail
     have hyf := HY13.out
     obtain ⟨z0, z1, z2, z3, z4, z5, z6, z7⟩ := cz8 hyf
     clear hyf
     go_upto_region 13 with fail
     generalize hW : w13.alloc (.cells #[.int .i64 k3, .string s3, .int .i64 n3, .slice A3 ps3.length c3, .slice B3 fs3.length d3, .slice C3 vs3.length e3] 26) = w14
     have hb : Below w13.heap.size w13 w14 := by rw [← hW]; exact (Below.refl _ _).alloc (Nat.le_refl _) _
     have hx : w14.heap[w13.heap.size]? = some (.cells #[.int .i64 k3, .string s3, .int .i64 n3, .slice A3 ps3.length c3, .slice B3 fs3.length d3, .slice C3 vs3.length e3] 26 (0, 0)) := by rw [← hW]; exact heap_alloc_new w13 _
     have HXW14 := Lib.hid hx
     have HST14 := Lib.hid hb
     have HB14 := Lib.hid (HB13.out.trans (hb.mono HB13.out.size))
     have HY14 := Lib.hid (box_up hb (Array.getElem?_eq_some_iff.1 HY13.out).1 HY13.out)
     have H8X14 := Lib.hid (box_up hb (Array.getElem?_eq_some_iff.1 HX13.out).1 HX13.out)
     have H8R14 := Lib.hid (HR13.out.later hb)
     have hyf := HY14.out
     clear hW hb hx z0 z1 z2 z3 z4 z5 z6 z7
     obtain ⟨z0, z1, z2, z3, z4, z5, z6, z7⟩ := cz8 hyf
     clear hyf
     have HRW14 := Lib.hid ((HRF.out.later HB14.out).weak (K' := fun _ => True) fun _ _ => trivial)
     have HEQ : Hid (Ty.mk k8 s8 n8 ps8 fs8 vs8 = .mk k3 s3 n3 ps3 fs3 vs3) := Lib.hid (by rw [HWN.out]; rfl)
     go_upto_region 15 with fail
     clear z0 z1 z2 z3 z4 z5 z6 z7
     have HS15 : Hid (∀ wx, Below w14.heap.size w14 wx → (wx.cell? ⟨b5, o5 + i * 6, none⟩ = some (.int .i64 10) ∧ wx.cell? ⟨b5, o5 + i * 6 + 1, none⟩ = some (.string nm) ∧ wx.cell? ⟨b5, o5 + i * 6 + 2, none⟩ = some (.int .i64 0) ∧ wx.cell? ⟨b5, o5 + i * 6 + 3, none⟩ = some (.slice Ae 0 ce) ∧ wx.cell? ⟨b5, o5 + i * 6 + 4, none⟩ = some (.slice Be 0 de) ∧ wx.cell? ⟨b5, o5 + i * 6 + 5, none⟩ = some (.slice Ce 0 ee)) ∧ wx.cell? ⟨wr.heap.size, 0, none⟩ = some (.string nm) ∧ (wx.cell? ⟨w11.heap.size, 0, none⟩ = some (.int .i64 k8) ∧ wx.cell? ⟨w11.heap.size, 1, none⟩ = some (.string s8) ∧ wx.cell? ⟨w11.heap.size, 2, none⟩ = some (.int .i64 n8) ∧ wx.cell? ⟨w11.heap.size, 3, none⟩ = some (.slice A8 ps8.length c8) ∧ wx.cell? ⟨w11.heap.size, 4, none⟩ = some (.slice B8 fs8.length d8) ∧ wx.cell? ⟨w11.heap.size, 5, none⟩ = some (.slice C8 vs8.length e8)) ∧ (wx.cell? ⟨w13.heap.size, 0, none⟩ = some (.int .i64 k3) ∧ wx.cell? ⟨w13.heap.size, 1, none⟩ = some (.string s3) ∧ wx.cell? ⟨w13.heap.size, 2, none⟩ = some (.int .i64 n3) ∧ wx.cell? ⟨w13.heap.size, 3, none⟩ = some (.slice A3 ps3.length c3) ∧ wx.cell? ⟨w13.heap.size, 4, none⟩ = some (.slice B3 fs3.length d3) ∧ wx.cell? ⟨w13.heap.size, 5, none⟩ = some (.slice C3 vs3.length e3))) := Lib.hid fun wx hx => by
      have h1 := box_up hx (Array.getElem?_eq_some_iff.1 HY14.out).1 HY14.out
      have h2 := box_up hx (Array.getElem?_eq_some_iff.1 H8X14.out).1 H8X14.out
      have h3 := box_up hx (Array.getElem?_eq_some_iff.1 HXW14.out).1 HXW14.out
      exact ⟨HE8.out wx (HB14.out.trans (hx.mono HB14.out.size)), Lib.cell_of_heap h1 0, ⟨Lib.cell_of_heap h2 0, Lib.cell_of_heap h2 1, Lib.cell_of_heap h2 2, Lib.cell_of_heap h2 3, Lib.cell_of_heap h2 4, Lib.cell_of_heap h2 5⟩, ⟨Lib.cell_of_heap h3 0, Lib.cell_of_heap h3 1, Lib.cell_of_heap h3 2, Lib.cell_of_heap h3 3, Lib.cell_of_heap h3 4, Lib.cell_of_heap h3 5⟩⟩
     have KSame := Lib.hid fun wx (hx : Below w14.heap.size w14 wx) => same13 (H8R14.out.later hx) (HRW14.out.later hx)
     rw [show (ordT (.mk k8 s8 n8 ps8 fs8 vs8) (.mk k3 s3 n3 ps3 fs3 vs3) == 0) = true from by rw [HEQ.out, ordT_zero.2 rfl]; rfl] at KSame
     refine wp_region_held_drew (S := (fun w' => (w'.cell? ⟨b5, o5 + i * 6, none⟩ = some (.int .i64 10) ∧ w'.cell? ⟨b5, o5 + i * 6 + 1, none⟩ = some (.string nm) ∧ w'.cell? ⟨b5, o5 + i * 6 + 2, none⟩ = some (.int .i64 0) ∧ w'.cell? ⟨b5, o5 + i * 6 + 3, none⟩ = some (.slice Ae 0 ce) ∧ w'.cell? ⟨b5, o5 + i * 6 + 4, none⟩ = some (.slice Be 0 de) ∧ w'.cell? ⟨b5, o5 + i * 6 + 5, none⟩ = some (.slice Ce 0 ee)) ∧ w'.cell? ⟨wr.heap.size, 0, none⟩ = some (.string nm) ∧ (w'.cell? ⟨w11.heap.size, 0, none⟩ = some (.int .i64 k8) ∧ w'.cell? ⟨w11.heap.size, 1, none⟩ = some (.string s8) ∧ w'.cell? ⟨w11.heap.size, 2, none⟩ = some (.int .i64 n8) ∧ w'.cell? ⟨w11.heap.size, 3, none⟩ = some (.slice A8 ps8.length c8) ∧ w'.cell? ⟨w11.heap.size, 4, none⟩ = some (.slice B8 fs8.length d8) ∧ w'.cell? ⟨w11.heap.size, 5, none⟩ = some (.slice C8 vs8.length e8)) ∧ (w'.cell? ⟨w13.heap.size, 0, none⟩ = some (.int .i64 k3) ∧ w'.cell? ⟨w13.heap.size, 1, none⟩ = some (.string s3) ∧ w'.cell? ⟨w13.heap.size, 2, none⟩ = some (.int .i64 n3) ∧ w'.cell? ⟨w13.heap.size, 3, none⟩ = some (.slice A3 ps3.length c3) ∧ w'.cell? ⟨w13.heap.size, 4, none⟩ = some (.slice B3 fs3.length d3) ∧ w'.cell? ⟨w13.heap.size, 5, none⟩ = some (.slice C3 vs3.length e3)))) (by kernel_rfl) (HS15.out _ (Below.refl _ _).drew) (fun hHeld => ?_)
     refine Plan.start [0, 1, 2, 3, 4, 5, 6, 7, 8, 9, 10, 11, 12, 13, 14, 15, 16, 17, 18, 19, 20, 21, 22] ?_
     iterate 23 ((refine Plan.take (v := ?_) (so rfl) (by kernel_rfl) (by kernel_rfl) (by kernel_rfl) (fun _ _ _ h => h) (Or.inl ⟨by rfl, ?_⟩) hHeld ?_; rotate_left; focus (intro w' hSw; (try dsimp only at hSw); go_simp; try with_reducible rfl)); try simp only [Act.put, List.setIfInBounds_toArray, List.set_cons_zero, List.set_cons_succ])
     refine Plan.done ?_
     refine wpAnyH_ready (rs := [23]) (by kernel_rfl) (by simp) ?_
     refine AllReadyH.cons (sd (some 102) rfl) (fun Kx hK => ?_) AllReadyH.nil
     go_simp
     refine (KSame.out _ (Below.refl w14.heap.size w14).drew).mono ?_
     rintro e w16 ⟨rfl, hb⟩
     have HQ16 := Lib.hid ((Below.refl w14.heap.size w14).drew.trans (hb.mono (Below.refl w14.heap.size w14).drew.size))
     clear hb
     go_wp2_with fail
     refine hK.out _ _ (HS15.out _ HQ16.out) (fun hHeld => ?_)
     clear hK Kx
     try simp only [Act.put, List.setIfInBounds_toArray, List.set_cons_zero, List.set_cons_succ]
     refine Plan.start [24, 25] ?_
     iterate 2 ((refine Plan.take (v := ?_) (so rfl) (by kernel_rfl) (by kernel_rfl) (by kernel_rfl) (fun _ _ _ h => h) (Or.inl ⟨by rfl, ?_⟩) hHeld ?_; rotate_left; focus (intro w' hSw; (try dsimp only at hSw); go_simp; try with_reducible rfl)); try simp only [Act.put, List.setIfInBounds_toArray, List.set_cons_zero, List.set_cons_succ])
     refine Plan.done ?_
     refine wpAnyH_done (by kernel_rfl) ?_ _
     clear hHeld
     go_wp2_with fail
     refine ⟨⟨i + 1, HIn.out, by first | rfl | rw [wr2], HB14.out.trans (HQ16.out.mono HB14.out.size)⟩, ?_⟩
     first | exact HM.out | (rw [wr2]; exact HM.out)
    ·subst hfl
     go_upto_region 12 with fail
     have hyf := HY13.out
     obtain ⟨z0, z1, z2, z3, z4, z5, z6, z7⟩ := cz8 hyf
     clear hyf
     go_upto_region 13 with fail
     generalize hW : w13.alloc (.cells #[.int .i64 k3, .string s3, .int .i64 n3, .slice A3 ps3.length c3, .slice B3 fs3.length d3, .slice C3 vs3.length e3] 26) = w14
     have hb : Below w13.heap.size w13 w14 := by rw [← hW]; exact (Below.refl _ _).alloc (Nat.le_refl _) _
     have hx : w14.heap[w13.heap.size]? = some (.cells #[.int .i64 k3, .string s3, .int .i64 n3, .slice A3 ps3.length c3, .slice B3 fs3.length d3, .slice C3 vs3.length e3] 26 (0, 0)) := by rw [← hW]; exact heap_alloc_new w13 _
     have HXW14 := Lib.hid hx
     have HST14 := Lib.hid hb
     have HB14 := Lib.hid (HB13.out.trans (hb.mono HB13.out.size))
     have HY14 := Lib.hid (box_up hb (Array.getElem?_eq_some_iff.1 HY13.out).1 HY13.out)
     have H8X14 := Lib.hid (box_up hb (Array.getElem?_eq_some_iff.1 HX13.out).1 HX13.out)
     have H8R14 := Lib.hid (HR13.out.later hb)
     have hyf := HY14.out
     clear hW hb hx z0 z1 z2 z3 z4 z5 z6 z7
     obtain ⟨z0, z1, z2, z3, z4, z5, z6, z7⟩ := cz8 hyf
     clear hyf
     have HEQ0 : Hid (Ty.mk k8 s8 n8 ps8 fs8 vs8 = unionT [.mk k3 s3 n3 ps3 fs3 vs3, tyK 4]) := Lib.hid (by rw [HWN.out]; rfl)
     go_upto_region 14 with fail
     clear z0 z1 z2 z3 z4 z5 z6 z7
     have HS14 : Hid (∀ wx, Below w14.heap.size w14 wx → wx.cell? ⟨wr.heap.size, 2, none⟩ = some (.int .i64 k3) ∧ wx.cell? ⟨wr.heap.size, 3, none⟩ = some (.string s3) ∧ wx.cell? ⟨wr.heap.size, 4, none⟩ = some (.int .i64 n3) ∧ wx.cell? ⟨wr.heap.size, 5, none⟩ = some (.slice A3 ps3.length c3) ∧ wx.cell? ⟨wr.heap.size, 6, none⟩ = some (.slice B3 fs3.length d3) ∧ wx.cell? ⟨wr.heap.size, 7, none⟩ = some (.slice C3 vs3.length e3)) := Lib.hid fun wx hx => by
      have h1 := box_up hx (Array.getElem?_eq_some_iff.1 HY14.out).1 HY14.out
      exact ⟨Lib.cell_of_heap h1 2, Lib.cell_of_heap h1 3, Lib.cell_of_heap h1 4, Lib.cell_of_heap h1 5, Lib.cell_of_heap h1 6, Lib.cell_of_heap h1 7⟩
     have HOLD : Hid (wr.heap.size < w13.heap.size ∧ w11.heap.size < w13.heap.size ∧ w7.heap.size ≤ w13.heap.size) := Lib.hid ⟨(Array.getElem?_eq_some_iff.1 HY13.out).1, (Array.getElem?_eq_some_iff.1 HX13.out).1, HB13.out.size⟩
     have H8L14 := Lib.hid ((RepT.low _ _ HR13.out).later (show Below w13.heap.size w13 w14.drew from HST14.out.drew))
     refine wp_region_held_drew (S := (fun w' => w'.cell? ⟨wr.heap.size, 2, none⟩ = some (.int .i64 k3) ∧ w'.cell? ⟨wr.heap.size, 3, none⟩ = some (.string s3) ∧ w'.cell? ⟨wr.heap.size, 4, none⟩ = some (.int .i64 n3) ∧ w'.cell? ⟨wr.heap.size, 5, none⟩ = some (.slice A3 ps3.length c3) ∧ w'.cell? ⟨wr.heap.size, 6, none⟩ = some (.slice B3 fs3.length d3) ∧ w'.cell? ⟨wr.heap.size, 7, none⟩ = some (.slice C3 vs3.length e3))) (by kernel_rfl) (HS14.out _ (Below.refl _ _).drew) (fun hHeld => ?_)
     refine Plan.start [0, 1] ?_
     iterate 2 ((refine Plan.take (v := ?_) (so rfl) (by kernel_rfl) (by kernel_rfl) (by kernel_rfl) (fun _ _ _ h => h) (Or.inl ⟨by rfl, ?_⟩) hHeld ?_; rotate_left; focus (intro w' hSw; (try dsimp only at hSw); go_simp; try with_reducible rfl)); try simp only [Act.put, List.setIfInBounds_toArray, List.set_cons_zero, List.set_cons_succ])
     refine Plan.done ?_
     refine wpAnyH_ready (rs := [2]) (by kernel_rfl) (by simp) ?_
     refine AllReadyH.cons (sd (some 76) rfl) (fun Kx hK => ?_) AllReadyH.nil
     go_simp
     refine (of13 4 _).mono ?_
     rintro e w16 ⟨rfl, hb⟩
     have HB16 := Lib.hid ((HB14.out.drew).trans (hb.mono (HB14.out.drew).size))
     have HX16 := Lib.hid (box_up hb (Array.getElem?_eq_some_iff.1 HXW14.out).1 HXW14.out)
     have HY16 := Lib.hid (box_up hb (Array.getElem?_eq_some_iff.1 HY14.out).1 HY14.out)
     have H8X16 := Lib.hid (box_up hb (Array.getElem?_eq_some_iff.1 H8X14.out).1 H8X14.out)
     have H8R16 := Lib.hid (H8L14.out.later hb)
     have HQ16 := Lib.hid ((Below.refl w14.heap.size w14).drew.trans (hb.mono (Below.refl w14.heap.size w14).drew.size))
     clear hb
     go_wp2_with fail
     refine hK.out _ _ (HS14.out _ HQ16.out) (fun hHeld => ?_)
     clear hK Kx
     try simp only [Act.put, List.setIfInBounds_toArray, List.set_cons_zero, List.set_cons_succ]
     refine wpAnyH_ready (rs := [3]) (by kernel_rfl) (by simp) ?_
     refine AllReadyH.cons (sd (some 77) rfl) (fun Kx hK => ?_) AllReadyH.nil
     go_simp
     generalize hW : World.alloc w16 (.cells #[.int .i64 k3, .string s3, .int .i64 n3, .slice A3 ps3.length c3, .slice B3 fs3.length d3, .slice C3 vs3.length e3, .int .i64 4, .string ⟨#[]⟩, .int .i64 0, .slice none 0 0, .slice none 0 0, .slice none 0 0] 26) = w17
     have hb : Below w16.heap.size w16 w17 := by rw [← hW]; exact (Below.refl _ _).alloc (Nat.le_refl _) _
     have hx : w17.heap[w16.heap.size]? = some (.cells #[.int .i64 k3, .string s3, .int .i64 n3, .slice A3 ps3.length c3, .slice B3 fs3.length d3, .slice C3 vs3.length e3, .int .i64 4, .string ⟨#[]⟩, .int .i64 0, .slice none 0 0, .slice none 0 0, .slice none 0 0] 26 (0, 0)) := by rw [← hW]; exact heap_alloc_new w16 _
     clear hW
     have HB17 := Lib.hid (HB16.out.trans (hb.mono HB16.out.size))
     have HX17 := Lib.hid (box_up hb (Array.getElem?_eq_some_iff.1 HX16.out).1 HX16.out)
     have HY17 := Lib.hid (box_up hb (Array.getElem?_eq_some_iff.1 HY16.out).1 HY16.out)
     have H8X17 := Lib.hid (box_up hb (Array.getElem?_eq_some_iff.1 H8X16.out).1 H8X16.out)
     have H8R17 := Lib.hid (H8R16.out.later hb)
     have HQ17 := Lib.hid (HQ16.out.trans (hb.mono HQ16.out.size))
     have KU := Lib.hid (uni2_ref (HRF.out.later HB17.out) (rep_k (fun b => b < w7.heap.size) w17 4) hx HFB.out.2.2.2 (form_tyK (by decide) (by decide)) (by have := HCF.out; omega) (by rw [cnt_kind]; omega))
     rw [← HEQ0.out] at KU
     have HLB : Hid (w13.heap.size < w16.heap.size ∧ w13.heap.size < w17.heap.size) := Lib.hid ⟨Nat.lt_of_lt_of_le (Array.getElem?_eq_some_iff.1 HXW14.out).1 HQ16.out.size, Nat.lt_of_lt_of_le (Array.getElem?_eq_some_iff.1 HXW14.out).1 HQ17.out.size⟩
     clear hb hx
     refine hK.out _ _ (HS14.out _ HQ17.out) (fun hHeld => ?_)
     clear hK Kx
     try simp only [Act.put, List.setIfInBounds_toArray, List.set_cons_zero, List.set_cons_succ]
     refine wpAnyH_ready (rs := [4]) (by kernel_rfl) (by simp) ?_
     refine AllReadyH.cons (sd (some 78) rfl) (fun Kx hK => ?_) AllReadyH.nil
     go_simp
     refine KU.out.mono ?_
     rintro e w18 ⟨rs, rfl, hrw, hb⟩
     have HB18 := Lib.hid (HB17.out.trans (hb.mono HB17.out.size))
     have HX18 := Lib.hid (box_up hb (Array.getElem?_eq_some_iff.1 HX17.out).1 HX17.out)
     have HY18 := Lib.hid (box_up hb (Array.getElem?_eq_some_iff.1 HY17.out).1 HY17.out)
     have H8X18 := Lib.hid (box_up hb (Array.getElem?_eq_some_iff.1 H8X17.out).1 H8X17.out)
     have H8R18 := Lib.hid (H8R17.out.later hb)
     have HQ18 := Lib.hid (HQ17.out.trans (hb.mono HQ17.out.size))
     have HR18 : Hid (RepT (fun b => b ≠ w13.heap.size) w18 (.mk k8 s8 n8 ps8 fs8 vs8) rs) := Lib.hid (hrw.weak fun b h => by have h1 := HLB.out; have h2 := HOLD.out; rcases h with h | h | h <;> omega)
     obtain ⟨A9, c9, B9, d9, C9, e9, rfl, -⟩ := hrw.inv
     simp only [cells6T] at HR18 ⊢
     clear hrw hb
     go_wp2_with fail
     refine hK.out _ _ (HS14.out _ HQ18.out) (fun hHeld => ?_)
     clear hK Kx
     try simp only [Act.put, List.setIfInBounds_toArray, List.set_cons_zero, List.set_cons_succ]
     refine wpAnyH_ready (rs := [5]) (by kernel_rfl) (by simp) ?_
     refine AllReadyH.cons (sd none rfl) (fun Kx hK => ?_) AllReadyH.nil
     go_simp
     have rb := HX18.out
     obtain ⟨q0, q1, q2, q3, q4, q5, z0, z1, z2, z3, z4, z5⟩ := qz6 rb
     clear rb
     go_simp
     have hx := six_set HX18.out (.int .i64 k8) (.string s8) (.int .i64 n8) (.slice A9 ps8.length c9) (.slice B9 fs8.length d9) (.slice C9 vs8.length e9)
     have hbn := set_six_below HB18.out (HOLD.out.2.2) (.int .i64 k8) (.string s8) (.int .i64 n8) (.slice A9 ps8.length c9) (.slice B9 fs8.length d9) (.slice C9 vs8.length e9)
     have hrn := six_rep HR18.out (fun b h => h) (.int .i64 k8) (.string s8) (.int .i64 n8) (.slice A9 ps8.length c9) (.slice B9 fs8.length d9) (.slice C9 vs8.length e9)
     have hyf : (World.setCell (World.setCell (World.setCell (World.setCell (World.setCell (World.setCell w18 ⟨w13.heap.size, 0, none⟩ (.int .i64 k8)) ⟨w13.heap.size, 1, none⟩ (.string s8)) ⟨w13.heap.size, 2, none⟩ (.int .i64 n8)) ⟨w13.heap.size, 3, none⟩ (.slice A9 ps8.length c9)) ⟨w13.heap.size, 4, none⟩ (.slice B9 fs8.length d9)) ⟨w13.heap.size, 5, none⟩ (.slice C9 vs8.length e9)).heap[wr.heap.size]? = _ := (six_heap w18 _ _ _ _ _ _ (show _ ≠ w13.heap.size from by have h1 := HOLD.out; omega)).trans HY18.out
     have hy8 : (World.setCell (World.setCell (World.setCell (World.setCell (World.setCell (World.setCell w18 ⟨w13.heap.size, 0, none⟩ (.int .i64 k8)) ⟨w13.heap.size, 1, none⟩ (.string s8)) ⟨w13.heap.size, 2, none⟩ (.int .i64 n8)) ⟨w13.heap.size, 3, none⟩ (.slice A9 ps8.length c9)) ⟨w13.heap.size, 4, none⟩ (.slice B9 fs8.length d9)) ⟨w13.heap.size, 5, none⟩ (.slice C9 vs8.length e9)).heap[w11.heap.size]? = _ := (six_heap w18 _ _ _ _ _ _ (show _ ≠ w13.heap.size from by have h1 := HOLD.out; omega)).trans H8X18.out
     have hr8 := six_rep (RepT.weak H8R18.out (K' := fun b => b ≠ w13.heap.size) (fun b h => by have h2 : b < w13.heap.size := h; omega)) (fun b h => h) (.int .i64 k8) (.string s8) (.int .i64 n8) (.slice A9 ps8.length c9) (.slice B9 fs8.length d9) (.slice C9 vs8.length e9)
     generalize hW : (World.setCell (World.setCell (World.setCell (World.setCell (World.setCell (World.setCell w18 ⟨w13.heap.size, 0, none⟩ (.int .i64 k8)) ⟨w13.heap.size, 1, none⟩ (.string s8)) ⟨w13.heap.size, 2, none⟩ (.int .i64 n8)) ⟨w13.heap.size, 3, none⟩ (.slice A9 ps8.length c9)) ⟨w13.heap.size, 4, none⟩ (.slice B9 fs8.length d9)) ⟨w13.heap.size, 5, none⟩ (.slice C9 vs8.length e9)) = w19 at hx hbn hrn hyf hy8 hr8
     clear hW q0 q1 q2 q3 q4 q5 z0 z1 z2 z3 z4 z5
     have HB19 := Lib.hid hbn
     have HX19 := Lib.hid hx
     have HR19 := Lib.hid hrn
     clear hx hbn hrn
     have HY19 := Lib.hid hyf
     clear hyf
     have H8X19 := Lib.hid hy8
     clear hy8
     have H8R19 := Lib.hid hr8
     clear hr8
     refine hK.out _ _ ((by have h1 := HY19.out; exact ⟨Lib.cell_of_heap h1 2, Lib.cell_of_heap h1 3, Lib.cell_of_heap h1 4, Lib.cell_of_heap h1 5, Lib.cell_of_heap h1 6, Lib.cell_of_heap h1 7⟩)) (fun hHeld => ?_)
     clear hK Kx
     try simp only [Act.put, List.setIfInBounds_toArray, List.set_cons_zero, List.set_cons_succ]
     refine wpAnyH_done (by kernel_rfl) ?_ _
     clear hHeld
     go_upto_region 15 with fail
     have HEQ : Hid (Ty.mk k8 s8 n8 ps8 fs8 vs8 = .mk k8 s8 n8 ps8 fs8 vs8) := Lib.hid rfl
     have HS15 : Hid (∀ wx, Below w19.heap.size w19 wx → (wx.cell? ⟨b5, o5 + i * 6, none⟩ = some (.int .i64 10) ∧ wx.cell? ⟨b5, o5 + i * 6 + 1, none⟩ = some (.string nm) ∧ wx.cell? ⟨b5, o5 + i * 6 + 2, none⟩ = some (.int .i64 0) ∧ wx.cell? ⟨b5, o5 + i * 6 + 3, none⟩ = some (.slice Ae 0 ce) ∧ wx.cell? ⟨b5, o5 + i * 6 + 4, none⟩ = some (.slice Be 0 de) ∧ wx.cell? ⟨b5, o5 + i * 6 + 5, none⟩ = some (.slice Ce 0 ee)) ∧ wx.cell? ⟨wr.heap.size, 0, none⟩ = some (.string nm) ∧ (wx.cell? ⟨w11.heap.size, 0, none⟩ = some (.int .i64 k8) ∧ wx.cell? ⟨w11.heap.size, 1, none⟩ = some (.string s8) ∧ wx.cell? ⟨w11.heap.size, 2, none⟩ = some (.int .i64 n8) ∧ wx.cell? ⟨w11.heap.size, 3, none⟩ = some (.slice A8 ps8.length c8) ∧ wx.cell? ⟨w11.heap.size, 4, none⟩ = some (.slice B8 fs8.length d8) ∧ wx.cell? ⟨w11.heap.size, 5, none⟩ = some (.slice C8 vs8.length e8)) ∧ (wx.cell? ⟨w13.heap.size, 0, none⟩ = some (.int .i64 k8) ∧ wx.cell? ⟨w13.heap.size, 1, none⟩ = some (.string s8) ∧ wx.cell? ⟨w13.heap.size, 2, none⟩ = some (.int .i64 n8) ∧ wx.cell? ⟨w13.heap.size, 3, none⟩ = some (.slice A9 ps8.length c9) ∧ wx.cell? ⟨w13.heap.size, 4, none⟩ = some (.slice B9 fs8.length d9) ∧ wx.cell? ⟨w13.heap.size, 5, none⟩ = some (.slice C9 vs8.length e9))) := Lib.hid fun wx hx => by
      have h1 := box_up hx (Array.getElem?_eq_some_iff.1 HY19.out).1 HY19.out
      have h2 := box_up hx (Array.getElem?_eq_some_iff.1 H8X19.out).1 H8X19.out
      have h3 := box_up hx (Array.getElem?_eq_some_iff.1 HX19.out).1 HX19.out
      exact ⟨HE8.out wx (HB19.out.trans (hx.mono HB19.out.size)), Lib.cell_of_heap h1 0, ⟨Lib.cell_of_heap h2 0, Lib.cell_of_heap h2 1, Lib.cell_of_heap h2 2, Lib.cell_of_heap h2 3, Lib.cell_of_heap h2 4, Lib.cell_of_heap h2 5⟩, ⟨Lib.cell_of_heap h3 0, Lib.cell_of_heap h3 1, Lib.cell_of_heap h3 2, Lib.cell_of_heap h3 3, Lib.cell_of_heap h3 4, Lib.cell_of_heap h3 5⟩⟩
     have KSame := Lib.hid fun wx (hx : Below w19.heap.size w19 wx) => same13 (H8R19.out.later hx) (HR19.out.later hx)
     rw [show (ordT (.mk k8 s8 n8 ps8 fs8 vs8) (.mk k8 s8 n8 ps8 fs8 vs8) == 0) = true from by rw [HEQ.out, ordT_zero.2 rfl]; rfl] at KSame
     refine wp_region_held_drew (S := (fun w' => (w'.cell? ⟨b5, o5 + i * 6, none⟩ = some (.int .i64 10) ∧ w'.cell? ⟨b5, o5 + i * 6 + 1, none⟩ = some (.string nm) ∧ w'.cell? ⟨b5, o5 + i * 6 + 2, none⟩ = some (.int .i64 0) ∧ w'.cell? ⟨b5, o5 + i * 6 + 3, none⟩ = some (.slice Ae 0 ce) ∧ w'.cell? ⟨b5, o5 + i * 6 + 4, none⟩ = some (.slice Be 0 de) ∧ w'.cell? ⟨b5, o5 + i * 6 + 5, none⟩ = some (.slice Ce 0 ee)) ∧ w'.cell? ⟨wr.heap.size, 0, none⟩ = some (.string nm) ∧ (w'.cell? ⟨w11.heap.size, 0, none⟩ = some (.int .i64 k8) ∧ w'.cell? ⟨w11.heap.size, 1, none⟩ = some (.string s8) ∧ w'.cell? ⟨w11.heap.size, 2, none⟩ = some (.int .i64 n8) ∧ w'.cell? ⟨w11.heap.size, 3, none⟩ = some (.slice A8 ps8.length c8) ∧ w'.cell? ⟨w11.heap.size, 4, none⟩ = some (.slice B8 fs8.length d8) ∧ w'.cell? ⟨w11.heap.size, 5, none⟩ = some (.slice C8 vs8.length e8)) ∧ (w'.cell? ⟨w13.heap.size, 0, none⟩ = some (.int .i64 k8) ∧ w'.cell? ⟨w13.heap.size, 1, none⟩ = some (.string s8) ∧ w'.cell? ⟨w13.heap.size, 2, none⟩ = some (.int .i64 n8) ∧ w'.cell? ⟨w13.heap.size, 3, none⟩ = some (.slice A9 ps8.length c9) ∧ w'.cell? ⟨w13.heap.size, 4, none⟩ = some (.slice B9 fs8.length d9) ∧ w'.cell? ⟨w13.heap.size, 5, none⟩ = some (.slice C9 vs8.length e9)))) (by kernel_rfl) (HS15.out _ (Below.refl _ _).drew) (fun hHeld => ?_)
     refine Plan.start [0, 1, 2, 3, 4, 5, 6, 7, 8, 9, 10, 11, 12, 13, 14, 15, 16, 17, 18, 19, 20, 21, 22] ?_
     iterate 23 ((refine Plan.take (v := ?_) (so rfl) (by kernel_rfl) (by kernel_rfl) (by kernel_rfl) (fun _ _ _ h => h) (Or.inl ⟨by rfl, ?_⟩) hHeld ?_; rotate_left; focus (intro w' hSw; (try dsimp only at hSw); go_simp; try with_reducible rfl)); try simp only [Act.put, List.setIfInBounds_toArray, List.set_cons_zero, List.set_cons_succ])
     refine Plan.done ?_
     refine wpAnyH_ready (rs := [23]) (by kernel_rfl) (by simp) ?_
     refine AllReadyH.cons (sd (some 102) rfl) (fun Kx hK => ?_) AllReadyH.nil
     go_simp
     refine (KSame.out _ (Below.refl w19.heap.size w19).drew).mono ?_
     rintro e w21 ⟨rfl, hb⟩
     have HQ21 := Lib.hid ((Below.refl w19.heap.size w19).drew.trans (hb.mono (Below.refl w19.heap.size w19).drew.size))
     clear hb
     go_wp2_with fail
     refine hK.out _ _ (HS15.out _ HQ21.out) (fun hHeld => ?_)
     clear hK Kx
     try simp only [Act.put, List.setIfInBounds_toArray, List.set_cons_zero, List.set_cons_succ]
     refine Plan.start [24, 25] ?_
     iterate 2 ((refine Plan.take (v := ?_) (so rfl) (by kernel_rfl) (by kernel_rfl) (by kernel_rfl) (fun _ _ _ h => h) (Or.inl ⟨by rfl, ?_⟩) hHeld ?_; rotate_left; focus (intro w' hSw; (try dsimp only at hSw); go_simp; try with_reducible rfl)); try simp only [Act.put, List.setIfInBounds_toArray, List.set_cons_zero, List.set_cons_succ])
     refine Plan.done ?_
     refine wpAnyH_done (by kernel_rfl) ?_ _
     clear hHeld
     go_wp2_with fail
     refine ⟨⟨i + 1, HIn.out, by first | rfl | rw [wr2], HB19.out.trans (HQ21.out.mono HB19.out.size)⟩, ?_⟩
     first | exact HM.out | (rw [wr2]; exact HM.out)
   ·go_simp
    generalize hW : World.drew (World.alloc wa (.cells #[.int .i64 0, .string ⟨#[]⟩, .int .i64 0, .slice none 0 0, .slice none 0 0, .slice none 0 0] 26)) = w11
    have hb : Below wa.drew.heap.size wa.drew w11 := by rw [← hW]; exact (Below.refl wa.drew.heap.size wa.drew).alloc (Nat.le_refl _) _
    have hx : w11.heap[wa.heap.size]? = some (.cells #[.int .i64 0, .string ⟨#[]⟩, .int .i64 0, .slice none 0 0, .slice none 0 0, .slice none 0 0] 26 (0, 0)) := by rw [← hW]; exact heap_alloc_new (wa.drew) _
    clear hW
    have HB11 := Lib.hid (HBA.out.drew.trans (hb.mono HBA.out.drew.size))
    have HY11 := Lib.hid (box_up hb (Array.getElem?_eq_some_iff.1 HXF0.out).1 HXF0.out)
    have HQA11 := Lib.hid ((Below.refl wa.heap.size wa).drew.trans (hb.mono (Below.refl wa.heap.size wa).drew.size))
    have HX11 := Lib.hid hx
    clear hb hx
    refine hK.out _ _ (HXO.out _ HB11.out) (fun hHeld => ?_)
    clear hK Kx
    try simp only [Act.put, List.setIfInBounds_toArray, List.set_cons_zero, List.set_cons_succ]
    refine wpAnyH_ready (rs := [5]) (by kernel_rfl) (by simp) ?_
    refine AllReadyH.cons (sd (some 65) rfl) (fun Kx hK => ?_) AllReadyH.nil
    go_simp
    refine (KAt.out _ HB11.out).mono ?_
    rintro e w12 ⟨rs, rfl, hra, hb⟩
    have HB12 := Lib.hid (HB11.out.trans (hb.mono HB11.out.size))
    have HX12 := Lib.hid (box_up hb (Array.getElem?_eq_some_iff.1 HX11.out).1 HX11.out)
    have HY12 := Lib.hid (box_up hb (Array.getElem?_eq_some_iff.1 HY11.out).1 HY11.out)
    have HQA12 := Lib.hid (HQA11.out.trans (hb.mono HQA11.out.size))
    obtain ⟨A8, c8, B8, d8, C8, e8, rfl, -⟩ := hra.inv
    simp only [cells6T] at hra ⊢
    have HR12 : Hid (RepT (fun b => b ≠ wa.heap.size) w12 _ _) := Lib.hid (hra.weak fun b h => by have h1 := (Array.getElem?_eq_some_iff.1 HX11.out).1; have h2 := HBA.out.size; rcases h with h | h <;> (first | omega | (have := HB11.out.size; omega)))
    clear hra hb
    go_wp2_with fail
    refine hK.out _ _ (HXO.out _ HB12.out) (fun hHeld => ?_)
    clear hK Kx
    try simp only [Act.put, List.setIfInBounds_toArray, List.set_cons_zero, List.set_cons_succ]
    refine Plan.start [6, 7, 8] ?_
    iterate 3 ((refine Plan.take (v := ?_) (so rfl) (by kernel_rfl) (by kernel_rfl) (by kernel_rfl) (fun _ _ _ h => h) (Or.inl ⟨by rfl, ?_⟩) hHeld ?_; rotate_left; focus (intro w' hSw; (try dsimp only at hSw); go_simp; try with_reducible rfl)); try simp only [Act.put, List.setIfInBounds_toArray, List.set_cons_zero, List.set_cons_succ])
    refine Plan.done ?_
    refine wpAnyH_ready (rs := [10]) (by kernel_rfl) (by simp) ?_
    refine AllReadyH.cons (sd none rfl) (fun Kx hK => ?_) AllReadyH.nil
    go_simp
    have rb := HX12.out
    obtain ⟨q0, q1, q2, q3, q4, q5, z0, z1, z2, z3, z4, z5⟩ := qz6 rb
    clear rb
    go_simp
    have hx := six_set HX12.out (.int .i64 k8) (.string s8) (.int .i64 n8) (.slice A8 ps8.length c8) (.slice B8 fs8.length d8) (.slice C8 vs8.length e8)
    have hbn := set_six_below HB12.out (HBA.out.size) (.int .i64 k8) (.string s8) (.int .i64 n8) (.slice A8 ps8.length c8) (.slice B8 fs8.length d8) (.slice C8 vs8.length e8)
    have hrn := six_rep HR12.out (fun b h => h) (.int .i64 k8) (.string s8) (.int .i64 n8) (.slice A8 ps8.length c8) (.slice B8 fs8.length d8) (.slice C8 vs8.length e8)
    have hyf : (World.setCell (World.setCell (World.setCell (World.setCell (World.setCell (World.setCell w12 ⟨wa.heap.size, 0, none⟩ (.int .i64 k8)) ⟨wa.heap.size, 1, none⟩ (.string s8)) ⟨wa.heap.size, 2, none⟩ (.int .i64 n8)) ⟨wa.heap.size, 3, none⟩ (.slice A8 ps8.length c8)) ⟨wa.heap.size, 4, none⟩ (.slice B8 fs8.length d8)) ⟨wa.heap.size, 5, none⟩ (.slice C8 vs8.length e8)).heap[wr.heap.size]? = _ := (six_heap w12 _ _ _ _ _ _ (show _ ≠ wa.heap.size from by have h1 := (Array.getElem?_eq_some_iff.1 HXF.out).1; have h2 := Nat.le_refl wa.heap.size; omega)).trans HY12.out
    generalize hW : (World.setCell (World.setCell (World.setCell (World.setCell (World.setCell (World.setCell w12 ⟨wa.heap.size, 0, none⟩ (.int .i64 k8)) ⟨wa.heap.size, 1, none⟩ (.string s8)) ⟨wa.heap.size, 2, none⟩ (.int .i64 n8)) ⟨wa.heap.size, 3, none⟩ (.slice A8 ps8.length c8)) ⟨wa.heap.size, 4, none⟩ (.slice B8 fs8.length d8)) ⟨wa.heap.size, 5, none⟩ (.slice C8 vs8.length e8)) = w13 at hx hbn hrn hyf
    clear hW q0 q1 q2 q3 q4 q5 z0 z1 z2 z3 z4 z5
    have HB13 := Lib.hid hbn
    have HX13 := Lib.hid hx
    have HR13 := Lib.hid hrn
    clear hx hbn hrn
    have HY13 := Lib.hid hyf
    clear hyf
    refine hK.out _ _ (HXO.out _ HB13.out) (fun hHeld => ?_)
    clear hK Kx
    try simp only [Act.put, List.setIfInBounds_toArray, List.set_cons_zero, List.set_cons_succ]
    refine wpAnyH_take (i := 11) (v := ?_) (sd (some 9) rfl) (by kernel_rfl) (by kernel_rfl) (by kernel_rfl) (fun _ _ _ h => h) (Or.inl ⟨by rfl, ?_⟩) hHeld ?_
    rotate_left
    ·intro w' hSw
     (try dsimp only at hSw)
     go_simp
     try with_reducible rfl
    try simp only [Act.put, List.setIfInBounds_toArray, List.set_cons_zero, List.set_cons_succ]
    refine wpAnyH_done (by kernel_rfl) ?_ _
    clear hHeld
    rcases (fl_cases HFB.out.2.1 HFB.out.2.2.1) with hfl | hfl | hfl | hfl
    ·subst hfl
     go_upto_region 12 with fail
     have hyf := HY13.out
     obtain ⟨z0, z1, z2, z3, z4, z5, z6, z7⟩ := cz8 hyf
     clear hyf
     go_upto_region 13 with fail
     generalize hW : w13.alloc (.cells #[.int .i64 k3, .string s3, .int .i64 n3, .slice A3 ps3.length c3, .slice B3 fs3.length d3, .slice C3 vs3.length e3] 26) = w14
     have hb : Below w13.heap.size w13 w14 := by rw [← hW]; exact (Below.refl _ _).alloc (Nat.le_refl _) _
     have hx : w14.heap[w13.heap.size]? = some (.cells #[.int .i64 k3, .string s3, .int .i64 n3, .slice A3 ps3.length c3, .slice B3 fs3.length d3, .slice C3 vs3.length e3] 26 (0, 0)) := by rw [← hW]; exact heap_alloc_new w13 _
     have HXW14 := Lib.hid hx
     have HST14 := Lib.hid hb
     have HB14 := Lib.hid (HB13.out.trans (hb.mono HB13.out.size))
     have HY14 := Lib.hid (box_up hb (Array.getElem?_eq_some_iff.1 HY13.out).1 HY13.out)
     have H8X14 := Lib.hid (box_up hb (Array.getElem?_eq_some_iff.1 HX13.out).1 HX13.out)
     have H8R14 := Lib.hid (HR13.out.later hb)
     have hyf := HY14.out
     clear hW hb hx z0 z1 z2 z3 z4 z5 z6 z7
     obtain ⟨z0, z1, z2, z3, z4, z5, z6, z7⟩ := cz8 hyf
     clear hyf
     have HRW14 := Lib.hid ((HRF.out.later HB14.out).weak (K' := fun _ => True) fun _ _ => trivial)
     have HEQ : Hid (Ty.mk k8 s8 n8 ps8 fs8 vs8 = .mk k3 s3 n3 ps3 fs3 vs3) := Lib.hid (by rw [HWN.out]; rfl)
     go_upto_region 15 with fail
     clear z0 z1 z2 z3 z4 z5 z6 z7
     have HS15 : Hid (∀ wx, Below w14.heap.size w14 wx → (wx.cell? ⟨b5, o5 + i * 6, none⟩ = some (.int .i64 10) ∧ wx.cell? ⟨b5, o5 + i * 6 + 1, none⟩ = some (.string nm) ∧ wx.cell? ⟨b5, o5 + i * 6 + 2, none⟩ = some (.int .i64 0) ∧ wx.cell? ⟨b5, o5 + i * 6 + 3, none⟩ = some (.slice Ae 0 ce) ∧ wx.cell? ⟨b5, o5 + i * 6 + 4, none⟩ = some (.slice Be 0 de) ∧ wx.cell? ⟨b5, o5 + i * 6 + 5, none⟩ = some (.slice Ce 0 ee)) ∧ wx.cell? ⟨wr.heap.size, 0, none⟩ = some (.string nm) ∧ (wx.cell? ⟨wa.heap.size, 0, none⟩ = some (.int .i64 k8) ∧ wx.cell? ⟨wa.heap.size, 1, none⟩ = some (.string s8) ∧ wx.cell? ⟨wa.heap.size, 2, none⟩ = some (.int .i64 n8) ∧ wx.cell? ⟨wa.heap.size, 3, none⟩ = some (.slice A8 ps8.length c8) ∧ wx.cell? ⟨wa.heap.size, 4, none⟩ = some (.slice B8 fs8.length d8) ∧ wx.cell? ⟨wa.heap.size, 5, none⟩ = some (.slice C8 vs8.length e8)) ∧ (wx.cell? ⟨w13.heap.size, 0, none⟩ = some (.int .i64 k3) ∧ wx.cell? ⟨w13.heap.size, 1, none⟩ = some (.string s3) ∧ wx.cell? ⟨w13.heap.size, 2, none⟩ = some (.int .i64 n3) ∧ wx.cell? ⟨w13.heap.size, 3, none⟩ = some (.slice A3 ps3.length c3) ∧ wx.cell? ⟨w13.heap.size, 4, none⟩ = some (.slice B3 fs3.length d3) ∧ wx.cell? ⟨w13.heap.size, 5, none⟩ = some (.slice C3 vs3.length e3))) := Lib.hid fun wx hx => by
      have h1 := box_up hx (Array.getElem?_eq_some_iff.1 HY14.out).1 HY14.out
      have h2 := box_up hx (Array.getElem?_eq_some_iff.1 H8X14.out).1 H8X14.out
      have h3 := box_up hx (Array.getElem?_eq_some_iff.1 HXW14.out).1 HXW14.out
      exact ⟨HE8.out wx (HB14.out.trans (hx.mono HB14.out.size)), Lib.cell_of_heap h1 0, ⟨Lib.cell_of_heap h2 0, Lib.cell_of_heap h2 1, Lib.cell_of_heap h2 2, Lib.cell_of_heap h2 3, Lib.cell_of_heap h2 4, Lib.cell_of_heap h2 5⟩, ⟨Lib.cell_of_heap h3 0, Lib.cell_of_heap h3 1, Lib.cell_of_heap h3 2, Lib.cell_of_heap h3 3, Lib.cell_of_heap h3 4, Lib.cell_of_heap h3 5⟩⟩
     have KSame := Lib.hid fun wx (hx : Below w14.heap.size w14 wx) => same13 (H8R14.out.later hx) (HRW14.out.later hx)
     rw [show (ordT (.mk k8 s8 n8 ps8 fs8 vs8) (.mk k3 s3 n3 ps3 fs3 vs3) == 0) = true from by rw [HEQ.out, ordT_zero.2 rfl]; rfl] at KSame
     refine wp_region_held_drew (S := (fun w' => (w'.cell? ⟨b5, o5 + i * 6, none⟩ = some (.int .i64 10) ∧ w'.cell? ⟨b5, o5 + i * 6 + 1, none⟩ = some (.string nm) ∧ w'.cell? ⟨b5, o5 + i * 6 + 2, none⟩ = some (.int .i64 0) ∧ w'.cell? ⟨b5, o5 + i * 6 + 3, none⟩ = some (.slice Ae 0 ce) ∧ w'.cell? ⟨b5, o5 + i * 6 + 4, none⟩ = some (.slice Be 0 de) ∧ w'.cell? ⟨b5, o5 + i * 6 + 5, none⟩ = some (.slice Ce 0 ee)) ∧ w'.cell? ⟨wr.heap.size, 0, none⟩ = some (.string nm) ∧ (w'.cell? ⟨wa.heap.size, 0, none⟩ = some (.int .i64 k8) ∧ w'.cell? ⟨wa.heap.size, 1, none⟩ = some (.string s8) ∧ w'.cell? ⟨wa.heap.size, 2, none⟩ = some (.int .i64 n8) ∧ w'.cell? ⟨wa.heap.size, 3, none⟩ = some (.slice A8 ps8.length c8) ∧ w'.cell? ⟨wa.heap.size, 4, none⟩ = some (.slice B8 fs8.length d8) ∧ w'.cell? ⟨wa.heap.size, 5, none⟩ = some (.slice C8 vs8.length e8)) ∧ (w'.cell? ⟨w13.heap.size, 0, none⟩ = some (.int .i64 k3) ∧ w'.cell? ⟨w13.heap.size, 1, none⟩ = some (.string s3) ∧ w'.cell? ⟨w13.heap.size, 2, none⟩ = some (.int .i64 n3) ∧ w'.cell? ⟨w13.heap.size, 3, none⟩ = some (.slice A3 ps3.length c3) ∧ w'.cell? ⟨w13.heap.size, 4, none⟩ = some (.slice B3 fs3.length d3) ∧ w'.cell? ⟨w13.heap.size, 5, none⟩ = some (.slice C3 vs3.length e3)))) (by kernel_rfl) (HS15.out _ (Below.refl _ _).drew) (fun hHeld => ?_)
     refine Plan.start [0, 1, 2, 3, 4, 5, 6, 7, 8, 9, 10, 11, 12, 13, 14, 15, 16, 17, 18, 19, 20, 21, 22] ?_
     iterate 23 ((refine Plan.take (v := ?_) (so rfl) (by kernel_rfl) (by kernel_rfl) (by kernel_rfl) (fun _ _ _ h => h) (Or.inl ⟨by rfl, ?_⟩) hHeld ?_; rotate_left; focus (intro w' hSw; (try dsimp only at hSw); go_simp; try with_reducible rfl)); try simp only [Act.put, List.setIfInBounds_toArray, List.set_cons_zero, List.set_cons_succ])
     refine Plan.done ?_
     refine wpAnyH_ready (rs := [23]) (by kernel_rfl) (by simp) ?_
     refine AllReadyH.cons (sd (some 102) rfl) (fun Kx hK => ?_) AllReadyH.nil
     go_simp
     refine (KSame.out _ (Below.refl w14.heap.size w14).drew).mono ?_
     rintro e w16 ⟨rfl, hb⟩
     have HQ16 := Lib.hid ((Below.refl w14.heap.size w14).drew.trans (hb.mono (Below.refl w14.heap.size w14).drew.size))
     clear hb
     go_wp2_with fail
     refine hK.out _ _ (HS15.out _ HQ16.out) (fun hHeld => ?_)
     clear hK Kx
     try simp only [Act.put, List.setIfInBounds_toArray, List.set_cons_zero, List.set_cons_succ]
     refine Plan.start [24, 25] ?_
     iterate 2 ((refine Plan.take (v := ?_) (so rfl) (by kernel_rfl) (by kernel_rfl) (by kernel_rfl) (fun _ _ _ h => h) (Or.inl ⟨by rfl, ?_⟩) hHeld ?_; rotate_left; focus (intro w' hSw; (try dsimp only at hSw); go_simp; try with_reducible rfl)); try simp only [Act.put, List.setIfInBounds_toArray, List.set_cons_zero, List.set_cons_succ])
     refine Plan.done ?_
     refine wpAnyH_done (by kernel_rfl) ?_ _
     clear hHeld
     go_wp2_with fail
     refine ⟨⟨i + 1, HIn.out, by first | rfl | rw [wr2], HB14.out.trans (HQ16.out.mono HB14.out.size)⟩, ?_⟩
     first | exact HM.out | (rw [wr2]; exact HM.out)
    ·subst hfl
     go_upto_region 12 with fail
     have hyf := HY13.out
     obtain ⟨z0, z1, z2, z3, z4, z5, z6, z7⟩ := cz8 hyf
     clear hyf
     go_upto_region 13 with fail
     generalize hW : w13.alloc (.cells #[.int .i64 k3, .string s3, .int .i64 n3, .slice A3 ps3.length c3, .slice B3 fs3.length d3, .slice C3 vs3.length e3] 26) = w14
     have hb : Below w13.heap.size w13 w14 := by rw [← hW]; exact (Below.refl _ _).alloc (Nat.le_refl _) _
     have hx : w14.heap[w13.heap.size]? = some (.cells #[.int .i64 k3, .string s3, .int .i64 n3, .slice A3 ps3.length c3, .slice B3 fs3.length d3, .slice C3 vs3.length e3] 26 (0, 0)) := by rw [← hW]; exact heap_alloc_new w13 _
     have HXW14 := Lib.hid hx
     have HST14 := Lib.hid hb
     have HB14 := Lib.hid (HB13.out.trans (hb.mono HB13.out.size))
     have HY14 := Lib.hid (box_up hb (Array.getElem?_eq_some_iff.1 HY13.out).1 HY13.out)
     have H8X14 := Lib.hid (box_up hb (Array.getElem?_eq_some_iff.1 HX13.out).1 HX13.out)
     have H8R14 := Lib.hid (HR13.out.later hb)
     have hyf := HY14.out
     clear hW hb hx z0 z1 z2 z3 z4 z5 z6 z7
     obtain ⟨z0, z1, z2, z3, z4, z5, z6, z7⟩ := cz8 hyf
     clear hyf
     have HEQ0 : Hid (Ty.mk k8 s8 n8 ps8 fs8 vs8 = unionT [.mk k3 s3 n3 ps3 fs3 vs3, tyK 4]) := Lib.hid (by rw [HWN.out]; rfl)
     go_upto_region 14 with fail
     clear z0 z1 z2 z3 z4 z5 z6 z7
     have HS14 : Hid (∀ wx, Below w14.heap.size w14 wx → wx.cell? ⟨wr.heap.size, 2, none⟩ = some (.int .i64 k3) ∧ wx.cell? ⟨wr.heap.size, 3, none⟩ = some (.string s3) ∧ wx.cell? ⟨wr.heap.size, 4, none⟩ = some (.int .i64 n3) ∧ wx.cell? ⟨wr.heap.size, 5, none⟩ = some (.slice A3 ps3.length c3) ∧ wx.cell? ⟨wr.heap.size, 6, none⟩ = some (.slice B3 fs3.length d3) ∧ wx.cell? ⟨wr.heap.size, 7, none⟩ = some (.slice C3 vs3.length e3)) := Lib.hid fun wx hx => by
      have h1 := box_up hx (Array.getElem?_eq_some_iff.1 HY14.out).1 HY14.out
      exact ⟨Lib.cell_of_heap h1 2, Lib.cell_of_heap h1 3, Lib.cell_of_heap h1 4, Lib.cell_of_heap h1 5, Lib.cell_of_heap h1 6, Lib.cell_of_heap h1 7⟩
     have HOLD : Hid (wr.heap.size < w13.heap.size ∧ wa.heap.size < w13.heap.size ∧ w7.heap.size ≤ w13.heap.size) := Lib.hid ⟨(Array.getElem?_eq_some_iff.1 HY13.out).1, (Array.getElem?_eq_some_iff.1 HX13.out).1, HB13.out.size⟩
     have H8L14 := Lib.hid ((RepT.low _ _ HR13.out).later (show Below w13.heap.size w13 w14.drew from HST14.out.drew))
     refine wp_region_held_drew (S := (fun w' => w'.cell? ⟨wr.heap.size, 2, none⟩ = some (.int .i64 k3) ∧ w'.cell? ⟨wr.heap.size, 3, none⟩ = some (.string s3) ∧ w'.cell? ⟨wr.heap.size, 4, none⟩ = some (.int .i64 n3) ∧ w'.cell? ⟨wr.heap.size, 5, none⟩ = some (.slice A3 ps3.length c3) ∧ w'.cell? ⟨wr.heap.size, 6, none⟩ = some (.slice B3 fs3.length d3) ∧ w'.cell? ⟨wr.heap.size, 7, none⟩ = some (.slice C3 vs3.length e3))) (by kernel_rfl) (HS14.out _ (Below.refl _ _).drew) (fun hHeld => ?_)
     refine Plan.start [0, 1] ?_
     iterate 2 ((refine Plan.take (v := ?_) (so rfl) (by kernel_rfl) (by kernel_rfl) (by kernel_rfl) (fun _ _ _ h => h) (Or.inl ⟨by rfl, ?_⟩) hHeld ?_; rotate_left; focus (intro w' hSw; (try dsimp only at hSw); go_simp; try with_reducible rfl)); try simp only [Act.put, List.setIfInBounds_toArray, List.set_cons_zero, List.set_cons_succ])
     refine Plan.done ?_
     refine wpAnyH_ready (rs := [2]) (by kernel_rfl) (by simp) ?_
     refine AllReadyH.cons (sd (some 76) rfl) (fun Kx hK => ?_) AllReadyH.nil
     go_simp
     refine (of13 4 _).mono ?_
     rintro e w16 ⟨rfl, hb⟩
     have HB16 := Lib.hid ((HB14.out.drew).trans (hb.mono (HB14.out.drew).size))
     have HX16 := Lib.hid (box_up hb (Array.getElem?_eq_some_iff.1 HXW14.out).1 HXW14.out)
     have HY16 := Lib.hid (box_up hb (Array.getElem?_eq_some_iff.1 HY14.out).1 HY14.out)
     have H8X16 := Lib.hid (box_up hb (Array.getElem?_eq_some_iff.1 H8X14.out).1 H8X14.out)
     have H8R16 := Lib.hid (H8L14.out.later hb)
     have HQ16 := Lib.hid ((Below.refl w14.heap.size w14).drew.trans (hb.mono (Below.refl w14.heap.size w14).drew.size))
     clear hb
     go_wp2_with fail
     refine hK.out _ _ (HS14.out _ HQ16.out) (fun hHeld => ?_)
     clear hK Kx
     try simp only [Act.put, List.setIfInBounds_toArray, List.set_cons_zero, List.set_cons_succ]
     refine wpAnyH_ready (rs := [3]) (by kernel_rfl) (by simp) ?_
     refine AllReadyH.cons (sd (some 77) rfl) (fun Kx hK => ?_) AllReadyH.nil
     go_simp
     generalize hW : World.alloc w16 (.cells #[.int .i64 k3, .string s3, .int .i64 n3, .slice A3 ps3.length c3, .slice B3 fs3.length d3, .slice C3 vs3.length e3, .int .i64 4, .string ⟨#[]⟩, .int .i64 0, .slice none 0 0, .slice none 0 0, .slice none 0 0] 26) = w17
     have hb : Below w16.heap.size w16 w17 := by rw [← hW]; exact (Below.refl _ _).alloc (Nat.le_refl _) _
     have hx : w17.heap[w16.heap.size]? = some (.cells #[.int .i64 k3, .string s3, .int .i64 n3, .slice A3 ps3.length c3, .slice B3 fs3.length d3, .slice C3 vs3.length e3, .int .i64 4, .string ⟨#[]⟩, .int .i64 0, .slice none 0 0, .slice none 0 0, .slice none 0 0] 26 (0, 0)) := by rw [← hW]; exact heap_alloc_new w16 _
     clear hW
     have HB17 := Lib.hid (HB16.out.trans (hb.mono HB16.out.size))
     have HX17 := Lib.hid (box_up hb (Array.getElem?_eq_some_iff.1 HX16.out).1 HX16.out)
     have HY17 := Lib.hid (box_up hb (Array.getElem?_eq_some_iff.1 HY16.out).1 HY16.out)
     have H8X17 := Lib.hid (box_up hb (Array.getElem?_eq_some_iff.1 H8X16.out).1 H8X16.out)
     have H8R17 := Lib.hid (H8R16.out.later hb)
     have HQ17 := Lib.hid (HQ16.out.trans (hb.mono HQ16.out.size))
     have KU := Lib.hid (uni2_ref (HRF.out.later HB17.out) (rep_k (fun b => b < w7.heap.size) w17 4) hx HFB.out.2.2.2 (form_tyK (by decide) (by decide)) (by have := HCF.out; omega) (by rw [cnt_kind]; omega))
     rw [← HEQ0.out] at KU
     have HLB : Hid (w13.heap.size < w16.heap.size ∧ w13.heap.size < w17.heap.size) := Lib.hid ⟨Nat.lt_of_lt_of_le (Array.getElem?_eq_some_iff.1 HXW14.out).1 HQ16.out.size, Nat.lt_of_lt_of_le (Array.getElem?_eq_some_iff.1 HXW14.out).1 HQ17.out.size⟩
     clear hb hx
     refine hK.out _ _ (HS14.out _ HQ17.out) (fun hHeld => ?_)
     clear hK Kx
     try simp only [Act.put, List.setIfInBounds_toArray, List.set_cons_zero, List.set_cons_succ]
     refine wpAnyH_ready (rs := [4]) (by kernel_rfl) (by simp) ?_
     refine AllReadyH.cons (sd (some 78) rfl) (fun Kx hK => ?_) AllReadyH.nil
     go_simp
     refine KU.out.mono ?_
     rintro e w18 ⟨rs, rfl, hrw, hb⟩
     have HB18 := Lib.hid (HB17.out.trans (hb.mono HB17.out.size))
     have HX18 := Lib.hid (box_up hb (Array.getElem?_eq_some_iff.1 HX17.out).1 HX17.out)
     have HY18 := Lib.hid (box_up hb (Array.getElem?_eq_some_iff.1 HY17.out).1 HY17.out)
     have H8X18 := Lib.hid (box_up hb (Array.getElem?_eq_some_iff.1 H8X17.out).1 H8X17.out)
     have H8R18 := Lib.hid (H8R17.out.later hb)
     have HQ18 := Lib.hid (HQ17.out.trans (hb.mono HQ17.out.size))
     have HR18 : Hid (RepT (fun b => b ≠ w13.heap.size) w18 (.mk k8 s8 n8 ps8 fs8 vs8) rs) := Lib.hid (hrw.weak fun b h => by have h1 := HLB.out; have h2 := HOLD.out; rcases h with h | h | h <;> omega)
     obtain ⟨A9, c9, B9, d9, C9, e9, rfl, -⟩ := hrw.inv
     simp only [cells6T] at HR18 ⊢
     clear hrw hb
     go_wp2_with fail
     refine hK.out _ _ (HS14.out _ HQ18.out) (fun hHeld => ?_)
     clear hK Kx
     try simp only [Act.put, List.setIfInBounds_toArray, List.set_cons_zero, List.set_cons_succ]
     refine wpAnyH_ready (rs := [5]) (by kernel_rfl) (by simp) ?_
     refine AllReadyH.cons (sd none rfl) (fun Kx hK => ?_) AllReadyH.nil
     go_simp
     have rb := HX18.out
     obtain ⟨q0, q1, q2, q3, q4, q5, z0, z1, z2, z3, z4, z5⟩ := qz6 rb
     clear rb
     go_simp
     have hx := six_set HX18.out (.int .i64 k8) (.string s8) (.int .i64 n8) (.slice A9 ps8.length c9) (.slice B9 fs8.length d9) (.slice C9 vs8.length e9)
     have hbn := set_six_below HB18.out (HOLD.out.2.2) (.int .i64 k8) (.string s8) (.int .i64 n8) (.slice A9 ps8.length c9) (.slice B9 fs8.length d9) (.slice C9 vs8.length e9)
     have hrn := six_rep HR18.out (fun b h => h) (.int .i64 k8) (.string s8) (.int .i64 n8) (.slice A9 ps8.length c9) (.slice B9 fs8.length d9) (.slice C9 vs8.length e9)
     have hyf : (World.setCell (World.setCell (World.setCell (World.setCell (World.setCell (World.setCell w18 ⟨w13.heap.size, 0, none⟩ (.int .i64 k8)) ⟨w13.heap.size, 1, none⟩ (.string s8)) ⟨w13.heap.size, 2, none⟩ (.int .i64 n8)) ⟨w13.heap.size, 3, none⟩ (.slice A9 ps8.length c9)) ⟨w13.heap.size, 4, none⟩ (.slice B9 fs8.length d9)) ⟨w13.heap.size, 5, none⟩ (.slice C9 vs8.length e9)).heap[wr.heap.size]? = _ := (six_heap w18 _ _ _ _ _ _ (show _ ≠ w13.heap.size from by have h1 := HOLD.out; omega)).trans HY18.out
     have hy8 : (World.setCell (World.setCell (World.setCell (World.setCell (World.setCell (World.setCell w18 ⟨w13.heap.size, 0, none⟩ (.int .i64 k8)) ⟨w13.heap.size, 1, none⟩ (.string s8)) ⟨w13.heap.size, 2, none⟩ (.int .i64 n8)) ⟨w13.heap.size, 3, none⟩ (.slice A9 ps8.length c9)) ⟨w13.heap.size, 4, none⟩ (.slice B9 fs8.length d9)) ⟨w13.heap.size, 5, none⟩ (.slice C9 vs8.length e9)).heap[wa.heap.size]? = _ := (six_heap w18 _ _ _ _ _ _ (show _ ≠ w13.heap.size from by have h1 := HOLD.out; omega)).trans H8X18.out
     have hr8 := six_rep (RepT.weak H8R18.out (K' := fun b => b ≠ w13.heap.size) (fun b h => by have h2 : b < w13.heap.size := h; omega)) (fun b h => h) (.int .i64 k8) (.string s8) (.int .i64 n8) (.slice A9 ps8.length c9) (.slice B9 fs8.length d9) (.slice C9 vs8.length e9)
     generalize hW : (World.setCell (World.setCell (World.setCell (World.setCell (World.setCell (World.setCell w18 ⟨w13.heap.size, 0, none⟩ (.int .i64 k8)) ⟨w13.heap.size, 1, none⟩ (.string s8)) ⟨w13.heap.size, 2, none⟩ (.int .i64 n8)) ⟨w13.heap.size, 3, none⟩ (.slice A9 ps8.length c9)) ⟨w13.heap.size, 4, none⟩ (.slice B9 fs8.length d9)) ⟨w13.heap.size, 5, none⟩ (.slice C9 vs8.length e9)) = w19 at hx hbn hrn hyf hy8 hr8
     clear hW q0 q1 q2 q3 q4 q5 z0 z1 z2 z3 z4 z5
     have HB19 := Lib.hid hbn
     have HX19 := Lib.hid hx
     have HR19 := Lib.hid hrn
     clear hx hbn hrn
     have HY19 := Lib.hid hyf
     clear hyf
     have H8X19 := Lib.hid hy8
     clear hy8
     have H8R19 := Lib.hid hr8
     clear hr8
     refine hK.out _ _ ((by have h1 := HY19.out; exact ⟨Lib.cell_of_heap h1 2, Lib.cell_of_heap h1 3, Lib.cell_of_heap h1 4, Lib.cell_of_heap h1 5, Lib.cell_of_heap h1 6, Lib.cell_of_heap h1 7⟩)) (fun hHeld => ?_)
     clear hK Kx
     try simp only [Act.put, List.setIfInBounds_toArray, List.set_cons_zero, List.set_cons_succ]
     refine wpAnyH_done (by kernel_rfl) ?_ _
     clear hHeld
     go_upto_region 15 with fail
     have HEQ : Hid (Ty.mk k8 s8 n8 ps8 fs8 vs8 = .mk k8 s8 n8 ps8 fs8 vs8) := Lib.hid rfl
     have HS15 : Hid (∀ wx, Below w19.heap.size w19 wx → (wx.cell? ⟨b5, o5 + i * 6, none⟩ = some (.int .i64 10) ∧ wx.cell? ⟨b5, o5 + i * 6 + 1, none⟩ = some (.string nm) ∧ wx.cell? ⟨b5, o5 + i * 6 + 2, none⟩ = some (.int .i64 0) ∧ wx.cell? ⟨b5, o5 + i * 6 + 3, none⟩ = some (.slice Ae 0 ce) ∧ wx.cell? ⟨b5, o5 + i * 6 + 4, none⟩ = some (.slice Be 0 de) ∧ wx.cell? ⟨b5, o5 + i * 6 + 5, none⟩ = some (.slice Ce 0 ee)) ∧ wx.cell? ⟨wr.heap.size, 0, none⟩ = some (.string nm) ∧ (wx.cell? ⟨wa.heap.size, 0, none⟩ = some (.int .i64 k8) ∧ wx.cell? ⟨wa.heap.size, 1, none⟩ = some (.string s8) ∧ wx.cell? ⟨wa.heap.size, 2, none⟩ = some (.int .i64 n8) ∧ wx.cell? ⟨wa.heap.size, 3, none⟩ = some (.slice A8 ps8.length c8) ∧ wx.cell? ⟨wa.heap.size, 4, none⟩ = some (.slice B8 fs8.length d8) ∧ wx.cell? ⟨wa.heap.size, 5, none⟩ = some (.slice C8 vs8.length e8)) ∧ (wx.cell? ⟨w13.heap.size, 0, none⟩ = some (.int .i64 k8) ∧ wx.cell? ⟨w13.heap.size, 1, none⟩ = some (.string s8) ∧ wx.cell? ⟨w13.heap.size, 2, none⟩ = some (.int .i64 n8) ∧ wx.cell? ⟨w13.heap.size, 3, none⟩ = some (.slice A9 ps8.length c9) ∧ wx.cell? ⟨w13.heap.size, 4, none⟩ = some (.slice B9 fs8.length d9) ∧ wx.cell? ⟨w13.heap.size, 5, none⟩ = some (.slice C9 vs8.length e9))) := Lib.hid fun wx hx => by
      have h1 := box_up hx (Array.getElem?_eq_some_iff.1 HY19.out).1 HY19.out
      have h2 := box_up hx (Array.getElem?_eq_some_iff.1 H8X19.out).1 H8X19.out
      have h3 := box_up hx (Array.getElem?_eq_some_iff.1 HX19.out).1 HX19.out
      exact ⟨HE8.out wx (HB19.out.trans (hx.mono HB19.out.size)), Lib.cell_of_heap h1 0, ⟨Lib.cell_of_heap h2 0, Lib.cell_of_heap h2 1, Lib.cell_of_heap h2 2, Lib.cell_of_heap h2 3, Lib.cell_of_heap h2 4, Lib.cell_of_heap h2 5⟩, ⟨Lib.cell_of_heap h3 0, Lib.cell_of_heap h3 1, Lib.cell_of_heap h3 2, Lib.cell_of_heap h3 3, Lib.cell_of_heap h3 4, Lib.cell_of_heap h3 5⟩⟩
     have KSame := Lib.hid fun wx (hx : Below w19.heap.size w19 wx) => same13 (H8R19.out.later hx) (HR19.out.later hx)
     rw [show (ordT (.mk k8 s8 n8 ps8 fs8 vs8) (.mk k8 s8 n8 ps8 fs8 vs8) == 0) = true from by rw [HEQ.out, ordT_zero.2 rfl]; rfl] at KSame
     refine wp_region_held_drew (S := (fun w' => (w'.cell? ⟨b5, o5 + i * 6, none⟩ = some (.int .i64 10) ∧ w'.cell? ⟨b5, o5 + i * 6 + 1, none⟩ = some (.string nm) ∧ w'.cell? ⟨b5, o5 + i * 6 + 2, none⟩ = some (.int .i64 0) ∧ w'.cell? ⟨b5, o5 + i * 6 + 3, none⟩ = some (.slice Ae 0 ce) ∧ w'.cell? ⟨b5, o5 + i * 6 + 4, none⟩ = some (.slice Be 0 de) ∧ w'.cell? ⟨b5, o5 + i * 6 + 5, none⟩ = some (.slice Ce 0 ee)) ∧ w'.cell? ⟨wr.heap.size, 0, none⟩ = some (.string nm) ∧ (w'.cell? ⟨wa.heap.size, 0, none⟩ = some (.int .i64 k8) ∧ w'.cell? ⟨wa.heap.size, 1, none⟩ = some (.string s8) ∧ w'.cell? ⟨wa.heap.size, 2, none⟩ = some (.int .i64 n8) ∧ w'.cell? ⟨wa.heap.size, 3, none⟩ = some (.slice A8 ps8.length c8) ∧ w'.cell? ⟨wa.heap.size, 4, none⟩ = some (.slice B8 fs8.length d8) ∧ w'.cell? ⟨wa.heap.size, 5, none⟩ = some (.slice C8 vs8.length e8)) ∧ (w'.cell? ⟨w13.heap.size, 0, none⟩ = some (.int .i64 k8) ∧ w'.cell? ⟨w13.heap.size, 1, none⟩ = some (.string s8) ∧ w'.cell? ⟨w13.heap.size, 2, none⟩ = some (.int .i64 n8) ∧ w'.cell? ⟨w13.heap.size, 3, none⟩ = some (.slice A9 ps8.length c9) ∧ w'.cell? ⟨w13.heap.size, 4, none⟩ = some (.slice B9 fs8.length d9) ∧ w'.cell? ⟨w13.heap.size, 5, none⟩ = some (.slice C9 vs8.length e9)))) (by kernel_rfl) (HS15.out _ (Below.refl _ _).drew) (fun hHeld => ?_)
     refine Plan.start [0, 1, 2, 3, 4, 5, 6, 7, 8, 9, 10, 11, 12, 13, 14, 15, 16, 17, 18, 19, 20, 21, 22] ?_
     iterate 23 ((refine Plan.take (v := ?_) (so rfl) (by kernel_rfl) (by kernel_rfl) (by kernel_rfl) (fun _ _ _ h => h) (Or.inl ⟨by rfl, ?_⟩) hHeld ?_; rotate_left; focus (intro w' hSw; (try dsimp only at hSw); go_simp; try with_reducible rfl)); try simp only [Act.put, List.setIfInBounds_toArray, List.set_cons_zero, List.set_cons_succ])
     refine Plan.done ?_
     refine wpAnyH_ready (rs := [23]) (by kernel_rfl) (by simp) ?_
     refine AllReadyH.cons (sd (some 102) rfl) (fun Kx hK => ?_) AllReadyH.nil
     go_simp
     refine (KSame.out _ (Below.refl w19.heap.size w19).drew).mono ?_
     rintro e w21 ⟨rfl, hb⟩
     have HQ21 := Lib.hid ((Below.refl w19.heap.size w19).drew.trans (hb.mono (Below.refl w19.heap.size w19).drew.size))
     clear hb
     go_wp2_with fail
     refine hK.out _ _ (HS15.out _ HQ21.out) (fun hHeld => ?_)
     clear hK Kx
     try simp only [Act.put, List.setIfInBounds_toArray, List.set_cons_zero, List.set_cons_succ]
     refine Plan.start [24, 25] ?_
     iterate 2 ((refine Plan.take (v := ?_) (so rfl) (by kernel_rfl) (by kernel_rfl) (by kernel_rfl) (fun _ _ _ h => h) (Or.inl ⟨by rfl, ?_⟩) hHeld ?_; rotate_left; focus (intro w' hSw; (try dsimp only at hSw); go_simp; try with_reducible rfl)); try simp only [Act.put, List.setIfInBounds_toArray, List.set_cons_zero, List.set_cons_succ])
     refine Plan.done ?_
     refine wpAnyH_done (by kernel_rfl) ?_ _
     clear hHeld
     go_wp2_with fail
     refine ⟨⟨i + 1, HIn.out, by first | rfl | rw [wr2], HB19.out.trans (HQ21.out.mono HB19.out.size)⟩, ?_⟩
     first | exact HM.out | (rw [wr2]; exact HM.out)
    ·subst hfl
     go_upto_region 12 with fail
     have hyf := HY13.out
     obtain ⟨z0, z1, z2, z3, z4, z5, z6, z7⟩ := cz8 hyf
     clear hyf
     go_upto_region 13 with fail
     generalize hW : w13.alloc (.cells #[.int .i64 k3, .string s3, .int .i64 n3, .slice A3 ps3.length c3, .slice B3 fs3.length d3, .slice C3 vs3.length e3] 26) = w14
     have hb : Below w13.heap.size w13 w14 := by rw [← hW]; exact (Below.refl _ _).alloc (Nat.le_refl _) _
     have hx : w14.heap[w13.heap.size]? = some (.cells #[.int .i64 k3, .string s3, .int .i64 n3, .slice A3 ps3.length c3, .slice B3 fs3.length d3, .slice C3 vs3.length e3] 26 (0, 0)) := by rw [← hW]; exact heap_alloc_new w13 _
     have HXW14 := Lib.hid hx
     have HST14 := Lib.hid hb
     have HB14 := Lib.hid (HB13.out.trans (hb.mono HB13.out.size))
     have HY14 := Lib.hid (box_up hb (Array.getElem?_eq_some_iff.1 HY13.out).1 HY13.out)
     have H8X14 := Lib.hid (box_up hb (Array.getElem?_eq_some_iff.1 HX13.out).1 HX13.out)
     have H8R14 := Lib.hid (HR13.out.later hb)
     have hyf := HY14.out
     clear hW hb hx z0 z1 z2 z3 z4 z5 z6 z7
     obtain ⟨z0, z1, z2, z3, z4, z5, z6, z7⟩ := cz8 hyf
     clear hyf
     have HRW14 := Lib.hid ((HRF.out.later HB14.out).weak (K' := fun _ => True) fun _ _ => trivial)
     have HEQ : Hid (Ty.mk k8 s8 n8 ps8 fs8 vs8 = .mk k3 s3 n3 ps3 fs3 vs3) := Lib.hid (by rw [HWN.out]; rfl)
     go_upto_region 15 with fail
     clear z0 z1 z2 z3 z4 z5 z6 z7
     have HS15 : Hid (∀ wx, Below w14.heap.size w14 wx → (wx.cell? ⟨b5, o5 + i * 6, none⟩ = some (.int .i64 10) ∧ wx.cell? ⟨b5, o5 + i * 6 + 1, none⟩ = some (.string nm) ∧ wx.cell? ⟨b5, o5 + i * 6 + 2, none⟩ = some (.int .i64 0) ∧ wx.cell? ⟨b5, o5 + i * 6 + 3, none⟩ = some (.slice Ae 0 ce) ∧ wx.cell? ⟨b5, o5 + i * 6 + 4, none⟩ = some (.slice Be 0 de) ∧ wx.cell? ⟨b5, o5 + i * 6 + 5, none⟩ = some (.slice Ce 0 ee)) ∧ wx.cell? ⟨wr.heap.size, 0, none⟩ = some (.string nm) ∧ (wx.cell? ⟨wa.heap.size, 0, none⟩ = some (.int .i64 k8) ∧ wx.cell? ⟨wa.heap.size, 1, none⟩ = some (.string s8) ∧ wx.cell? ⟨wa.heap.size, 2, none⟩ = some (.int .i64 n8) ∧ wx.cell? ⟨wa.heap.size, 3, none⟩ = some (.slice A8 ps8.length c8) ∧ wx.cell? ⟨wa.heap.size, 4, none⟩ = some (.slice B8 fs8.length d8) ∧ wx.cell? ⟨wa.heap.size, 5, none⟩ = some (.slice C8 vs8.length e8)) ∧ (wx.cell? ⟨w13.heap.size, 0, none⟩ = some (.int .i64 k3) ∧ wx.cell? ⟨w13.heap.size, 1, none⟩ = some (.string s3) ∧ wx.cell? ⟨w13.heap.size, 2, none⟩ = some (.int .i64 n3) ∧ wx.cell? ⟨w13.heap.size, 3, none⟩ = some (.slice A3 ps3.length c3) ∧ wx.cell? ⟨w13.heap.size, 4, none⟩ = some (.slice B3 fs3.length d3) ∧ wx.cell? ⟨w13.heap.size, 5, none⟩ = some (.slice C3 vs3.length e3))) := Lib.hid fun wx hx => by
      have h1 := box_up hx (Array.getElem?_eq_some_iff.1 HY14.out).1 HY14.out
      have h2 := box_up hx (Array.getElem?_eq_some_iff.1 H8X14.out).1 H8X14.out
      have h3 := box_up hx (Array.getElem?_eq_some_iff.1 HXW14.out).1 HXW14.out
      exact ⟨HE8.out wx (HB14.out.trans (hx.mono HB14.out.size)), Lib.cell_of_heap h1 0, ⟨Lib.cell_of_heap h2 0, Lib.cell_of_heap h2 1, Lib.cell_of_heap h2 2, Lib.cell_of_heap h2 3, Lib.cell_of_heap h2 4, Lib.cell_of_heap h2 5⟩, ⟨Lib.cell_of_heap h3 0, Lib.cell_of_heap h3 1, Lib.cell_of_heap h3 2, Lib.cell_of_heap h3 3, Lib.cell_of_heap h3 4, Lib.cell_of_heap h3 5⟩⟩
     have KSame := Lib.hid fun wx (hx : Below w14.heap.size w14 wx) => same13 (H8R14.out.later hx) (HRW14.out.later hx)
     rw [show (ordT (.mk k8 s8 n8 ps8 fs8 vs8) (.mk k3 s3 n3 ps3 fs3 vs3) == 0) = true from by rw [HEQ.out, ordT_zero.2 rfl]; rfl] at KSame
     refine wp_region_held_drew (S := (fun w' => (w'.cell? ⟨b5, o5 + i * 6, none⟩ = some (.int .i64 10) ∧ w'.cell? ⟨b5, o5 + i * 6 + 1, none⟩ = some (.string nm) ∧ w'.cell? ⟨b5, o5 + i * 6 + 2, none⟩ = some (.int .i64 0) ∧ w'.cell? ⟨b5, o5 + i * 6 + 3, none⟩ = some (.slice Ae 0 ce) ∧ w'.cell? ⟨b5, o5 + i * 6 + 4, none⟩ = some (.slice Be 0 de) ∧ w'.cell? ⟨b5, o5 + i * 6 + 5, none⟩ = some (.slice Ce 0 ee)) ∧ w'.cell? ⟨wr.heap.size, 0, none⟩ = some (.string nm) ∧ (w'.cell? ⟨wa.heap.size, 0, none⟩ = some (.int .i64 k8) ∧ w'.cell? ⟨wa.heap.size, 1, none⟩ = some (.string s8) ∧ w'.cell? ⟨wa.heap.size, 2, none⟩ = some (.int .i64 n8) ∧ w'.cell? ⟨wa.heap.size, 3, none⟩ = some (.slice A8 ps8.length c8) ∧ w'.cell? ⟨wa.heap.size, 4, none⟩ = some (.slice B8 fs8.length d8) ∧ w'.cell? ⟨wa.heap.size, 5, none⟩ = some (.slice C8 vs8.length e8)) ∧ (w'.cell? ⟨w13.heap.size, 0, none⟩ = some (.int .i64 k3) ∧ w'.cell? ⟨w13.heap.size, 1, none⟩ = some (.string s3) ∧ w'.cell? ⟨w13.heap.size, 2, none⟩ = some (.int .i64 n3) ∧ w'.cell? ⟨w13.heap.size, 3, none⟩ = some (.slice A3 ps3.length c3) ∧ w'.cell? ⟨w13.heap.size, 4, none⟩ = some (.slice B3 fs3.length d3) ∧ w'.cell? ⟨w13.heap.size, 5, none⟩ = some (.slice C3 vs3.length e3)))) (by kernel_rfl) (HS15.out _ (Below.refl _ _).drew) (fun hHeld => ?_)
     refine Plan.start [0, 1, 2, 3, 4, 5, 6, 7, 8, 9, 10, 11, 12, 13, 14, 15, 16, 17, 18, 19, 20, 21, 22] ?_
     iterate 23 ((refine Plan.take (v := ?_) (so rfl) (by kernel_rfl) (by kernel_rfl) (by kernel_rfl) (fun _ _ _ h => h) (Or.inl ⟨by rfl, ?_⟩) hHeld ?_; rotate_left; focus (intro w' hSw; (try dsimp only at hSw); go_simp; try with_reducible rfl)); try simp only [Act.put, List.setIfInBounds_toArray, List.set_cons_zero, List.set_cons_succ])
     refine Plan.done ?_
     refine wpAnyH_ready (rs := [23]) (by kernel_rfl) (by simp) ?_
     refine AllReadyH.cons (sd (some 102) rfl) (fun Kx hK => ?_) AllReadyH.nil
     go_simp
     refine (KSame.out _ (Below.refl w14.heap.size w14).drew).mono ?_
     rintro e w16 ⟨rfl, hb⟩
     have HQ16 := Lib.hid ((Below.refl w14.heap.size w14).drew.trans (hb.mono (Below.refl w14.heap.size w14).drew.size))
     clear hb
     go_wp2_with fail
     refine hK.out _ _ (HS15.out _ HQ16.out) (fun hHeld => ?_)
     clear hK Kx
     try simp only [Act.put, List.setIfInBounds_toArray, List.set_cons_zero, List.set_cons_succ]
     refine Plan.start [24, 25] ?_
     iterate 2 ((refine Plan.take (v := ?_) (so rfl) (by kernel_rfl) (by kernel_rfl) (by kernel_rfl) (fun _ _ _ h => h) (Or.inl ⟨by rfl, ?_⟩) hHeld ?_; rotate_left; focus (intro w' hSw; (try dsimp only at hSw); go_simp; try with_reducible rfl)); try simp only [Act.put, List.setIfInBounds_toArray, List.set_cons_zero, List.set_cons_succ])
     refine Plan.done ?_
     refine wpAnyH_done (by kernel_rfl) ?_ _
     clear hHeld
     go_wp2_with fail
     refine ⟨⟨i + 1, HIn.out, by first | rfl | rw [wr2], HB14.out.trans (HQ16.out.mono HB14.out.size)⟩, ?_⟩
     first | exact HM.out | (rw [wr2]; exact HM.out)
    ·subst hfl
     go_upto_region 12 with fail
     have hyf := HY13.out
     obtain ⟨z0, z1, z2, z3, z4, z5, z6, z7⟩ := cz8 hyf
     clear hyf
     go_upto_region 13 with fail
     generalize hW : w13.alloc (.cells #[.int .i64 k3, .string s3, .int .i64 n3, .slice A3 ps3.length c3, .slice B3 fs3.length d3, .slice C3 vs3.length e3] 26) = w14
     have hb : Below w13.heap.size w13 w14 := by rw [← hW]; exact (Below.refl _ _).alloc (Nat.le_refl _) _
     have hx : w14.heap[w13.heap.size]? = some (.cells #[.int .i64 k3, .string s3, .int .i64 n3, .slice A3 ps3.length c3, .slice B3 fs3.length d3, .slice C3 vs3.length e3] 26 (0, 0)) := by rw [← hW]; exact heap_alloc_new w13 _
     have HXW14 := Lib.hid hx
     have HST14 := Lib.hid hb
     have HB14 := Lib.hid (HB13.out.trans (hb.mono HB13.out.size))
     have HY14 := Lib.hid (box_up hb (Array.getElem?_eq_some_iff.1 HY13.out).1 HY13.out)
     have H8X14 := Lib.hid (box_up hb (Array.getElem?_eq_some_iff.1 HX13.out).1 HX13.out)
     have H8R14 := Lib.hid (HR13.out.later hb)
     have hyf := HY14.out
     clear hW hb hx z0 z1 z2 z3 z4 z5 z6 z7
     obtain ⟨z0, z1, z2, z3, z4, z5, z6, z7⟩ := cz8 hyf
     clear hyf
     have HEQ0 : Hid (Ty.mk k8 s8 n8 ps8 fs8 vs8 = unionT [.mk k3 s3 n3 ps3 fs3 vs3, tyK 4]) := Lib.hid (by rw [HWN.out]; rfl)
     go_upto_region 14 with fail
     clear z0 z1 z2 z3 z4 z5 z6 z7
     have HS14 : Hid (∀ wx, Below w14.heap.size w14 wx → wx.cell? ⟨wr.heap.size, 2, none⟩ = some (.int .i64 k3) ∧ wx.cell? ⟨wr.heap.size, 3, none⟩ = some (.string s3) ∧ wx.cell? ⟨wr.heap.size, 4, none⟩ = some (.int .i64 n3) ∧ wx.cell? ⟨wr.heap.size, 5, none⟩ = some (.slice A3 ps3.length c3) ∧ wx.cell? ⟨wr.heap.size, 6, none⟩ = some (.slice B3 fs3.length d3) ∧ wx.cell? ⟨wr.heap.size, 7, none⟩ = some (.slice C3 vs3.length e3)) := Lib.hid fun wx hx => by
      have h1 := box_up hx (Array.getElem?_eq_some_iff.1 HY14.out).1 HY14.out
      exact ⟨Lib.cell_of_heap h1 2, Lib.cell_of_heap h1 3, Lib.cell_of_heap h1 4, Lib.cell_of_heap h1 5, Lib.cell_of_heap h1 6, Lib.cell_of_heap h1 7⟩
     have HOLD : Hid (wr.heap.size < w13.heap.size ∧ wa.heap.size < w13.heap.size ∧ w7.heap.size ≤ w13.heap.size) := Lib.hid ⟨(Array.getElem?_eq_some_iff.1 HY13.out).1, (Array.getElem?_eq_some_iff.1 HX13.out).1, HB13.out.size⟩
     have H8L14 := Lib.hid ((RepT.low _ _ HR13.out).later (show Below w13.heap.size w13 w14.drew from HST14.out.drew))
     refine wp_region_held_drew (S := (fun w' => w'.cell? ⟨wr.heap.size, 2, none⟩ = some (.int .i64 k3) ∧ w'.cell? ⟨wr.heap.size, 3, none⟩ = some (.string s3) ∧ w'.cell? ⟨wr.heap.size, 4, none⟩ = some (.int .i64 n3) ∧ w'.cell? ⟨wr.heap.size, 5, none⟩ = some (.slice A3 ps3.length c3) ∧ w'.cell? ⟨wr.heap.size, 6, none⟩ = some (.slice B3 fs3.length d3) ∧ w'.cell? ⟨wr.heap.size, 7, none⟩ = some (.slice C3 vs3.length e3))) (by kernel_rfl) (HS14.out _ (Below.refl _ _).drew) (fun hHeld => ?_)
     refine Plan.start [0, 1] ?_
     iterate 2 ((refine Plan.take (v := ?_) (so rfl) (by kernel_rfl) (by kernel_rfl) (by kernel_rfl) (fun _ _ _ h => h) (Or.inl ⟨by rfl, ?_⟩) hHeld ?_; rotate_left; focus (intro w' hSw; (try dsimp only at hSw); go_simp; try with_reducible rfl)); try simp only [Act.put, List.setIfInBounds_toArray, List.set_cons_zero, List.set_cons_succ])
     refine Plan.done ?_
     refine wpAnyH_ready (rs := [2]) (by kernel_rfl) (by simp) ?_
     refine AllReadyH.cons (sd (some 76) rfl) (fun Kx hK => ?_) AllReadyH.nil
     go_simp
     refine (of13 4 _).mono ?_
     rintro e w16 ⟨rfl, hb⟩
     have HB16 := Lib.hid ((HB14.out.drew).trans (hb.mono (HB14.out.drew).size))
     have HX16 := Lib.hid (box_up hb (Array.getElem?_eq_some_iff.1 HXW14.out).1 HXW14.out)
     have HY16 := Lib.hid (box_up hb (Array.getElem?_eq_some_iff.1 HY14.out).1 HY14.out)
     have H8X16 := Lib.hid (box_up hb (Array.getElem?_eq_some_iff.1 H8X14.out).1 H8X14.out)
     have H8R16 := Lib.hid (H8L14.out.later hb)
     have HQ16 := Lib.hid ((Below.refl w14.heap.size w14).drew.trans (hb.mono (Below.refl w14.heap.size w14).drew.size))
     clear hb
     go_wp2_with fail
     refine hK.out _ _ (HS14.out _ HQ16.out) (fun hHeld => ?_)
     clear hK Kx
     try simp only [Act.put, List.setIfInBounds_toArray, List.set_cons_zero, List.set_cons_succ]
     refine wpAnyH_ready (rs := [3]) (by kernel_rfl) (by simp) ?_
     refine AllReadyH.cons (sd (some 77) rfl) (fun Kx hK => ?_) AllReadyH.nil
     go_simp
     generalize hW : World.alloc w16 (.cells #[.int .i64 k3, .string s3, .int .i64 n3, .slice A3 ps3.length c3, .slice B3 fs3.length d3, .slice C3 vs3.length e3, .int .i64 4, .string ⟨#[]⟩, .int .i64 0, .slice none 0 0, .slice none 0 0, .slice none 0 0] 26) = w17
     have hb : Below w16.heap.size w16 w17 := by rw [← hW]; exact (Below.refl _ _).alloc (Nat.le_refl _) _
     have hx : w17.heap[w16.heap.size]? = some (.cells #[.int .i64 k3, .string s3, .int .i64 n3, .slice A3 ps3.length c3, .slice B3 fs3.length d3, .slice C3 vs3.length e3, .int .i64 4, .string ⟨#[]⟩, .int .i64 0, .slice none 0 0, .slice none 0 0, .slice none 0 0] 26 (0, 0)) := by rw [← hW]; exact heap_alloc_new w16 _
     clear hW
     have HB17 := Lib.hid (HB16.out.trans (hb.mono HB16.out.size))
     have HX17 := Lib.hid (box_up hb (Array.getElem?_eq_some_iff.1 HX16.out).1 HX16.out)
     have HY17 := Lib.hid (box_up hb (Array.getElem?_eq_some_iff.1 HY16.out).1 HY16.out)
     have H8X17 := Lib.hid (box_up hb (Array.getElem?_eq_some_iff.1 H8X16.out).1 H8X16.out)
     have H8R17 := Lib.hid (H8R16.out.later hb)
     have HQ17 := Lib.hid (HQ16.out.trans (hb.mono HQ16.out.size))
     have KU := Lib.hid (uni2_ref (HRF.out.later HB17.out) (rep_k (fun b => b < w7.heap.size) w17 4) hx HFB.out.2.2.2 (form_tyK (by decide) (by decide)) (by have := HCF.out; omega) (by rw [cnt_kind]; omega))
     rw [← HEQ0.out] at KU
     have HLB : Hid (w13.heap.size < w16.heap.size ∧ w13.heap.size < w17.heap.size) := Lib.hid ⟨Nat.lt_of_lt_of_le (Array.getElem?_eq_some_iff.1 HXW14.out).1 HQ16.out.size, Nat.lt_of_lt_of_le (Array.getElem?_eq_some_iff.1 HXW14.out).1 HQ17.out.size⟩
     clear hb hx
     refine hK.out _ _ (HS14.out _ HQ17.out) (fun hHeld => ?_)
     clear hK Kx
     try simp only [Act.put, List.setIfInBounds_toArray, List.set_cons_zero, List.set_cons_succ]
     refine wpAnyH_ready (rs := [4]) (by kernel_rfl) (by simp) ?_
     refine AllReadyH.cons (sd (some 78) rfl) (fun Kx hK => ?_) AllReadyH.nil
     go_simp
     refine KU.out.mono ?_
     rintro e w18 ⟨rs, rfl, hrw, hb⟩
     have HB18 := Lib.hid (HB17.out.trans (hb.mono HB17.out.size))
     have HX18 := Lib.hid (box_up hb (Array.getElem?_eq_some_iff.1 HX17.out).1 HX17.out)
     have HY18 := Lib.hid (box_up hb (Array.getElem?_eq_some_iff.1 HY17.out).1 HY17.out)
     have H8X18 := Lib.hid (box_up hb (Array.getElem?_eq_some_iff.1 H8X17.out).1 H8X17.out)
     have H8R18 := Lib.hid (H8R17.out.later hb)
     have HQ18 := Lib.hid (HQ17.out.trans (hb.mono HQ17.out.size))
     have HR18 : Hid (RepT (fun b => b ≠ w13.heap.size) w18 (.mk k8 s8 n8 ps8 fs8 vs8) rs) := Lib.hid (hrw.weak fun b h => by have h1 := HLB.out; have h2 := HOLD.out; rcases h with h | h | h <;> omega)
     obtain ⟨A9, c9, B9, d9, C9, e9, rfl, -⟩ := hrw.inv
     simp only [cells6T] at HR18 ⊢
     clear hrw hb
     go_wp2_with fail
     refine hK.out _ _ (HS14.out _ HQ18.out) (fun hHeld => ?_)
     clear hK Kx
     try simp only [Act.put, List.setIfInBounds_toArray, List.set_cons_zero, List.set_cons_succ]
     refine wpAnyH_ready (rs := [5]) (by kernel_rfl) (by simp) ?_
     refine AllReadyH.cons (sd none rfl) (fun Kx hK => ?_) AllReadyH.nil
     go_simp
     have rb := HX18.out
     obtain ⟨q0, q1, q2, q3, q4, q5, z0, z1, z2, z3, z4, z5⟩ := qz6 rb
     clear rb
     go_simp
     have hx := six_set HX18.out (.int .i64 k8) (.string s8) (.int .i64 n8) (.slice A9 ps8.length c9) (.slice B9 fs8.length d9) (.slice C9 vs8.length e9)
     have hbn := set_six_below HB18.out (HOLD.out.2.2) (.int .i64 k8) (.string s8) (.int .i64 n8) (.slice A9 ps8.length c9) (.slice B9 fs8.length d9) (.slice C9 vs8.length e9)
     have hrn := six_rep HR18.out (fun b h => h) (.int .i64 k8) (.string s8) (.int .i64 n8) (.slice A9 ps8.length c9) (.slice B9 fs8.length d9) (.slice C9 vs8.length e9)
     have hyf : (World.setCell (World.setCell (World.setCell (World.setCell (World.setCell (World.setCell w18 ⟨w13.heap.size, 0, none⟩ (.int .i64 k8)) ⟨w13.heap.size, 1, none⟩ (.string s8)) ⟨w13.heap.size, 2, none⟩ (.int .i64 n8)) ⟨w13.heap.size, 3, none⟩ (.slice A9 ps8.length c9)) ⟨w13.heap.size, 4, none⟩ (.slice B9 fs8.length d9)) ⟨w13.heap.size, 5, none⟩ (.slice C9 vs8.length e9)).heap[wr.heap.size]? = _ := (six_heap w18 _ _ _ _ _ _ (show _ ≠ w13.heap.size from by have h1 := HOLD.out; omega)).trans HY18.out
     have hy8 : (World.setCell (World.setCell (World.setCell (World.setCell (World.setCell (World.setCell w18 ⟨w13.heap.size, 0, none⟩ (.int .i64 k8)) ⟨w13.heap.size, 1, none⟩ (.string s8)) ⟨w13.heap.size, 2, none⟩ (.int .i64 n8)) ⟨w13.heap.size, 3, none⟩ (.slice A9 ps8.length c9)) ⟨w13.heap.size, 4, none⟩ (.slice B9 fs8.length d9)) ⟨w13.heap.size, 5, none⟩ (.slice C9 vs8.length e9)).heap[wa.heap.size]? = _ := (six_heap w18 _ _ _ _ _ _ (show _ ≠ w13.heap.size from by have h1 := HOLD.out; omega)).trans H8X18.out
     have hr8 := six_rep (RepT.weak H8R18.out (K' := fun b => b ≠ w13.heap.size) (fun b h => by have h2 : b < w13.heap.size := h; omega)) (fun b h => h) (.int .i64 k8) (.string s8) (.int .i64 n8) (.slice A9 ps8.length c9) (.slice B9 fs8.length d9) (.slice C9 vs8.length e9)
     generalize hW : (World.setCell (World.setCell (World.setCell (World.setCell (World.setCell (World.setCell w18 ⟨w13.heap.size, 0, none⟩ (.int .i64 k8)) ⟨w13.heap.size, 1, none⟩ (.string s8)) ⟨w13.heap.size, 2, none⟩ (.int .i64 n8)) ⟨w13.heap.size, 3, none⟩ (.slice A9 ps8.length c9)) ⟨w13.heap.size, 4, none⟩ (.slice B9 fs8.length d9)) ⟨w13.heap.size, 5, none⟩ (.slice C9 vs8.length e9)) = w19 at hx hbn hrn hyf hy8 hr8
     clear hW q0 q1 q2 q3 q4 q5 z0 z1 z2 z3 z4 z5
     have HB19 := Lib.hid hbn
     have HX19 := Lib.hid hx
     have HR19 := Lib.hid hrn
     clear hx hbn hrn
     have HY19 := Lib.hid hyf
     clear hyf
     have H8X19 := Lib.hid hy8
     clear hy8
     have H8R19 := Lib.hid hr8
     clear hr8
     refine hK.out _ _ ((by have h1 := HY19.out; exact ⟨Lib.cell_of_heap h1 2, Lib.cell_of_heap h1 3, Lib.cell_of_heap h1 4, Lib.cell_of_heap h1 5, Lib.cell_of_heap h1 6, Lib.cell_of_heap h1 7⟩)) (fun hHeld => ?_)
     clear hK Kx
     try simp only [Act.put, List.setIfInBounds_toArray, List.set_cons_zero, List.set_cons_succ]
     refine wpAnyH_done (by kernel_rfl) ?_ _
     clear hHeld
     go_upto_region 15 with fail
     have HEQ : Hid (Ty.mk k8 s8 n8 ps8 fs8 vs8 = .mk k8 s8 n8 ps8 fs8 vs8) := Lib.hid rfl
     have HS15 : Hid (∀ wx, Below w19.heap.size w19 wx → (wx.cell? ⟨b5, o5 + i * 6, none⟩ = some (.int .i64 10) ∧ wx.cell? ⟨b5, o5 + i * 6 + 1, none⟩ = some (.string nm) ∧ wx.cell? ⟨b5, o5 + i * 6 + 2, none⟩ = some (.int .i64 0) ∧ wx.cell? ⟨b5, o5 + i * 6 + 3, none⟩ = some (.slice Ae 0 ce) ∧ wx.cell? ⟨b5, o5 + i * 6 + 4, none⟩ = some (.slice Be 0 de) ∧ wx.cell? ⟨b5, o5 + i * 6 + 5, none⟩ = some (.slice Ce 0 ee)) ∧ wx.cell? ⟨wr.heap.size, 0, none⟩ = some (.string nm) ∧ (wx.cell? ⟨wa.heap.size, 0, none⟩ = some (.int .i64 k8) ∧ wx.cell? ⟨wa.heap.size, 1, none⟩ = some (.string s8) ∧ wx.cell? ⟨wa.heap.size, 2, none⟩ = some (.int .i64 n8) ∧ wx.cell? ⟨wa.heap.size, 3, none⟩ = some (.slice A8 ps8.length c8) ∧ wx.cell? ⟨wa.heap.size, 4, none⟩ = some (.slice B8 fs8.length d8) ∧ wx.cell? ⟨wa.heap.size, 5, none⟩ = some (.slice C8 vs8.length e8)) ∧ (wx.cell? ⟨w13.heap.size, 0, none⟩ = some (.int .i64 k8) ∧ wx.cell? ⟨w13.heap.size, 1, none⟩ = some (.string s8) ∧ wx.cell? ⟨w13.heap.size, 2, none⟩ = some (.int .i64 n8) ∧ wx.cell? ⟨w13.heap.size, 3, none⟩ = some (.slice A9 ps8.length c9) ∧ wx.cell? ⟨w13.heap.size, 4, none⟩ = some (.slice B9 fs8.length d9) ∧ wx.cell? ⟨w13.heap.size, 5, none⟩ = some (.slice C9 vs8.length e9))) := Lib.hid fun wx hx => by
      have h1 := box_up hx (Array.getElem?_eq_some_iff.1 HY19.out).1 HY19.out
      have h2 := box_up hx (Array.getElem?_eq_some_iff.1 H8X19.out).1 H8X19.out
      have h3 := box_up hx (Array.getElem?_eq_some_iff.1 HX19.out).1 HX19.out
      exact ⟨HE8.out wx (HB19.out.trans (hx.mono HB19.out.size)), Lib.cell_of_heap h1 0, ⟨Lib.cell_of_heap h2 0, Lib.cell_of_heap h2 1, Lib.cell_of_heap h2 2, Lib.cell_of_heap h2 3, Lib.cell_of_heap h2 4, Lib.cell_of_heap h2 5⟩, ⟨Lib.cell_of_heap h3 0, Lib.cell_of_heap h3 1, Lib.cell_of_heap h3 2, Lib.cell_of_heap h3 3, Lib.cell_of_heap h3 4, Lib.cell_of_heap h3 5⟩⟩
     have KSame := Lib.hid fun wx (hx : Below w19.heap.size w19 wx) => same13 (H8R19.out.later hx) (HR19.out.later hx)
     rw [show (ordT (.mk k8 s8 n8 ps8 fs8 vs8) (.mk k8 s8 n8 ps8 fs8 vs8) == 0) = true from by rw [HEQ.out, ordT_zero.2 rfl]; rfl] at KSame
     refine wp_region_held_drew (S := (fun w' => (w'.cell? ⟨b5, o5 + i * 6, none⟩ = some (.int .i64 10) ∧ w'.cell? ⟨b5, o5 + i * 6 + 1, none⟩ = some (.string nm) ∧ w'.cell? ⟨b5, o5 + i * 6 + 2, none⟩ = some (.int .i64 0) ∧ w'.cell? ⟨b5, o5 + i * 6 + 3, none⟩ = some (.slice Ae 0 ce) ∧ w'.cell? ⟨b5, o5 + i * 6 + 4, none⟩ = some (.slice Be 0 de) ∧ w'.cell? ⟨b5, o5 + i * 6 + 5, none⟩ = some (.slice Ce 0 ee)) ∧ w'.cell? ⟨wr.heap.size, 0, none⟩ = some (.string nm) ∧ (w'.cell? ⟨wa.heap.size, 0, none⟩ = some (.int .i64 k8) ∧ w'.cell? ⟨wa.heap.size, 1, none⟩ = some (.string s8) ∧ w'.cell? ⟨wa.heap.size, 2, none⟩ = some (.int .i64 n8) ∧ w'.cell? ⟨wa.heap.size, 3, none⟩ = some (.slice A8 ps8.length c8) ∧ w'.cell? ⟨wa.heap.size, 4, none⟩ = some (.slice B8 fs8.length d8) ∧ w'.cell? ⟨wa.heap.size, 5, none⟩ = some (.slice C8 vs8.length e8)) ∧ (w'.cell? ⟨w13.heap.size, 0, none⟩ = some (.int .i64 k8) ∧ w'.cell? ⟨w13.heap.size, 1, none⟩ = some (.string s8) ∧ w'.cell? ⟨w13.heap.size, 2, none⟩ = some (.int .i64 n8) ∧ w'.cell? ⟨w13.heap.size, 3, none⟩ = some (.slice A9 ps8.length c9) ∧ w'.cell? ⟨w13.heap.size, 4, none⟩ = some (.slice B9 fs8.length d9) ∧ w'.cell? ⟨w13.heap.size, 5, none⟩ = some (.slice C9 vs8.length e9)))) (by kernel_rfl) (HS15.out _ (Below.refl _ _).drew) (fun hHeld => ?_)
     refine Plan.start [0, 1, 2, 3, 4, 5, 6, 7, 8, 9, 10, 11, 12, 13, 14, 15, 16, 17, 18, 19, 20, 21, 22] ?_
     iterate 23 ((refine Plan.take (v := ?_) (so rfl) (by kernel_rfl) (by kernel_rfl) (by kernel_rfl) (fun _ _ _ h => h) (Or.inl ⟨by rfl, ?_⟩) hHeld ?_; rotate_left; focus (intro w' hSw; (try dsimp only at hSw); go_simp; try with_reducible rfl)); try simp only [Act.put, List.setIfInBounds_toArray, List.set_cons_zero, List.set_cons_succ])
     refine Plan.done ?_
     refine wpAnyH_ready (rs := [23]) (by kernel_rfl) (by simp) ?_
     refine AllReadyH.cons (sd (some 102) rfl) (fun Kx hK => ?_) AllReadyH.nil
     go_simp
     refine (KSame.out _ (Below.refl w19.heap.size w19).drew).mono ?_
     rintro e w21 ⟨rfl, hb⟩
     have HQ21 := Lib.hid ((Below.refl w19.heap.size w19).drew.trans (hb.mono (Below.refl w19.heap.size w19).drew.size))
     clear hb
     go_wp2_with fail
     refine hK.out _ _ (HS15.out _ HQ21.out) (fun hHeld => ?_)
     clear hK Kx
     try simp only [Act.put, List.setIfInBounds_toArray, List.set_cons_zero, List.set_cons_succ]
     refine Plan.start [24, 25] ?_
     iterate 2 ((refine Plan.take (v := ?_) (so rfl) (by kernel_rfl) (by kernel_rfl) (by kernel_rfl) (fun _ _ _ h => h) (Or.inl ⟨by rfl, ?_⟩) hHeld ?_; rotate_left; focus (intro w' hSw; (try dsimp only at hSw); go_simp; try with_reducible rfl)); try simp only [Act.put, List.setIfInBounds_toArray, List.set_cons_zero, List.set_cons_succ])
     refine Plan.done ?_
     refine wpAnyH_done (by kernel_rfl) ?_ _
     clear hHeld
     go_wp2_with fail
     refine ⟨⟨i + 1, HIn.out, by first | rfl | rw [wr2], HB19.out.trans (HQ21.out.mono HB19.out.size)⟩, ?_⟩
     first | exact HM.out | (rw [wr2]; exact HM.out)
  ·have t1 : decide ((i : Int) < (fs.length : Int)) = false := by simp; omega
   have KAt2 := Lib.hid fun wx (hx : Below w7.heap.size w7 wx) => evalat_ok (K := fun b => b < w7.heap.size) (HRT.out.later hx) (rep_str _ wx noName (by decide)) (fun b h => by have := hx.size; omega) HFT.out (formed_str noName)
   rw [at_no HFM.out rfl] at KAt2
   unfold tyK at KAt2
   clear hi
   go_upto_region 17 with fail
   clear x0 x1 x2 x3 x4 x5
   refine wp_region_held_drew (S := (fun w' => w'.cell? ⟨w.heap.size, 0, none⟩ = some (.int .i64 14) ∧ w'.cell? ⟨w.heap.size, 1, none⟩ = some (.string s) ∧ w'.cell? ⟨w.heap.size, 2, none⟩ = some (.int .i64 n) ∧ w'.cell? ⟨w.heap.size, 3, none⟩ = some (.slice A ps.length c) ∧ w'.cell? ⟨w.heap.size, 4, none⟩ = some (.slice A' fs.length c') ∧ w'.cell? ⟨w.heap.size, 5, none⟩ = some (.slice A'' vs.length c''))) (by kernel_rfl) (HX7.out _ HB.out.drew) (fun hHeld => ?_)
   refine wpAnyH_take (i := 0) (v := ?_) (sd (some 106) rfl) (by kernel_rfl) (by kernel_rfl) (by kernel_rfl) (fun _ _ _ h => h) (Or.inl ⟨by rfl, ?_⟩) hHeld ?_
   rotate_left
   ·intro w' hSw
    (try dsimp only at hSw)
    go_simp
    try with_reducible rfl
   try simp only [Act.put, List.setIfInBounds_toArray, List.set_cons_zero, List.set_cons_succ]
   refine wpAnyH_ready (rs := [1, 6]) (by kernel_rfl) (by simp) ?_
   refine AllReadyH.cons (sd (some 107) rfl) (fun Kx hK => ?_) (AllReadyH.cons (sd (some 11) rfl) (fun Kx hK => ?_) AllReadyH.nil)
   ·go_simp
    refine (str13 _ _).mono ?_
    rintro e w11 ⟨rfl, hb⟩
    have HB11 := Lib.hid (HB.out.drew.trans (hb.mono HB.out.drew.size))
    clear hb
    go_wp2_with fail
    refine hK.out _ _ (HX7.out _ HB11.out) (fun hHeld => ?_)
    clear hK Kx
    try simp only [Act.put, List.setIfInBounds_toArray, List.set_cons_zero, List.set_cons_succ]
    refine wpAnyH_ready (rs := [2, 6]) (by kernel_rfl) (by simp) ?_
    refine AllReadyH.cons (sd (some 108) rfl) (fun Kx hK => ?_) (AllReadyH.cons (sd (some 11) rfl) (fun Kx hK => ?_) AllReadyH.nil)
    ·go_simp
     refine (KAt2.out _ HB11.out).mono ?_
     rintro e w12 ⟨rs, rfl, hra, hb⟩
     have HB12 := Lib.hid (HB11.out.trans (hb.mono HB11.out.size))
     obtain ⟨Aq, cq, Ag, cg, Ah, ch, rfl, -⟩ := hra.inv
     simp only [cells6T, List.length_nil] at hra ⊢
     clear hra hb
     go_wp2_with fail
     refine hK.out _ _ (HX7.out _ HB12.out) (fun hHeld => ?_)
     clear hK Kx
     try simp only [Act.put, List.setIfInBounds_toArray, List.set_cons_zero, List.set_cons_succ]
     refine Plan.start [3, 4, 5] ?_
     iterate 3 ((refine Plan.take (v := ?_) (so rfl) (by kernel_rfl) (by kernel_rfl) (by kernel_rfl) (fun _ _ _ h => h) (Or.inl ⟨by rfl, ?_⟩) hHeld ?_; rotate_left; focus (intro w' hSw; (try dsimp only at hSw); go_simp; try with_reducible rfl)); try simp only [Act.put, List.setIfInBounds_toArray, List.set_cons_zero, List.set_cons_succ])
     refine Plan.done ?_
     refine wpAnyH_ready (rs := [6]) (by kernel_rfl) (by simp) ?_
     refine AllReadyH.cons (sd (some 11) rfl) (fun Kx hK => ?_) AllReadyH.nil
     go_simp
     generalize hW : World.alloc w12 (.cells #[.int .i64 0, .string ⟨#[]⟩, .int .i64 0, .slice none 0 0, .slice none 0 0, .slice none 0 0] 26) = w13
     have hb : Below w12.heap.size w12 w13 := by rw [← hW]; exact (Below.refl w12.heap.size w12).alloc (Nat.le_refl _) _
     have hx : w13.heap[w12.heap.size]? = some (.cells #[.int .i64 0, .string ⟨#[]⟩, .int .i64 0, .slice none 0 0, .slice none 0 0, .slice none 0 0] 26 (0, 0)) := by rw [← hW]; exact heap_alloc_new (w12) _
     clear hW
     have HB13 := Lib.hid (HB12.out.trans (hb.mono HB12.out.size))
     have HX13 := Lib.hid hx
     clear hb hx
     refine hK.out _ _ (HX7.out _ HB13.out) (fun hHeld => ?_)
     clear hK Kx
     try simp only [Act.put, List.setIfInBounds_toArray, List.set_cons_zero, List.set_cons_succ]
     refine wpAnyH_ready (rs := [7]) (by kernel_rfl) (by simp) ?_
     refine AllReadyH.cons (sd none rfl) (fun Kx hK => ?_) AllReadyH.nil
     go_simp
     have rb := HX13.out
     obtain ⟨q0, q1, q2, q3, q4, q5, z0, z1, z2, z3, z4, z5⟩ := qz6 rb
     clear rb
     go_simp
     have hx := six_set HX13.out (.int .i64 2) (.string emptyB) (.int .i64 0) (.slice Aq 0 cq) (.slice Ag 0 cg) (.slice Ah 0 ch)
     have hbn := set_six_below HB13.out ((HB12.out).size) (.int .i64 2) (.string emptyB) (.int .i64 0) (.slice Aq 0 cq) (.slice Ag 0 cg) (.slice Ah 0 ch)
     generalize hW : (World.setCell (World.setCell (World.setCell (World.setCell (World.setCell (World.setCell w13 ⟨w12.heap.size, 0, none⟩ (.int .i64 2)) ⟨w12.heap.size, 1, none⟩ (.string emptyB)) ⟨w12.heap.size, 2, none⟩ (.int .i64 0)) ⟨w12.heap.size, 3, none⟩ (.slice Aq 0 cq)) ⟨w12.heap.size, 4, none⟩ (.slice Ag 0 cg)) ⟨w12.heap.size, 5, none⟩ (.slice Ah 0 ch)) = w14 at hx hbn
     clear hW q0 q1 q2 q3 q4 q5 z0 z1 z2 z3 z4 z5
     have HB14 := Lib.hid hbn
     have HX14 := Lib.hid hx
     clear hx hbn
     refine hK.out _ _ (HX7.out _ HB14.out) (fun hHeld => ?_)
     clear hK Kx
     try simp only [Act.put, List.setIfInBounds_toArray, List.set_cons_zero, List.set_cons_succ]
     refine wpAnyH_take (i := 8) (v := ?_) (sd (some 12) rfl) (by kernel_rfl) (by kernel_rfl) (by kernel_rfl) (fun _ _ _ h => h) (Or.inl ⟨by rfl, ?_⟩) hHeld ?_
     rotate_left
     ·intro w' hSw
      (try dsimp only at hSw)
      go_simp
      try with_reducible rfl
     try simp only [Act.put, List.setIfInBounds_toArray, List.set_cons_zero, List.set_cons_succ]
     refine wpAnyH_done (by kernel_rfl) ?_ _
     clear hHeld
     go_upto_region 18 with fail
     have q0 := Lib.cell_of_heap HX14.out 0
     simp only [List.getElem?_toArray, List.getElem?_cons_zero] at q0
     go_wp2_with fail
     go_ret
     exact ⟨rfl, HBW7.out.trans (HB14.out.mono HBW7.out.size)⟩
    ·go_simp
     generalize hW : World.alloc w11 (.cells #[.int .i64 0, .string ⟨#[]⟩, .int .i64 0, .slice none 0 0, .slice none 0 0, .slice none 0 0] 26) = w12
     have hb : Below w11.heap.size w11 w12 := by rw [← hW]; exact (Below.refl w11.heap.size w11).alloc (Nat.le_refl _) _
     have hx : w12.heap[w11.heap.size]? = some (.cells #[.int .i64 0, .string ⟨#[]⟩, .int .i64 0, .slice none 0 0, .slice none 0 0, .slice none 0 0] 26 (0, 0)) := by rw [← hW]; exact heap_alloc_new (w11) _
     clear hW
     have HB12 := Lib.hid (HB11.out.trans (hb.mono HB11.out.size))
     have HX12 := Lib.hid hx
     clear hb hx
     refine hK.out _ _ (HX7.out _ HB12.out) (fun hHeld => ?_)
     clear hK Kx
     try simp only [Act.put, List.setIfInBounds_toArray, List.set_cons_zero, List.set_cons_succ]
     refine wpAnyH_ready (rs := [2]) (by kernel_rfl) (by simp) ?_
     refine AllReadyH.cons (sd (some 108) rfl) (fun Kx hK => ?_) AllReadyH.nil
     go_simp
     refine (KAt2.out _ HB12.out).mono ?_
     rintro e w13 ⟨rs, rfl, hra, hb⟩
     have HB13 := Lib.hid (HB12.out.trans (hb.mono HB12.out.size))
     have HX13 := Lib.hid (box_up hb (Array.getElem?_eq_some_iff.1 HX12.out).1 HX12.out)
     obtain ⟨Aq, cq, Ag, cg, Ah, ch, rfl, -⟩ := hra.inv
     simp only [cells6T, List.length_nil] at hra ⊢
     clear hra hb
     go_wp2_with fail
     refine hK.out _ _ (HX7.out _ HB13.out) (fun hHeld => ?_)
     clear hK Kx
     try simp only [Act.put, List.setIfInBounds_toArray, List.set_cons_zero, List.set_cons_succ]
     refine Plan.start [3, 4, 5] ?_
     iterate 3 ((refine Plan.take (v := ?_) (so rfl) (by kernel_rfl) (by kernel_rfl) (by kernel_rfl) (fun _ _ _ h => h) (Or.inl ⟨by rfl, ?_⟩) hHeld ?_; rotate_left; focus (intro w' hSw; (try dsimp only at hSw); go_simp; try with_reducible rfl)); try simp only [Act.put, List.setIfInBounds_toArray, List.set_cons_zero, List.set_cons_succ])
     refine Plan.done ?_
     refine wpAnyH_ready (rs := [7]) (by kernel_rfl) (by simp) ?_
     refine AllReadyH.cons (sd none rfl) (fun Kx hK => ?_) AllReadyH.nil
     go_simp
     have rb := HX13.out
     obtain ⟨q0, q1, q2, q3, q4, q5, z0, z1, z2, z3, z4, z5⟩ := qz6 rb
     clear rb
     go_simp
     have hx := six_set HX13.out (.int .i64 2) (.string emptyB) (.int .i64 0) (.slice Aq 0 cq) (.slice Ag 0 cg) (.slice Ah 0 ch)
     have hbn := set_six_below HB13.out ((HB11.out).size) (.int .i64 2) (.string emptyB) (.int .i64 0) (.slice Aq 0 cq) (.slice Ag 0 cg) (.slice Ah 0 ch)
     generalize hW : (World.setCell (World.setCell (World.setCell (World.setCell (World.setCell (World.setCell w13 ⟨w11.heap.size, 0, none⟩ (.int .i64 2)) ⟨w11.heap.size, 1, none⟩ (.string emptyB)) ⟨w11.heap.size, 2, none⟩ (.int .i64 0)) ⟨w11.heap.size, 3, none⟩ (.slice Aq 0 cq)) ⟨w11.heap.size, 4, none⟩ (.slice Ag 0 cg)) ⟨w11.heap.size, 5, none⟩ (.slice Ah 0 ch)) = w14 at hx hbn
     clear hW q0 q1 q2 q3 q4 q5 z0 z1 z2 z3 z4 z5
     have HB14 := Lib.hid hbn
     have HX14 := Lib.hid hx
     clear hx hbn
     refine hK.out _ _ (HX7.out _ HB14.out) (fun hHeld => ?_)
     clear hK Kx
     try simp only [Act.put, List.setIfInBounds_toArray, List.set_cons_zero, List.set_cons_succ]
     refine wpAnyH_take (i := 8) (v := ?_) (sd (some 12) rfl) (by kernel_rfl) (by kernel_rfl) (by kernel_rfl) (fun _ _ _ h => h) (Or.inl ⟨by rfl, ?_⟩) hHeld ?_
     rotate_left
     ·intro w' hSw
      (try dsimp only at hSw)
      go_simp
      try with_reducible rfl
     try simp only [Act.put, List.setIfInBounds_toArray, List.set_cons_zero, List.set_cons_succ]
     refine wpAnyH_done (by kernel_rfl) ?_ _
     clear hHeld
     go_upto_region 18 with fail
     have q0 := Lib.cell_of_heap HX14.out 0
     simp only [List.getElem?_toArray, List.getElem?_cons_zero] at q0
     go_wp2_with fail
     go_ret
     exact ⟨rfl, HBW7.out.trans (HB14.out.mono HBW7.out.size)⟩
   ·go_simp
    generalize hW : World.drew (World.alloc wr (.cells #[.int .i64 0, .string ⟨#[]⟩, .int .i64 0, .slice none 0 0, .slice none 0 0, .slice none 0 0] 26)) = w11
    have hb : Below wr.drew.heap.size wr.drew w11 := by rw [← hW]; exact (Below.refl wr.drew.heap.size wr.drew).alloc (Nat.le_refl _) _
    have hx : w11.heap[wr.heap.size]? = some (.cells #[.int .i64 0, .string ⟨#[]⟩, .int .i64 0, .slice none 0 0, .slice none 0 0, .slice none 0 0] 26 (0, 0)) := by rw [← hW]; exact heap_alloc_new (wr.drew) _
    clear hW
    have HB11 := Lib.hid (HB.out.drew.trans (hb.mono HB.out.drew.size))
    have HX11 := Lib.hid hx
    clear hb hx
    refine hK.out _ _ (HX7.out _ HB11.out) (fun hHeld => ?_)
    clear hK Kx
    try simp only [Act.put, List.setIfInBounds_toArray, List.set_cons_zero, List.set_cons_succ]
    refine wpAnyH_ready (rs := [1]) (by kernel_rfl) (by simp) ?_
    refine AllReadyH.cons (sd (some 107) rfl) (fun Kx hK => ?_) AllReadyH.nil
    go_simp
    refine (str13 _ _).mono ?_
    rintro e w12 ⟨rfl, hb⟩
    have HB12 := Lib.hid (HB11.out.trans (hb.mono HB11.out.size))
    have HX12 := Lib.hid (box_up hb (Array.getElem?_eq_some_iff.1 HX11.out).1 HX11.out)
    clear hb
    go_wp2_with fail
    refine hK.out _ _ (HX7.out _ HB12.out) (fun hHeld => ?_)
    clear hK Kx
    try simp only [Act.put, List.setIfInBounds_toArray, List.set_cons_zero, List.set_cons_succ]
    refine wpAnyH_ready (rs := [2]) (by kernel_rfl) (by simp) ?_
    refine AllReadyH.cons (sd (some 108) rfl) (fun Kx hK => ?_) AllReadyH.nil
    go_simp
    refine (KAt2.out _ HB12.out).mono ?_
    rintro e w13 ⟨rs, rfl, hra, hb⟩
    have HB13 := Lib.hid (HB12.out.trans (hb.mono HB12.out.size))
    have HX13 := Lib.hid (box_up hb (Array.getElem?_eq_some_iff.1 HX12.out).1 HX12.out)
    obtain ⟨Aq, cq, Ag, cg, Ah, ch, rfl, -⟩ := hra.inv
    simp only [cells6T, List.length_nil] at hra ⊢
    clear hra hb
    go_wp2_with fail
    refine hK.out _ _ (HX7.out _ HB13.out) (fun hHeld => ?_)
    clear hK Kx
    try simp only [Act.put, List.setIfInBounds_toArray, List.set_cons_zero, List.set_cons_succ]
    refine Plan.start [3, 4, 5] ?_
    iterate 3 ((refine Plan.take (v := ?_) (so rfl) (by kernel_rfl) (by kernel_rfl) (by kernel_rfl) (fun _ _ _ h => h) (Or.inl ⟨by rfl, ?_⟩) hHeld ?_; rotate_left; focus (intro w' hSw; (try dsimp only at hSw); go_simp; try with_reducible rfl)); try simp only [Act.put, List.setIfInBounds_toArray, List.set_cons_zero, List.set_cons_succ])
    refine Plan.done ?_
    refine wpAnyH_ready (rs := [7]) (by kernel_rfl) (by simp) ?_
    refine AllReadyH.cons (sd none rfl) (fun Kx hK => ?_) AllReadyH.nil
    go_simp
    have rb := HX13.out
    obtain ⟨q0, q1, q2, q3, q4, q5, z0, z1, z2, z3, z4, z5⟩ := qz6 rb
    clear rb
    go_simp
    have hx := six_set HX13.out (.int .i64 2) (.string emptyB) (.int .i64 0) (.slice Aq 0 cq) (.slice Ag 0 cg) (.slice Ah 0 ch)
    have hbn := set_six_below HB13.out (HB.out.size) (.int .i64 2) (.string emptyB) (.int .i64 0) (.slice Aq 0 cq) (.slice Ag 0 cg) (.slice Ah 0 ch)
    generalize hW : (World.setCell (World.setCell (World.setCell (World.setCell (World.setCell (World.setCell w13 ⟨wr.heap.size, 0, none⟩ (.int .i64 2)) ⟨wr.heap.size, 1, none⟩ (.string emptyB)) ⟨wr.heap.size, 2, none⟩ (.int .i64 0)) ⟨wr.heap.size, 3, none⟩ (.slice Aq 0 cq)) ⟨wr.heap.size, 4, none⟩ (.slice Ag 0 cg)) ⟨wr.heap.size, 5, none⟩ (.slice Ah 0 ch)) = w14 at hx hbn
    clear hW q0 q1 q2 q3 q4 q5 z0 z1 z2 z3 z4 z5
    have HB14 := Lib.hid hbn
    have HX14 := Lib.hid hx
    clear hx hbn
    refine hK.out _ _ (HX7.out _ HB14.out) (fun hHeld => ?_)
    clear hK Kx
    try simp only [Act.put, List.setIfInBounds_toArray, List.set_cons_zero, List.set_cons_succ]
    refine wpAnyH_take (i := 8) (v := ?_) (sd (some 12) rfl) (by kernel_rfl) (by kernel_rfl) (by kernel_rfl) (fun _ _ _ h => h) (Or.inl ⟨by rfl, ?_⟩) hHeld ?_
    rotate_left
    ·intro w' hSw
     (try dsimp only at hSw)
     go_simp
     try with_reducible rfl
    try simp only [Act.put, List.setIfInBounds_toArray, List.set_cons_zero, List.set_cons_succ]
    refine wpAnyH_done (by kernel_rfl) ?_ _
    clear hHeld
    go_upto_region 18 with fail
    have q0 := Lib.cell_of_heap HX14.out 0
    simp only [List.getElem?_toArray, List.getElem?_cons_zero] at q0
    go_wp2_with fail
    go_ret
    exact ⟨rfl, HBW7.out.trans (HB14.out.mono HBW7.out.size)⟩
theorem fields_walk {K : Nat → Prop} {w : World} {t : Ty} {cs : List Value} (hr : RepT K w t cs) : Calls Tryz.prog 3 #[.agg cs.toArray] w (fun e w' => e = .returned (.bool true) ∧ Below w.heap.size w w') := by
 obtain ⟨k, s, n, ps, fs, vs⟩ := t
 by_cases hsm : cntT (.mk k s n ps fs vs) ≤ 4096
 ·cases hf : formT (.mk k s n ps fs vs) with
  | false => exact fields_f k s n ps fs vs hr hsm hf
  | true =>
   by_cases hk : k = 14
   ·subst hk; exact fields_y s n ps fs vs hr hsm hf
   ·exact fields_k k s n ps fs vs hr hsm hf hk
 ·exact fields_s k s n ps fs vs hr hsm
end Go.Proofs.YtfchnfnifpopnaaGreatDoor
