import Derived.Test.YtogoolpgajopcaaTrGd
namespace Go.Proofs.Ytogoolpgajopcaa
open Go.RowKit
theorem part_at2 {w : World} {P : Fo} {A : Option Addr} (hH : Holds w w.heap.size P A 0) {j : Nat} (hj : j < P.len) : ∃ k t n m a Q ad A' c' R, A = some ad ∧ P.inf.drop j = mk k t n m Q.inf :: R ∧ R = P.inf.drop (j + 1) ∧ Part w P ad j k t n m a Q A' c' ∧ Holds w w.heap.size Q A' 0 ∧ Q.len ≤ c' ∧ c' ≤ 1000000000000000 := by
  obtain ⟨k, t, n, m, a, Q, R, ad, A', c', e, rfl, hblk, hcell, h1, h2, h3, h4⟩ := hH.node hj
  rw [Nat.zero_add] at hcell
  refine ⟨k, t, n, m, a, Q, ad, A', c', R.inf, rfl, by rw [← drop_inf, e]; rfl, ?_, ⟨fun W hW => six (w := W) (fun x u hu => (hW.cell (by rw [block_add, block_add]; exact hblk)).trans (hcell x u hu)), fun f p hall W hW => ?_⟩, h4, h1, h2⟩
  · have h5 : P.inf.drop j = (P.drop j).inf := (drop_inf P j).symm
    rw [e] at h5
    rw [← List.drop_drop, h5]; rfl
  · have h5 := hall.drop j
    rw [e] at h5
    have K := h5.1 k t n m a A' c' W ((h4.below hW).more hW.size) h1 h2 h3
    simpa only [val6, cells6] using K
set_option maxRecDepth 100000 in
set_option maxHeartbeats 8000000 in
theorem rclass_b (P : Fo) (t : ByteArray) (m a : Int) (i : Nat) (A : Option Addr) (c : Nat) (w : World) (hH : Holds w w.heap.size P A 0) (hlc : P.len ≤ c) (hcc : c ≤ 1000000000000000) (hp : timesB (·.par) P.inf i = true) (hx : runN 16 P.inf = i) (hi : i < P.len) (hk : hd75 (P.inf.drop i) = false) :
    Calls Try.prog 85 #[.agg #[.int .i64 76, .string t, .int .i64 i, .int .i64 m, .int .i64 a, .slice A P.len c]] w fun e w' => e = .returned (.bool (classT P.inf i)) ∧ Below w.heap.size w w' := by
  have hl : P.len ≤ 1000000000000000 := by omega
  have hp0 : i ≤ P.len := by omega
  obtain ⟨y, hy⟩ : ∃ y, (classT P.inf i) = y := ⟨_, rfl⟩
  rw [hy]
  obtain ⟨k1, t1, n1, m1, a1, Q1, ad, A1, d1, R1, rfl, hd1, -, hP1, hH1, hq1, hq2⟩ := part_at2 hH hi
  have FX1 : Hid (∀ W, Below w.heap.size w W → At6 W (ad.add (i * 6)) k1 t1 n1 m1 a1 Q1.len A1 d1) := Lib.hid (fun W hW => hP1.cells W hW)
  unfold At6 at FX1
  have tl : decide ((i : Int) < (P.len : Int)) = true := by simp; omega
  have tl2 : decide (i < P.len) = true := by simp; omega
  have HYt : Hid (restS P.inf 0 i = y) := Lib.hid hy
  have hk1 : k1 ≠ 75 := by rw [hd1] at hk; simpa [hd75, mk] using hk
  have tk : (k1 == 75) = false := beq_eq_false_iff_ne.2 hk1
  clear hy hk hd1 hP1 hH1 hq1 hq2 hk1
  have tq : (((i : Nat) : Int) != (i : Int)) = false := by simp
  go_enter Try.func85, Try.ntmps85
  go_wp2_with fail
  generalize hW1 : World.alloc w _ = W1
  have hB1 : Below w.heap.size w W1 := by rw [← hW1]; exact (Below.refl _ _).alloc (Nat.le_refl _) _
  have hX1 : Box w w.heap.size 76 t i m a P.len (some ad) c W1 := by rw [← hW1]; exact Box.new _ _ _ _ _ _ _ _ _
  have HB1 := Lib.hid hB1
  have KP := Lib.hid (fun w' (h : BD W1 w') => rpars_any P (allrPa P) i (some ad) c w' ((hH.below (below_step hB1 h)).more (below_step hB1 h).size) hl)
  rw [show parsB P.inf i = true from hp] at KP
  have KR := Lib.hid (fun w' (h : BD W1 w') => run_any P 16 0 (some ad) c w' ((hH.below (below_step hB1 h)).more (below_step hB1 h).size) (Nat.zero_le _) hl)
  rw [List.drop_zero, hx] at KR
  have MK := Lib.hid (show ∀ w', BD W1 w' → (fun w' => BD W1 w' ∧ w'.cell? ⟨w.heap.size, 0, none⟩ = some (.int .i64 76) ∧ w'.cell? ⟨w.heap.size, 1, none⟩ = some (.string t) ∧ w'.cell? ⟨w.heap.size, 2, none⟩ = some (.int .i64 i) ∧ w'.cell? ⟨w.heap.size, 3, none⟩ = some (.int .i64 m) ∧ w'.cell? ⟨w.heap.size, 4, none⟩ = some (.int .i64 a) ∧ w'.cell? ⟨w.heap.size, 5, none⟩ = some (.slice (some ad) P.len c)) w' from fun w' h => ⟨h, (hX1.later h).c0, (hX1.later h).c1, (hX1.later h).c2, (hX1.later h).c3, (hX1.later h).c4, (hX1.later h).c5⟩)
  have B0 := MK.out _ (Below.drew (Below.refl _ _))
  have HH := Lib.hid hH
  clear hB1 hX1 hW1 hH hp
  refine wp_region_held_drew (S := (fun w' => BD W1 w' ∧ w'.cell? ⟨w.heap.size, 0, none⟩ = some (.int .i64 76) ∧ w'.cell? ⟨w.heap.size, 1, none⟩ = some (.string t) ∧ w'.cell? ⟨w.heap.size, 2, none⟩ = some (.int .i64 i) ∧ w'.cell? ⟨w.heap.size, 3, none⟩ = some (.int .i64 m) ∧ w'.cell? ⟨w.heap.size, 4, none⟩ = some (.int .i64 a) ∧ w'.cell? ⟨w.heap.size, 5, none⟩ = some (.slice (some ad) P.len c))) (by kernel_rfl) B0 (fun hHeld => ?_)
  refine wpAnyH_take (i := 0) (v := ?_) (show _ = some { dst := some 13, op := _, type := _, pos := _, after := _, guard := _ } from rfl) (by kernel_rfl) (by kernel_rfl) (by kernel_rfl) (fun _ _ _ h => h) (Or.inl ⟨by rfl, ?_⟩) hHeld ?_
  rotate_left
  · intro w' hSw
    (try dsimp only at hSw)
    go_simp
    try with_reducible rfl
  try simp only [Act.put, List.setIfInBounds_toArray, List.set_cons_zero, List.set_cons_succ]
  refine wpAnyH_take (i := 1) (v := ?_) (show _ = some { dst := some 14, op := _, type := _, pos := _, after := _, guard := _ } from rfl) (by kernel_rfl) (by kernel_rfl) (by kernel_rfl) (fun _ _ _ h => h) (Or.inl ⟨by rfl, ?_⟩) hHeld ?_
  rotate_left
  · intro w' hSw
    (try dsimp only at hSw)
    go_simp
    try with_reducible rfl
  try simp only [Act.put, List.setIfInBounds_toArray, List.set_cons_zero, List.set_cons_succ]
  refine wpAnyH_take (i := 2) (v := ?_) (show _ = some { dst := some 15, op := _, type := _, pos := _, after := _, guard := _ } from rfl) (by kernel_rfl) (by kernel_rfl) (by kernel_rfl) (fun _ _ _ h => h) (Or.inl ⟨by rfl, ?_⟩) hHeld ?_
  rotate_left
  · intro w' hSw
    (try dsimp only at hSw)
    go_simp
    try with_reducible rfl
  try simp only [Act.put, List.setIfInBounds_toArray, List.set_cons_zero, List.set_cons_succ]
  refine wpAnyH_ready (rs := [3]) (by kernel_rfl) (by simp) ?_
  refine AllReadyH.cons (show _ = some { dst := some 16, op := _, type := _, pos := _, after := _, guard := _ } from rfl) (fun K hK => ?_) AllReadyH.nil
  go_simp
  refine (KP.out _ hHeld.1).mono ?_
  rintro e w5 ⟨rfl, hb⟩
  go_wp2_with fail
  refine hK.out _ _ (MK.out _ (below_step hHeld.1 hb)) (fun hHeld => ?_)
  clear hK K
  try simp only [Act.put, List.setIfInBounds_toArray, List.set_cons_zero, List.set_cons_succ]
  refine wpAnyH_take (i := 4) (v := ?_) (show _ = some { dst := some 17, op := _, type := _, pos := _, after := _, guard := _ } from rfl) (by kernel_rfl) (by kernel_rfl) (by kernel_rfl) (fun _ _ _ h => h) (Or.inl ⟨by rfl, ?_⟩) hHeld ?_
  rotate_left
  · intro w' hSw
    (try dsimp only at hSw)
    go_simp
    try with_reducible rfl
  try simp only [Act.put, List.setIfInBounds_toArray, List.set_cons_zero, List.set_cons_succ]
  refine wpAnyH_take (i := 5) (v := ?_) (show _ = some { dst := some 18, op := _, type := _, pos := _, after := _, guard := _ } from rfl) (by kernel_rfl) (by kernel_rfl) (by kernel_rfl) (fun _ _ _ h => h) (Or.inl ⟨by rfl, ?_⟩) hHeld ?_
  rotate_left
  · intro w' hSw
    (try dsimp only at hSw)
    go_simp
    try with_reducible rfl
  try simp only [Act.put, List.setIfInBounds_toArray, List.set_cons_zero, List.set_cons_succ]
  refine wpAnyH_take (i := 6) (v := ?_) (show _ = some { dst := some 19, op := _, type := _, pos := _, after := _, guard := _ } from rfl) (by kernel_rfl) (by kernel_rfl) (by kernel_rfl) (fun _ _ _ h => h) (Or.inl ⟨by rfl, ?_⟩) hHeld ?_
  rotate_left
  · intro w' hSw
    (try dsimp only at hSw)
    go_simp
    try with_reducible rfl
  try simp only [Act.put, List.setIfInBounds_toArray, List.set_cons_zero, List.set_cons_succ]
  refine wpAnyH_take (i := 8) (v := ?_) (show _ = some { dst := some 21, op := _, type := _, pos := _, after := _, guard := _ } from rfl) (by kernel_rfl) (by kernel_rfl) (by kernel_rfl) (fun _ _ _ h => h) (Or.inl ⟨by rfl, ?_⟩) hHeld ?_
  rotate_left
  · intro w' hSw
    (try dsimp only at hSw)
    go_simp
    try with_reducible rfl
  try simp only [Act.put, List.setIfInBounds_toArray, List.set_cons_zero, List.set_cons_succ]
  refine wpAnyH_take (i := 9) (v := ?_) (show _ = some { dst := some 22, op := _, type := _, pos := _, after := _, guard := _ } from rfl) (by kernel_rfl) (by kernel_rfl) (by kernel_rfl) (fun _ _ _ h => h) (Or.inl ⟨by rfl, ?_⟩) hHeld ?_
  rotate_left
  · intro w' hSw
    (try dsimp only at hSw)
    go_simp
    try with_reducible rfl
  try simp only [Act.put, List.setIfInBounds_toArray, List.set_cons_zero, List.set_cons_succ]
  refine wpAnyH_ready (rs := [7]) (by kernel_rfl) (by simp) ?_
  refine AllReadyH.cons (show _ = some { dst := some 20, op := _, type := _, pos := _, after := _, guard := _ } from rfl) (fun K hK => ?_) AllReadyH.nil
  go_simp
  refine (KR.out _ hHeld.1).mono ?_
  rintro e w6 ⟨rfl, rfl⟩
  go_wp2_with fail
  refine hK.out _ _ (hHeld) (fun hHeld => ?_)
  clear hK K
  try simp only [Act.put, List.setIfInBounds_toArray, List.set_cons_zero, List.set_cons_succ]
  refine wpAnyH_take (i := 10) (v := ?_) (show _ = some { dst := some 23, op := _, type := _, pos := _, after := _, guard := _ } from rfl) (by kernel_rfl) (by kernel_rfl) (by kernel_rfl) (fun _ _ _ h => h) (Or.inl ⟨by rfl, ?_⟩) hHeld ?_
  rotate_left
  · intro w' hSw
    (try dsimp only at hSw)
    go_simp
    try with_reducible rfl
  try simp only [Act.put, List.setIfInBounds_toArray, List.set_cons_zero, List.set_cons_succ]
  refine wpAnyH_take (i := 11) (v := ?_) (show _ = some { dst := some 24, op := _, type := _, pos := _, after := _, guard := _ } from rfl) (by kernel_rfl) (by kernel_rfl) (by kernel_rfl) (fun _ _ _ h => h) (Or.inl ⟨by rfl, ?_⟩) hHeld ?_
  rotate_left
  · intro w' hSw
    (try dsimp only at hSw)
    go_simp
    try with_reducible rfl
  try simp only [Act.put, List.setIfInBounds_toArray, List.set_cons_zero, List.set_cons_succ]
  refine wpAnyH_done (by kernel_rfl) ?_ _
  have hS5 := hHeld
  clear hHeld
  have HB5 := Lib.hid (below_step HB1.out hS5.1)
  obtain ⟨-, c0, c1, c2, c3, c4, c5⟩ := hS5
  obtain ⟨f0, f1, f2, f3, f4, f5⟩ := FX1.out _ HB5.out
  clear f1 f2 f3 f4 f5
  have HKn := Lib.hid (Kin.new w5 34)
  have HBn := Lib.hid (HB5.out.alloc (HB5.out.size) (.cells #[.int .i64 77, .int .i64 78, .int .i64 79] 34))
  obtain ⟨g, hg⟩ : ∃ g, w5.heap.size = g := ⟨_, rfl⟩
  go_wp2_with fail
  go_loopw [4, 7] (fun v4 v7 wr => ∃ (s p : Nat), s ≤ 3 ∧ p ≤ P.len ∧ v7 = .int .i64 s ∧ v4 = .int .i64 p ∧ restS P.inf s p = y ∧ Kin w5.heap.size wr ∧ Below w.heap.size w wr) (fun _ v7 _ => 3 - (intOf v7).toNat)
  case atStart => exact ⟨0, i, by omega, hp0, by go_num, by go_num, HYt.out, HKn.out, HBn.out⟩
  case round =>
    obtain ⟨s, p, hs, hp, rfl, rfl, hrs, hKi, hB⟩ := hrel
    rw [hg] at hKi
    clear HKn HBn HYt
    have HKin := Lib.hid hKi
    have HBw := Lib.hid hB
    have HR := Lib.hid hrs
    clear hrs hKi hB
    rcases (by omega : s = 0 ∨ s = 1 ∨ s = 2 ∨ s = 3) with rfl | rfl | rfl | rfl
    · rw [show ((0 : Nat) : Int) = 0 from rfl]
      have KRn := Lib.hid (run_any P 77 p (some ad) c wr ((HH.out.below HBw.out).more HBw.out.size) hp hl)
      have HYs : Hid ((runB 77 (·.refs) (P.inf.drop p) && restS P.inf 1 (p + runN 77 (P.inf.drop p))) = y) := HR
      rw [runB_take] at HYs
      have hr : runN 77 (P.inf.drop p) ≤ P.len - p := by have := runN_le 77 (P.inf.drop p); simpa [inf_len] using this
      clear HR
      generalize runN 77 (P.inf.drop p) = r at *
      have hG : ((P.drop p).take r).len = r := take_len _ _ (by rw [drop_len]; exact hr)
      have hGi : ((P.drop p).take r).inf = (P.inf.drop p).take r := by rw [take_inf, drop_inf]
      rw [← hGi] at HYs
      obtain ⟨gv, hgv⟩ : ∃ gv, ((P.drop p).take r).inf.all (·.refs) = gv := ⟨_, rfl⟩
      rw [hgv] at HYs
      have HG := Lib.hid hgv
      have HL : Hid (AllC (FunP 96 (·.refs)) ((P.drop p).take r)) := Lib.hid (((allrO P).drop p).take r)
      have HHG : Hid (Holds wr w.heap.size ((P.drop p).take r) (some ad) p) := Lib.hid (by
        have h := ((HH.out.below HBw.out).drop p).take r
        rwa [Nat.zero_add] at h)
      clear hgv hGi hG
      have k0 := HKin.out.k0
      obtain ⟨wo, rfl⟩ : ∃ wo : World, wo = wr := ⟨_, rfl⟩
      go_wp2_with (go_at_call 82; refine KRn.out.mono ?_; rintro e w2 ⟨rfl, rfl⟩)
      go_loopw [9] (fun v wr => ∃ (j : Nat) (Q : Fo), j + Q.len = p + r ∧ v = .int .i64 j ∧ Q.inf.all (·.refs) = gv ∧ AllC (FunP 96 (·.refs)) Q ∧ Holds wr w.heap.size Q (some ad) j ∧ Kin g wr ∧ Below w.heap.size w wr) (fun v _ => p + r - (intOf v).toNat)
      case atStart => exact ⟨p, (P.drop p).take r, by rw [take_len _ _ (by rw [drop_len]; exact hr)], rfl, HG.out, HL.out, HHG.out, HKin.out, HBw.out⟩
      case round =>
        obtain ⟨j, Q, hj, rfl, hq, hlf, hHr, hKi, hB⟩ := hrel
        clear k0 HKin HBw HHG HG HL KRn
        have HKin := Lib.hid hKi
        have HBw := Lib.hid hB
        have HQ := Lib.hid hq
        clear hq hKi hB
        cases Q with
        | nil =>
          have tj : decide ((j : Int) < (p : Int) + (r : Int)) = false := by simp; simp [Fo.len] at hj; omega
          have tj2 : decide (j < p + r) = false := by simp; simp [Fo.len] at hj; omega
          have HYn : Hid (restS P.inf 1 (p + r) = y) := Lib.hid (by rw [← HYs.out, ← HQ.out]; rfl)
          clear hj hlf hHr HQ HYs
          go_wp2_with fail
          go_roundw
          case rel => first | exact ⟨1, p + r, by omega, by omega, by go_num, by go_num, HYn.out, (by rw [hg]; exact HKin.out), HBw.out⟩ | ((repeat apply Exists.intro); exact ⟨⟨1, p + r, by omega, by omega, by go_num, by go_num, HYn.out, (by rw [hg]; exact HKin.out), HBw.out⟩, rfl⟩)
          case measure => simp [intOf]
        | cons k1 t1 n1 m1 a1 P1 R1 =>
          obtain ⟨⟨ad9, A1, c1, hA9, hblk, hcell, hc1, hc2, ht1, hP1⟩, hR1⟩ := hHr
          cases hA9
          obtain ⟨hf1, hlf⟩ := hlf
          have hjl : j + 1 + R1.len = p + r := by simp only [Fo.len] at hj; omega
          have hjl2 : j < p + r := by omega
          have hjl3 : j < P.len := by omega
          have tj : decide ((j : Int) < (p : Int) + (r : Int)) = true := by simp; omega
          obtain ⟨f0, f1, f2, f3, f4, f5⟩ := six hcell
          have hwr := HBw.out.size
          have K := Lib.hid (hf1 k1 t1 n1 m1 a1 A1 c1 _ (hP1.more hwr) hc1 hc2 ht1)
          simp only [val6, cells6] at K
          have HQ2 : Hid (((mk k1 t1 n1 m1 P1.inf).refs && R1.inf.all (·.refs)) = gv) := Lib.hid (by rw [← HQ.out]; simp [Fo.inf])
          have HR1 := Lib.hid hR1
          have HLF := Lib.hid hlf
          generalize (mk k1 t1 n1 m1 P1.inf).refs = b at *
          clear hcell hR1 hlf hj hP1 hf1 HQ
          go_wp2_with fail
          refine K.out.mono ?_
          rintro e w2 ⟨rfl, hb⟩
          have HB3 := Lib.hid hb
          have HKin3 := Lib.hid (HKin.out.later hb)
          have HH2 := Lib.hid (HR1.out.below (HB3.out.mono HBw.out.size))
          clear hb
          cases b with
          | false =>
            have HD : Hid (gv = false) := Lib.hid (by rw [← HQ2.out]; rfl)
            go_wp2_with fail
            go_ret
            exact ⟨ret_bool (by rw [← HYs.out, HD.out]; rfl), below_step HBw.out HB3.out⟩
          | true =>
            have HD : Hid (R1.inf.all (·.refs) = gv) := Lib.hid (by rw [← HQ2.out]; rfl)
            go_wp2_with fail
            go_roundw
            case rel => exact ⟨j + 1, R1, hjl, by go_num, HD.out, HLF.out, HH2.out, HKin3.out, below_step HBw.out HB3.out⟩
            case measure => simp [intOf]; omega
    · rw [show ((1 : Nat) : Int) = 1 from rfl]
      have KRn := Lib.hid (run_any P 78 p (some ad) c wr ((HH.out.below HBw.out).more HBw.out.size) hp hl)
      have HYs : Hid ((runB 78 (·.hold) (P.inf.drop p) && restS P.inf 2 (p + runN 78 (P.inf.drop p))) = y) := HR
      rw [runB_take] at HYs
      have hr : runN 78 (P.inf.drop p) ≤ P.len - p := by have := runN_le 78 (P.inf.drop p); simpa [inf_len] using this
      clear HR
      generalize runN 78 (P.inf.drop p) = r at *
      have hG : ((P.drop p).take r).len = r := take_len _ _ (by rw [drop_len]; exact hr)
      have hGi : ((P.drop p).take r).inf = (P.inf.drop p).take r := by rw [take_inf, drop_inf]
      rw [← hGi] at HYs
      obtain ⟨gv, hgv⟩ : ∃ gv, ((P.drop p).take r).inf.all (·.hold) = gv := ⟨_, rfl⟩
      rw [hgv] at HYs
      have HG := Lib.hid hgv
      have HL : Hid (AllC (FunP 97 (·.hold)) ((P.drop p).take r)) := Lib.hid (((allrH P).drop p).take r)
      have HHG : Hid (Holds wr w.heap.size ((P.drop p).take r) (some ad) p) := Lib.hid (by
        have h := ((HH.out.below HBw.out).drop p).take r
        rwa [Nat.zero_add] at h)
      clear hgv hGi hG
      have k1 := HKin.out.k1
      obtain ⟨wo, rfl⟩ : ∃ wo : World, wo = wr := ⟨_, rfl⟩
      go_wp2_with (go_at_call 82; refine KRn.out.mono ?_; rintro e w2 ⟨rfl, rfl⟩)
      go_loopw [9] (fun v wr => ∃ (j : Nat) (Q : Fo), j + Q.len = p + r ∧ v = .int .i64 j ∧ Q.inf.all (·.hold) = gv ∧ AllC (FunP 97 (·.hold)) Q ∧ Holds wr w.heap.size Q (some ad) j ∧ Kin g wr ∧ Below w.heap.size w wr) (fun v _ => p + r - (intOf v).toNat)
      case atStart => exact ⟨p, (P.drop p).take r, by rw [take_len _ _ (by rw [drop_len]; exact hr)], rfl, HG.out, HL.out, HHG.out, HKin.out, HBw.out⟩
      case round =>
        obtain ⟨j, Q, hj, rfl, hq, hlf, hHr, hKi, hB⟩ := hrel
        clear k1 HKin HBw HHG HG HL KRn
        have HKin := Lib.hid hKi
        have HBw := Lib.hid hB
        have HQ := Lib.hid hq
        clear hq hKi hB
        cases Q with
        | nil =>
          have tj : decide ((j : Int) < (p : Int) + (r : Int)) = false := by simp; simp [Fo.len] at hj; omega
          have tj2 : decide (j < p + r) = false := by simp; simp [Fo.len] at hj; omega
          have HYn : Hid (restS P.inf 2 (p + r) = y) := Lib.hid (by rw [← HYs.out, ← HQ.out]; rfl)
          clear hj hlf hHr HQ HYs
          go_wp2_with fail
          go_roundw
          case rel => first | exact ⟨2, p + r, by omega, by omega, by go_num, by go_num, HYn.out, (by rw [hg]; exact HKin.out), HBw.out⟩ | ((repeat apply Exists.intro); exact ⟨⟨2, p + r, by omega, by omega, by go_num, by go_num, HYn.out, (by rw [hg]; exact HKin.out), HBw.out⟩, rfl⟩)
          case measure => simp [intOf]
        | cons k1 t1 n1 m1 a1 P1 R1 =>
          obtain ⟨⟨ad9, A1, c1, hA9, hblk, hcell, hc1, hc2, ht1, hP1⟩, hR1⟩ := hHr
          cases hA9
          obtain ⟨hf1, hlf⟩ := hlf
          have hjl : j + 1 + R1.len = p + r := by simp only [Fo.len] at hj; omega
          have hjl2 : j < p + r := by omega
          have hjl3 : j < P.len := by omega
          have tj : decide ((j : Int) < (p : Int) + (r : Int)) = true := by simp; omega
          obtain ⟨f0, f1, f2, f3, f4, f5⟩ := six hcell
          have hwr := HBw.out.size
          have K := Lib.hid (hf1 k1 t1 n1 m1 a1 A1 c1 _ (hP1.more hwr) hc1 hc2 ht1)
          simp only [val6, cells6] at K
          have HQ2 : Hid (((mk k1 t1 n1 m1 P1.inf).hold && R1.inf.all (·.hold)) = gv) := Lib.hid (by rw [← HQ.out]; simp [Fo.inf])
          have HR1 := Lib.hid hR1
          have HLF := Lib.hid hlf
          generalize (mk k1 t1 n1 m1 P1.inf).hold = b at *
          clear hcell hR1 hlf hj hP1 hf1 HQ
          go_wp2_with fail
          refine K.out.mono ?_
          rintro e w2 ⟨rfl, hb⟩
          have HB3 := Lib.hid hb
          have HKin3 := Lib.hid (HKin.out.later hb)
          have HH2 := Lib.hid (HR1.out.below (HB3.out.mono HBw.out.size))
          clear hb
          cases b with
          | false =>
            have HD : Hid (gv = false) := Lib.hid (by rw [← HQ2.out]; rfl)
            go_wp2_with fail
            go_ret
            exact ⟨ret_bool (by rw [← HYs.out, HD.out]; rfl), below_step HBw.out HB3.out⟩
          | true =>
            have HD : Hid (R1.inf.all (·.hold) = gv) := Lib.hid (by rw [← HQ2.out]; rfl)
            go_wp2_with fail
            go_roundw
            case rel => exact ⟨j + 1, R1, hjl, by go_num, HD.out, HLF.out, HH2.out, HKin3.out, below_step HBw.out HB3.out⟩
            case measure => simp [intOf]; omega
    · rw [show ((2 : Nat) : Int) = 2 from rfl]
      have KRn := Lib.hid (run_any P 79 p (some ad) c wr ((HH.out.below HBw.out).more HBw.out.size) hp hl)
      have HYs : Hid ((runB 79 (·.meth) (P.inf.drop p) && restS P.inf 3 (p + runN 79 (P.inf.drop p))) = y) := HR
      rw [runB_take] at HYs
      have hr : runN 79 (P.inf.drop p) ≤ P.len - p := by have := runN_le 79 (P.inf.drop p); simpa [inf_len] using this
      clear HR
      generalize runN 79 (P.inf.drop p) = r at *
      have hG : ((P.drop p).take r).len = r := take_len _ _ (by rw [drop_len]; exact hr)
      have hGi : ((P.drop p).take r).inf = (P.inf.drop p).take r := by rw [take_inf, drop_inf]
      rw [← hGi] at HYs
      obtain ⟨gv, hgv⟩ : ∃ gv, ((P.drop p).take r).inf.all (·.meth) = gv := ⟨_, rfl⟩
      rw [hgv] at HYs
      have HG := Lib.hid hgv
      have HL : Hid (AllC (FunP 98 (·.meth)) ((P.drop p).take r)) := Lib.hid (((allrMe P).drop p).take r)
      have HHG : Hid (Holds wr w.heap.size ((P.drop p).take r) (some ad) p) := Lib.hid (by
        have h := ((HH.out.below HBw.out).drop p).take r
        rwa [Nat.zero_add] at h)
      clear hgv hGi hG
      have k2 := HKin.out.k2
      obtain ⟨wo, rfl⟩ : ∃ wo : World, wo = wr := ⟨_, rfl⟩
      go_wp2_with (go_at_call 82; refine KRn.out.mono ?_; rintro e w2 ⟨rfl, rfl⟩)
      go_loopw [9] (fun v wr => ∃ (j : Nat) (Q : Fo), j + Q.len = p + r ∧ v = .int .i64 j ∧ Q.inf.all (·.meth) = gv ∧ AllC (FunP 98 (·.meth)) Q ∧ Holds wr w.heap.size Q (some ad) j ∧ Kin g wr ∧ Below w.heap.size w wr) (fun v _ => p + r - (intOf v).toNat)
      case atStart => exact ⟨p, (P.drop p).take r, by rw [take_len _ _ (by rw [drop_len]; exact hr)], rfl, HG.out, HL.out, HHG.out, HKin.out, HBw.out⟩
      case round =>
        obtain ⟨j, Q, hj, rfl, hq, hlf, hHr, hKi, hB⟩ := hrel
        clear k2 HKin HBw HHG HG HL KRn
        have HKin := Lib.hid hKi
        have HBw := Lib.hid hB
        have HQ := Lib.hid hq
        clear hq hKi hB
        cases Q with
        | nil =>
          have tj : decide ((j : Int) < (p : Int) + (r : Int)) = false := by simp; simp [Fo.len] at hj; omega
          have tj2 : decide (j < p + r) = false := by simp; simp [Fo.len] at hj; omega
          have HYn : Hid (restS P.inf 3 (p + r) = y) := Lib.hid (by rw [← HYs.out, ← HQ.out]; rfl)
          clear hj hlf hHr HQ HYs
          go_wp2_with fail
          go_roundw
          case rel => first | exact ⟨3, p + r, by omega, by omega, by go_num, by go_num, HYn.out, (by rw [hg]; exact HKin.out), HBw.out⟩ | ((repeat apply Exists.intro); exact ⟨⟨3, p + r, by omega, by omega, by go_num, by go_num, HYn.out, (by rw [hg]; exact HKin.out), HBw.out⟩, rfl⟩)
          case measure => simp [intOf]
        | cons k1 t1 n1 m1 a1 P1 R1 =>
          obtain ⟨⟨ad9, A1, c1, hA9, hblk, hcell, hc1, hc2, ht1, hP1⟩, hR1⟩ := hHr
          cases hA9
          obtain ⟨hf1, hlf⟩ := hlf
          have hjl : j + 1 + R1.len = p + r := by simp only [Fo.len] at hj; omega
          have hjl2 : j < p + r := by omega
          have hjl3 : j < P.len := by omega
          have tj : decide ((j : Int) < (p : Int) + (r : Int)) = true := by simp; omega
          obtain ⟨f0, f1, f2, f3, f4, f5⟩ := six hcell
          have hwr := HBw.out.size
          have K := Lib.hid (hf1 k1 t1 n1 m1 a1 A1 c1 _ (hP1.more hwr) hc1 hc2 ht1)
          simp only [val6, cells6] at K
          have HQ2 : Hid (((mk k1 t1 n1 m1 P1.inf).meth && R1.inf.all (·.meth)) = gv) := Lib.hid (by rw [← HQ.out]; simp [Fo.inf])
          have HR1 := Lib.hid hR1
          have HLF := Lib.hid hlf
          generalize (mk k1 t1 n1 m1 P1.inf).meth = b at *
          clear hcell hR1 hlf hj hP1 hf1 HQ
          go_wp2_with fail
          refine K.out.mono ?_
          rintro e w2 ⟨rfl, hb⟩
          have HB3 := Lib.hid hb
          have HKin3 := Lib.hid (HKin.out.later hb)
          have HH2 := Lib.hid (HR1.out.below (HB3.out.mono HBw.out.size))
          clear hb
          cases b with
          | false =>
            have HD : Hid (gv = false) := Lib.hid (by rw [← HQ2.out]; rfl)
            go_wp2_with fail
            go_ret
            exact ⟨ret_bool (by rw [← HYs.out, HD.out]; rfl), below_step HBw.out HB3.out⟩
          | true =>
            have HD : Hid (R1.inf.all (·.meth) = gv) := Lib.hid (by rw [← HQ2.out]; rfl)
            go_wp2_with fail
            go_roundw
            case rel => exact ⟨j + 1, R1, hjl, by go_num, HD.out, HLF.out, HH2.out, HKin3.out, below_step HBw.out HB3.out⟩
            case measure => simp [intOf]; omega
    · rw [show ((3 : Nat) : Int) = 3 from rfl]
      have HYn : Hid (decide (p = P.len) = y) := Lib.hid (by have h := HR.out; rw [← inf_len]; exact h)
      clear HR
      by_cases hpe : p = P.len
      · have t1 : (((p : Nat) : Int) == (P.len : Int)) = true := by simp; omega
        rw [decide_eq_true hpe] at HYn
        clear hpe
        go_wp2_with fail
        go_ret
        exact ⟨ret_bool HYn.out, HBw.out⟩
      · have t1 : (((p : Nat) : Int) == (P.len : Int)) = false := by simp; omega
        rw [decide_eq_false hpe] at HYn
        clear hpe
        go_wp2_with fail
        go_ret
        exact ⟨ret_bool HYn.out, HBw.out⟩
end Go.Proofs.Ytogoolpgajopcaa
