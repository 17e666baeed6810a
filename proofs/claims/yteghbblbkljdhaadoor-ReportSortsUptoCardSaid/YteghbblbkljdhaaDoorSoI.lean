import Derived.Test.YteghbblbkljdhaaDoorSoH
namespace Go.Proofs.YteghbblbkljdhaaDoor
open Go.RowKit
set_option maxRecDepth 100000 in
set_option maxHeartbeats 4000000 in
theorem merge_b (g N c a m b : Nat) (hm : b = m + 1) (f : Nat → DiagD) (w : World) (h : Row w g N f) (hg : g < w.heap.size) (ham : a + 1 < m) (hb : b ≤ N) (hN : N ≤ 1000000) (_hc : N ≤ c) (hs : Srt ltD f a m) :
    Calls Tryd.prog 73 #[.slice (some ⟨g, 0, none⟩) N c, .int .i64 a, .int .i64 m, .int .i64 b, cmpV] w fun e w' => e = .returned (.tuple #[]) ∧ ∃ f', Row w' g N f' ∧ Seg N a b f f' ∧ Srt ltD f' a b ∧ Kp (fun k => k ≠ g) w w' := by
  have HR := Lib.hid h
  have HGw := Lib.hid hg
  have HS := Lib.hid hs
  have t0 : ((m : Int) - (a : Int) == 1) = false := by simp; omega
  have t1 : ((b : Int) - (m : Int) == 1) = true := by simp; omega
  have HM := Lib.hid hm
  have hmb : m < b := by omega
  clear h hg hs hm
  unfold cmpV
  go_enter Tryd.func73, Tryd.ntmps73
  go_wp2_with fail
  go_loopw [14, 15] (fun v u wr => ∃ i j : Nat, a ≤ i ∧ i ≤ j ∧ j ≤ m ∧ v = .int .i64 i ∧ u = .int .i64 j ∧ (∀ k, a ≤ k → k < i → ¬ ltD (f m) (f k)) ∧ (∀ k, j ≤ k → k < m → ltD (f m) (f k)) ∧ Row wr g N f ∧ Kp (fun k => k ≠ g) w wr) (fun v u _ => (intOf u).toNat - (intOf v).toNat)
  case atStart => exact ⟨a, m, by omega, by omega, by omega, rfl, rfl, fun k h1 h2 => by omega, fun k h1 h2 => by omega, HR.out, Kp.refl _ _⟩
  case round =>
    obtain ⟨i, j, hi, hij, hjb, rfl, rfl, hlo, hhi, hr, hk⟩ := hrel
    have HLo := Lib.hid hlo
    have HHi := Lib.hid hhi
    have HRi := Lib.hid hr
    have HK := Lib.hid hk
    clear hlo hhi hr hk
    by_cases hlt : i < j
    case neg =>
      obtain rfl : i = j := by omega
      have tl : decide ((i : Int) < (i : Int)) = false := by simp
      go_wp2_with fail
      go_loopw [17] (fun v wr2 => ∃ k : Nat, i ≤ k ∧ k ≤ m ∧ v = .int .i64 k ∧ Row wr2 g N (shr f k m) ∧ Seg N a b f (shr f k m) ∧ Kp (fun k => k ≠ g) w wr2) (fun v _ => (intOf v).toNat)
      case atStart => exact ⟨m, by omega, by omega, rfl, by rw [shr_start]; exact HRi.out, by rw [shr_start]; exact Seg.refl _ _ _ _, HK.out⟩
      case round =>
        obtain ⟨k, hik, hkm, rfl, hr2, hsg, hk2⟩ := hrel
        have HRk := Lib.hid hr2
        have HSg := Lib.hid hsg
        have HK2 := Lib.hid hk2
        clear hsg hk2
        by_cases hkl : i < k
        case neg =>
          obtain rfl : k = i := by omega
          have tk : decide ((k : Int) < (k : Int)) = false := by simp
          clear hr2
          go_wp2_with fail
          exact bodyPost_ret (v := .tuple #[]) (by simp [results, Tryd.results73, go_sem]) rfl ⟨rfl, _, HRk.out, HSg.out, by rw [HM.out]; exact shr_srt ord_ltD HS.out hi hjb HLo.out HHi.out, HK2.out⟩
        obtain ⟨k, rfl⟩ : ∃ q, k = q + 1 := ⟨k - 1, by omega⟩
        have tk : decide ((i : Int) < ((k + 1 : Nat) : Int)) = true := by simp; omega
        have tk2 : decide ((i : Int) < (k : Int) + 1) = true := by simp; omega
        have i1 : (0 : Int) ≤ (k : Int) + 1 := by omega
        have i2 : (k : Int) + 1 < (N : Int) := by omega
        have i3 : IntKind.i64.wrap (k : Int) = (k : Int) := by rw [IntKind.wrap_i64]; omega
        have i4 : (k : Int) < (N : Int) := by omega
        have a0 := hr2.c0 k (by omega)
        have a1 := hr2.c1 k (by omega)
        have a2 := hr2.c2 k (by omega)
        have a3 := hr2.c3 k (by omega)
        have b0 := hr2.c0 (k + 1) (by omega)
        have b1 := hr2.c1 (k + 1) (by omega)
        have b2 := hr2.c2 (k + 1) (by omega)
        have b3 := hr2.c3 (k + 1) (by omega)
        have fz := hr2.fz
        clear hr2
        go_wp2_with fail
        go_region
        go_wp2_with fail
        have hs := HRk.out.swap (i := k + 1) (j := k) (by omega) (by omega) (by omega)
        rw [shr_step f k m hkm] at hs
        have hsg := HSg.out.trans (Seg.swap (shr f (k + 1) m) (n := N) (a := a) (b := b) (i := k + 1) (j := k) (by omega) (by omega) (by omega) (by omega) hb)
        rw [shr_step f k m hkm] at hsg
        exact ⟨⟨k, by omega, by omega, by go_num, hs.drew, hsg, (HK2.out.trans (swap_kp _ g _ _ _ _)).drew⟩, by simp [intOf]⟩
    have tl : decide ((i : Int) < (j : Int)) = true := by simp; omega
    have i3 : (0 : Int) ≤ (m : Int) := by omega
    have i4 : (m : Int) < (N : Int) := by omega
    go_wp2_with fail
    have HG : Hid (g < wr.heap.size) := Lib.hid (Nat.lt_of_lt_of_le HGw.out HK.out.size)
    obtain ⟨H, hH⟩ : ∃ H : Nat, ((i : Int) + (j : Int)) / 2 = (H : Int) := ⟨_, (Int.toNat_of_nonneg (by omega)).symm⟩
    have hH1 : i ≤ H := by omega
    have hH2 : H < j := by omega
    have i1 : (0 : Int) ≤ (H : Int) := by omega
    have i2 : (H : Int) < (N : Int) := by omega
    rw [hH]
    have hx := cells_of HRi.out.drew (k := m) (by omega) (d := f m) rfl
    have hy := cells_of HRi.out.drew (k := H) (by omega) (d := f H) rfl
    have HLt := Lib.hid (cmpD_neg (x := f m) (y := f H))
    generalize hX : f m = X at hx HLt
    generalize hY : f H = Y at hy HLt
    have HX := Lib.hid hx
    have HY := Lib.hid hy
    have HXe := Lib.hid hX
    have HYe := Lib.hid hY
    clear hx hy hX hY
    by_cases hc0 : cmpD X Y < 0
    · have tc : decide (cmpD X Y < 0) = true := decide_eq_true hc0
      have HCm := Lib.hid (HLt.out.1 hc0)
      clear hc0
      refine wp_region_held_drew (S := (fun w' => w'.cell? ⟨g, m * 4, none⟩ = some (.string X.f) ∧ w'.cell? ⟨g, m * 4 + 1, none⟩ = some (.int .i64 X.a) ∧ w'.cell? ⟨g, m * 4 + 2, none⟩ = some (.int .i64 X.c) ∧ w'.cell? ⟨g, m * 4 + 3, none⟩ = some (.string X.t) ∧ w'.cell? ⟨g, H * 4, none⟩ = some (.string Y.f) ∧ w'.cell? ⟨g, H * 4 + 1, none⟩ = some (.int .i64 Y.a) ∧ w'.cell? ⟨g, H * 4 + 2, none⟩ = some (.int .i64 Y.c) ∧ w'.cell? ⟨g, H * 4 + 3, none⟩ = some (.string Y.t))) (by kernel_rfl) ⟨HX.out.1, HX.out.2.1, HX.out.2.2.1, HX.out.2.2.2, HY.out.1, HY.out.2.1, HY.out.2.2.1, HY.out.2.2.2⟩ (fun hHeld => ?_)
      refine wpAnyH_take (i := 0) (v := ?_) (show _ = some { dst := some 92, op := _, type := _, pos := _, after := _, guard := _ } from rfl) (by kernel_rfl) (by kernel_rfl) (by kernel_rfl) (fun _ _ _ h => h) (Or.inl ⟨by rfl, ?_⟩) hHeld ?_
      rotate_left
      · intro w' hSw
        (try dsimp only at hSw)
        go_simp
        try with_reducible rfl
      try simp only [Act.put, List.setIfInBounds_toArray, List.set_cons_zero, List.set_cons_succ]
      refine wpAnyH_take (i := 1) (v := ?_) (show _ = some { dst := some 93, op := _, type := _, pos := _, after := _, guard := _ } from rfl) (by kernel_rfl) (by kernel_rfl) (by kernel_rfl) (fun _ _ _ h => h) (Or.inl ⟨by rfl, ?_⟩) hHeld ?_
      rotate_left
      · intro w' hSw
        (try dsimp only at hSw)
        go_simp
        try with_reducible rfl
      try simp only [Act.put, List.setIfInBounds_toArray, List.set_cons_zero, List.set_cons_succ]
      refine wpAnyH_take (i := 2) (v := ?_) (show _ = some { dst := some 94, op := _, type := _, pos := _, after := _, guard := _ } from rfl) (by kernel_rfl) (by kernel_rfl) (by kernel_rfl) (fun _ _ _ h => h) (Or.inl ⟨by rfl, ?_⟩) hHeld ?_
      rotate_left
      · intro w' hSw
        (try dsimp only at hSw)
        go_simp
        try with_reducible rfl
      try simp only [Act.put, List.setIfInBounds_toArray, List.set_cons_zero, List.set_cons_succ]
      refine wpAnyH_take (i := 3) (v := ?_) (show _ = some { dst := some 95, op := _, type := _, pos := _, after := _, guard := _ } from rfl) (by kernel_rfl) (by kernel_rfl) (by kernel_rfl) (fun _ _ _ h => h) (Or.inl ⟨by rfl, ?_⟩) hHeld ?_
      rotate_left
      · intro w' hSw
        (try dsimp only at hSw)
        go_simp
        try with_reducible rfl
      try simp only [Act.put, List.setIfInBounds_toArray, List.set_cons_zero, List.set_cons_succ]
      refine wpAnyH_take (i := 4) (v := ?_) (show _ = some { dst := some 96, op := _, type := _, pos := _, after := _, guard := _ } from rfl) (by kernel_rfl) (by kernel_rfl) (by kernel_rfl) (fun _ _ _ h => h) (Or.inl ⟨by rfl, ?_⟩) hHeld ?_
      rotate_left
      · intro w' hSw
        (try dsimp only at hSw)
        go_simp
        try with_reducible rfl
      try simp only [Act.put, List.setIfInBounds_toArray, List.set_cons_zero, List.set_cons_succ]
      refine wpAnyH_take (i := 5) (v := ?_) (show _ = some { dst := some 97, op := _, type := _, pos := _, after := _, guard := _ } from rfl) (by kernel_rfl) (by kernel_rfl) (by kernel_rfl) (fun _ _ _ h => h) (Or.inl ⟨by rfl, ?_⟩) hHeld ?_
      rotate_left
      · intro w' hSw
        (try dsimp only at hSw)
        go_simp
        try with_reducible rfl
      try simp only [Act.put, List.setIfInBounds_toArray, List.set_cons_zero, List.set_cons_succ]
      refine wpAnyH_take (i := 6) (v := ?_) (show _ = some { dst := some 98, op := _, type := _, pos := _, after := _, guard := _ } from rfl) (by kernel_rfl) (by kernel_rfl) (by kernel_rfl) (fun _ _ _ h => h) (Or.inl ⟨by rfl, ?_⟩) hHeld ?_
      rotate_left
      · intro w' hSw
        (try dsimp only at hSw)
        go_simp
        try with_reducible rfl
      try simp only [Act.put, List.setIfInBounds_toArray, List.set_cons_zero, List.set_cons_succ]
      refine wpAnyH_take (i := 7) (v := ?_) (show _ = some { dst := some 99, op := _, type := _, pos := _, after := _, guard := _ } from rfl) (by kernel_rfl) (by kernel_rfl) (by kernel_rfl) (fun _ _ _ h => h) (Or.inl ⟨by rfl, ?_⟩) hHeld ?_
      rotate_left
      · intro w' hSw
        (try dsimp only at hSw)
        go_simp
        try with_reducible rfl
      try simp only [Act.put, List.setIfInBounds_toArray, List.set_cons_zero, List.set_cons_succ]
      refine wpAnyH_take (i := 8) (v := ?_) (show _ = some { dst := some 100, op := _, type := _, pos := _, after := _, guard := _ } from rfl) (by kernel_rfl) (by kernel_rfl) (by kernel_rfl) (fun _ _ _ h => h) (Or.inl ⟨by rfl, ?_⟩) hHeld ?_
      rotate_left
      · intro w' hSw
        (try dsimp only at hSw)
        go_simp
        try with_reducible rfl
      try simp only [Act.put, List.setIfInBounds_toArray, List.set_cons_zero, List.set_cons_succ]
      refine wpAnyH_ready (rs := [9]) (by kernel_rfl) (by simp) ?_
      refine AllReadyH.cons (show _ = some { dst := some 101, op := _, type := _, pos := _, after := _, guard := _ } from rfl) (fun K hK => ?_) AllReadyH.nil
      go_simp
      refine (sort_cmp X Y _).mono ?_
      rintro e w2 ⟨rfl, hb2⟩
      have HB2 := Lib.hid hb2
      have HRj := Lib.hid (HRi.out.drew.later HG.out hb2)
      clear hb2
      go_wp2_with fail
      refine hK.out _ _ (⟨cell_later2 HB2.out HX.out.1, cell_later2 HB2.out HX.out.2.1, cell_later2 HB2.out HX.out.2.2.1, cell_later2 HB2.out HX.out.2.2.2, cell_later2 HB2.out HY.out.1, cell_later2 HB2.out HY.out.2.1, cell_later2 HB2.out HY.out.2.2.1, cell_later2 HB2.out HY.out.2.2.2⟩) (fun hHeld => ?_)
      clear hK K
      try simp only [Act.put, List.setIfInBounds_toArray, List.set_cons_zero, List.set_cons_succ]
      refine wpAnyH_take (i := 10) (v := ?_) (show _ = some { dst := some 102, op := _, type := _, pos := _, after := _, guard := _ } from rfl) (by kernel_rfl) (by kernel_rfl) (by kernel_rfl) (fun _ _ _ h => h) (Or.inl ⟨by rfl, ?_⟩) hHeld ?_
      rotate_left
      · intro w' hSw
        (try dsimp only at hSw)
        go_simp
        try with_reducible rfl
      try simp only [Act.put, List.setIfInBounds_toArray, List.set_cons_zero, List.set_cons_succ]
      refine wpAnyH_take (i := 11) (v := ?_) (show _ = some { dst := some 103, op := _, type := _, pos := _, after := _, guard := _ } from rfl) (by kernel_rfl) (by kernel_rfl) (by kernel_rfl) (fun _ _ _ h => h) (Or.inl ⟨by rfl, ?_⟩) hHeld ?_
      rotate_left
      · intro w' hSw
        (try dsimp only at hSw)
        go_simp
        try with_reducible rfl
      try simp only [Act.put, List.setIfInBounds_toArray, List.set_cons_zero, List.set_cons_succ]
      refine wpAnyH_done (by kernel_rfl) ?_ _
      clear hHeld
      go_wp2_with fail
      go_roundw
      case rel => exact ⟨i, H, hi, by omega, by omega, rfl, by go_num, HLo.out, fun k h1 h2 => by
        by_cases hkH : k = H
        · rw [hkH, HXe.out, HYe.out]; exact HCm.out
        · refine lt_of_lt_le ord_ltD (y := Y) ?_ ?_
          · rw [HXe.out]; exact HCm.out
          · rw [← HYe.out]; exact HS.out H k (by omega) (by omega) h2, HRj.out, HK.out.drew.trans (kp_of HB2.out)⟩
      case measure => simp [intOf]; omega
    · have tc : decide (cmpD X Y < 0) = false := decide_eq_false hc0
      have HCm := Lib.hid (fun h => hc0 (HLt.out.2 h))
      clear hc0
      refine wp_region_held_drew (S := (fun w' => w'.cell? ⟨g, m * 4, none⟩ = some (.string X.f) ∧ w'.cell? ⟨g, m * 4 + 1, none⟩ = some (.int .i64 X.a) ∧ w'.cell? ⟨g, m * 4 + 2, none⟩ = some (.int .i64 X.c) ∧ w'.cell? ⟨g, m * 4 + 3, none⟩ = some (.string X.t) ∧ w'.cell? ⟨g, H * 4, none⟩ = some (.string Y.f) ∧ w'.cell? ⟨g, H * 4 + 1, none⟩ = some (.int .i64 Y.a) ∧ w'.cell? ⟨g, H * 4 + 2, none⟩ = some (.int .i64 Y.c) ∧ w'.cell? ⟨g, H * 4 + 3, none⟩ = some (.string Y.t))) (by kernel_rfl) ⟨HX.out.1, HX.out.2.1, HX.out.2.2.1, HX.out.2.2.2, HY.out.1, HY.out.2.1, HY.out.2.2.1, HY.out.2.2.2⟩ (fun hHeld => ?_)
      refine wpAnyH_take (i := 0) (v := ?_) (show _ = some { dst := some 92, op := _, type := _, pos := _, after := _, guard := _ } from rfl) (by kernel_rfl) (by kernel_rfl) (by kernel_rfl) (fun _ _ _ h => h) (Or.inl ⟨by rfl, ?_⟩) hHeld ?_
      rotate_left
      · intro w' hSw
        (try dsimp only at hSw)
        go_simp
        try with_reducible rfl
      try simp only [Act.put, List.setIfInBounds_toArray, List.set_cons_zero, List.set_cons_succ]
      refine wpAnyH_take (i := 1) (v := ?_) (show _ = some { dst := some 93, op := _, type := _, pos := _, after := _, guard := _ } from rfl) (by kernel_rfl) (by kernel_rfl) (by kernel_rfl) (fun _ _ _ h => h) (Or.inl ⟨by rfl, ?_⟩) hHeld ?_
      rotate_left
      · intro w' hSw
        (try dsimp only at hSw)
        go_simp
        try with_reducible rfl
      try simp only [Act.put, List.setIfInBounds_toArray, List.set_cons_zero, List.set_cons_succ]
      refine wpAnyH_take (i := 2) (v := ?_) (show _ = some { dst := some 94, op := _, type := _, pos := _, after := _, guard := _ } from rfl) (by kernel_rfl) (by kernel_rfl) (by kernel_rfl) (fun _ _ _ h => h) (Or.inl ⟨by rfl, ?_⟩) hHeld ?_
      rotate_left
      · intro w' hSw
        (try dsimp only at hSw)
        go_simp
        try with_reducible rfl
      try simp only [Act.put, List.setIfInBounds_toArray, List.set_cons_zero, List.set_cons_succ]
      refine wpAnyH_take (i := 3) (v := ?_) (show _ = some { dst := some 95, op := _, type := _, pos := _, after := _, guard := _ } from rfl) (by kernel_rfl) (by kernel_rfl) (by kernel_rfl) (fun _ _ _ h => h) (Or.inl ⟨by rfl, ?_⟩) hHeld ?_
      rotate_left
      · intro w' hSw
        (try dsimp only at hSw)
        go_simp
        try with_reducible rfl
      try simp only [Act.put, List.setIfInBounds_toArray, List.set_cons_zero, List.set_cons_succ]
      refine wpAnyH_take (i := 4) (v := ?_) (show _ = some { dst := some 96, op := _, type := _, pos := _, after := _, guard := _ } from rfl) (by kernel_rfl) (by kernel_rfl) (by kernel_rfl) (fun _ _ _ h => h) (Or.inl ⟨by rfl, ?_⟩) hHeld ?_
      rotate_left
      · intro w' hSw
        (try dsimp only at hSw)
        go_simp
        try with_reducible rfl
      try simp only [Act.put, List.setIfInBounds_toArray, List.set_cons_zero, List.set_cons_succ]
      refine wpAnyH_take (i := 5) (v := ?_) (show _ = some { dst := some 97, op := _, type := _, pos := _, after := _, guard := _ } from rfl) (by kernel_rfl) (by kernel_rfl) (by kernel_rfl) (fun _ _ _ h => h) (Or.inl ⟨by rfl, ?_⟩) hHeld ?_
      rotate_left
      · intro w' hSw
        (try dsimp only at hSw)
        go_simp
        try with_reducible rfl
      try simp only [Act.put, List.setIfInBounds_toArray, List.set_cons_zero, List.set_cons_succ]
      refine wpAnyH_take (i := 6) (v := ?_) (show _ = some { dst := some 98, op := _, type := _, pos := _, after := _, guard := _ } from rfl) (by kernel_rfl) (by kernel_rfl) (by kernel_rfl) (fun _ _ _ h => h) (Or.inl ⟨by rfl, ?_⟩) hHeld ?_
      rotate_left
      · intro w' hSw
        (try dsimp only at hSw)
        go_simp
        try with_reducible rfl
      try simp only [Act.put, List.setIfInBounds_toArray, List.set_cons_zero, List.set_cons_succ]
      refine wpAnyH_take (i := 7) (v := ?_) (show _ = some { dst := some 99, op := _, type := _, pos := _, after := _, guard := _ } from rfl) (by kernel_rfl) (by kernel_rfl) (by kernel_rfl) (fun _ _ _ h => h) (Or.inl ⟨by rfl, ?_⟩) hHeld ?_
      rotate_left
      · intro w' hSw
        (try dsimp only at hSw)
        go_simp
        try with_reducible rfl
      try simp only [Act.put, List.setIfInBounds_toArray, List.set_cons_zero, List.set_cons_succ]
      refine wpAnyH_take (i := 8) (v := ?_) (show _ = some { dst := some 100, op := _, type := _, pos := _, after := _, guard := _ } from rfl) (by kernel_rfl) (by kernel_rfl) (by kernel_rfl) (fun _ _ _ h => h) (Or.inl ⟨by rfl, ?_⟩) hHeld ?_
      rotate_left
      · intro w' hSw
        (try dsimp only at hSw)
        go_simp
        try with_reducible rfl
      try simp only [Act.put, List.setIfInBounds_toArray, List.set_cons_zero, List.set_cons_succ]
      refine wpAnyH_ready (rs := [9]) (by kernel_rfl) (by simp) ?_
      refine AllReadyH.cons (show _ = some { dst := some 101, op := _, type := _, pos := _, after := _, guard := _ } from rfl) (fun K hK => ?_) AllReadyH.nil
      go_simp
      refine (sort_cmp X Y _).mono ?_
      rintro e w2 ⟨rfl, hb2⟩
      have HB2 := Lib.hid hb2
      have HRj := Lib.hid (HRi.out.drew.later HG.out hb2)
      clear hb2
      go_wp2_with fail
      refine hK.out _ _ (⟨cell_later2 HB2.out HX.out.1, cell_later2 HB2.out HX.out.2.1, cell_later2 HB2.out HX.out.2.2.1, cell_later2 HB2.out HX.out.2.2.2, cell_later2 HB2.out HY.out.1, cell_later2 HB2.out HY.out.2.1, cell_later2 HB2.out HY.out.2.2.1, cell_later2 HB2.out HY.out.2.2.2⟩) (fun hHeld => ?_)
      clear hK K
      try simp only [Act.put, List.setIfInBounds_toArray, List.set_cons_zero, List.set_cons_succ]
      refine wpAnyH_take (i := 10) (v := ?_) (show _ = some { dst := some 102, op := _, type := _, pos := _, after := _, guard := _ } from rfl) (by kernel_rfl) (by kernel_rfl) (by kernel_rfl) (fun _ _ _ h => h) (Or.inl ⟨by rfl, ?_⟩) hHeld ?_
      rotate_left
      · intro w' hSw
        (try dsimp only at hSw)
        go_simp
        try with_reducible rfl
      try simp only [Act.put, List.setIfInBounds_toArray, List.set_cons_zero, List.set_cons_succ]
      refine wpAnyH_take (i := 11) (v := ?_) (show _ = some { dst := some 103, op := _, type := _, pos := _, after := _, guard := _ } from rfl) (by kernel_rfl) (by kernel_rfl) (by kernel_rfl) (fun _ _ _ h => h) (Or.inl ⟨by rfl, ?_⟩) hHeld ?_
      rotate_left
      · intro w' hSw
        (try dsimp only at hSw)
        go_simp
        try with_reducible rfl
      try simp only [Act.put, List.setIfInBounds_toArray, List.set_cons_zero, List.set_cons_succ]
      refine wpAnyH_done (by kernel_rfl) ?_ _
      clear hHeld
      go_wp2_with fail
      go_roundw
      case rel => exact ⟨H + 1, j, by omega, by omega, hjb, by go_num, rfl, fun k h1 h2 => by
        by_cases hkH : k = H
        · rw [hkH, HXe.out, HYe.out]; exact HCm.out
        · refine ord_ltD.le_trans (b := Y) ?_ ?_
          · rw [← HYe.out]; exact HS.out k H h1 (by omega) (by omega)
          · rw [HXe.out]; exact HCm.out, HHi.out, HRj.out, HK.out.drew.trans (kp_of HB2.out)⟩
      case measure => simp [intOf]; omega
end Go.Proofs.YteghbblbkljdhaaDoor
