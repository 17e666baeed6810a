import Derived.Test.YteghbblbkljdhaaDoorSoI
import Derived.Deep.CutBlock
namespace Go.Proofs.YteghbblbkljdhaaDoor
open Go.RowKit
/-- What symMerge does with pieces of at most d places in all. -/
def MergeOk (g N c d : Nat) : Prop := ∀ (a m b : Nat) (f : Nat → DiagD) (w : World), b ≤ a + d → Row w g N f → g < w.heap.size → a < m → m < b → b ≤ N → Srt ltD f a m → Srt ltD f m b →
    Calls Tryd.prog 73 #[.slice (some ⟨g, 0, none⟩) N c, .int .i64 a, .int .i64 m, .int .i64 b, cmpV] w fun e w' => e = .returned (.tuple #[]) ∧ ∃ f', Row w' g N f' ∧ Seg N a b f f' ∧ Srt ltD f' a b ∧ Kp (fun k => k ≠ g) w w'
set_option maxRecDepth 100000 in
set_option maxHeartbeats 4000000 in
theorem merge_c (g N c d a m b : Nat) (hrec : MergeOk g N c d) (hd : b ≤ a + (d + 1)) (f : Nat → DiagD) (w : World) (h : Row w g N f) (hg : g < w.heap.size) (ham : a + 1 < m) (hmb : m + 1 < b) (hb : b ≤ N) (hN : N ≤ 1000000) (hc : N ≤ c) (hX : Srt ltD f a m) (hY : Srt ltD f m b) :
    Calls Tryd.prog 73 #[.slice (some ⟨g, 0, none⟩) N c, .int .i64 a, .int .i64 m, .int .i64 b, cmpV] w fun e w' => e = .returned (.tuple #[]) ∧ ∃ f', Row w' g N f' ∧ Seg N a b f f' ∧ Srt ltD f' a b ∧ Kp (fun k => k ≠ g) w w' := by
  have HR := Lib.hid h
  have HGw := Lib.hid hg
  have HX0 := Lib.hid hX
  have HY0 := Lib.hid hY
  have HRec := Lib.hid hrec
  have HD := Lib.hid hd
  have t0 : ((m : Int) - (a : Int) == 1) = false := by simp; omega
  have t1 : ((b : Int) - (m : Int) == 1) = false := by simp; omega
  obtain ⟨Mid, hMid⟩ : ∃ q : Nat, ((a : Int) + (b : Int)) / 2 = (q : Int) := ⟨(a + b) / 2, by omega⟩
  have hMa : a < Mid := by omega
  have hMb : Mid < b := by omega
  have HMid : Hid (2 * Mid ≤ a + b ∧ a + b ≤ 2 * Mid + 1) := Lib.hid (by omega)
  clear h hg hX hY hrec hd
  unfold cmpV
  go_enter Tryd.func73, Tryd.ntmps73
  go_upto_region 26 with fail
  iterate 11 go_step
  go_cut [20, 21] from 138 (fun v u wx => ∃ lo r : Nat, v = .int .i64 lo ∧ u = .int .i64 r ∧ a ≤ lo ∧ lo ≤ r ∧ r ≤ Mid ∧ r ≤ m ∧ Mid + m ≤ lo + b ∧ (lo = a ∨ lo + b = Mid + m) ∧ (r = m ∨ r = Mid) ∧ w = wx)
  case first =>
    by_cases hmm : Mid < m
    · have tm : decide ((Mid : Int) < (m : Int)) = true := by simp; omega
      have tm2 : decide (Mid < m) = true := by simp; omega
      go_wp2_with fail
      go_meet
      exact ⟨Mid + m - b, Mid, by have := HMid.out; go_num, rfl, by have := HMid.out; omega, by omega, by omega, by omega, by omega, .inr (by have := HMid.out; omega), .inr rfl, rfl⟩
    · have tm : decide ((Mid : Int) < (m : Int)) = false := by simp; omega
      have tm2 : decide (Mid < m) = false := by simp; omega
      go_wp2_with fail
      go_meet
      exact ⟨a, m, rfl, rfl, by omega, by omega, by omega, by omega, by have := HMid.out; omega, .inl rfl, .inl rfl, rfl⟩
  case rest =>
    obtain ⟨lo, r0, rfl, rfl, hla, hlr, hrM, hrm, hlb, hlo0, hr0, rfl⟩ := hcut
    have HLo0 := Lib.hid hlo0
    have HR0 := Lib.hid hr0
    clear hlo0 hr0
    go_wp2_with fail
    go_loopw [20, 21] (fun v u wr => ∃ s r : Nat, lo ≤ s ∧ s ≤ r ∧ r ≤ r0 ∧ v = .int .i64 s ∧ u = .int .i64 r ∧ (lo < s → ¬ ltD (f (Mid + m - 1 - (s - 1))) (f (s - 1))) ∧ (r < r0 → ltD (f (Mid + m - 1 - r)) (f r)) ∧ Row wr g N f ∧ Kp (fun k => k ≠ g) w wr) (fun v u _ => (intOf u).toNat - (intOf v).toNat)
    case atStart => exact ⟨lo, r0, by omega, hlr, by omega, rfl, rfl, fun h => absurd h (Nat.lt_irrefl _), fun h => absurd h (Nat.lt_irrefl _), HR.out, Kp.refl _ _⟩
    case round =>
      obtain ⟨i, j, hi, hij, hjr, rfl, rfl, hlo, hhi, hr, hk⟩ := hrel
      have HLo := Lib.hid hlo
      have HHi := Lib.hid hhi
      have HRi := Lib.hid hr
      have HK := Lib.hid hk
      clear hlo hhi hr hk
      by_cases hlt : i < j
      case neg =>
        obtain rfl : i = j := by omega
        have tl : decide ((i : Int) < (i : Int)) = false := by simp
        go_upto_region 38 with fail
        iterate 17 go_step
        obtain ⟨E, hE⟩ : ∃ q : Nat, (Mid : Int) + (m : Int) - (i : Int) = (q : Int) := ⟨_, (Int.toNat_of_nonneg (by omega)).symm⟩
        have hEn : E = Mid + m - i := by omega
        have hEm : m ≤ E := by omega
        have hEb : E ≤ b := by omega
        have hME : Mid ≤ E := by omega
        have hA : a < i → E < b → ¬ ltD (f E) (f (i - 1)) := by
          intro h1 h2
          have h3 : lo < i := by rcases HLo0.out with h | h <;> omega
          have h4 := HLo.out h3
          rw [show Mid + m - 1 - (i - 1) = E by omega] at h4
          exact h4
        have hB : i < m → m < E → ltD (f (E - 1)) (f i) := by
          intro h1 h2
          have h3 : i < r0 := by rcases HR0.out with h | h <;> omega
          have h4 := HHi.out h3
          rw [show Mid + m - 1 - i = E - 1 by omega] at h4
          exact h4
        have HM := Lib.hid (merge_ok ord_ltD (mid := Mid) (by omega) (by omega) hEm hEb hEn (by omega) HX0.out HY0.out hA hB)
        have HEn := Lib.hid hEn
        clear hA hB hEn
        try rw [hE]
        go_cut [] from 178 (fun wx => Row wx g N (rot f i m E) ∧ Kp (fun k => k ≠ g) w wx ∧ Seg N a b f (rot f i m E))
        case first =>
          by_cases h1 : i < m
          · have d1 : decide ((i : Int) < (m : Int)) = true := by simp; omega
            have d1n : decide (i < m) = true := by simp; omega
            by_cases h2 : m < E
            · have d2 : decide ((m : Int) < (E : Int)) = true := by simp; omega
              have d2n : decide (m < E) = true := by simp; omega
              have H12 := Lib.hid (And.intro h1 h2)
              clear h1 h2
              go_wp2_with (go_at_call 82; refine (rotate_i (a := i) (m := m) (b := E) HRi.out H12.out.1 H12.out.2 (by omega) hN hc _ _ _ _ rfl rfl rfl).mono ?_; rintro e w3 ⟨rfl, hr3, hs3, hk3⟩; have HR3 := Lib.hid hr3; have HS3 := Lib.hid hs3; have HK3 := Lib.hid hk3; clear hr3 hs3 hk3)
              go_meet
              exact ⟨HR3.out, HK.out.trans HK3.out, HS3.out.widen (by omega) hEb⟩
            · have d2 : decide ((m : Int) < (E : Int)) = false := by simp; omega
              have d2n : decide (m < E) = false := by simp; omega
              have hr := rot_same_m (f := f) (lo := i) (m := m) (hi := E) (.inr (by omega)) (by omega) hEm
              have HH := Lib.hid hr
              clear h1 h2 hr
              go_wp2_with fail
              go_meet
              exact ⟨by rw [HH.out]; exact HRi.out, HK.out, by rw [HH.out]; exact Seg.refl _ _ _ _⟩
          · have d1 : decide ((i : Int) < (m : Int)) = false := by simp; omega
            have d1n : decide (i < m) = false := by simp; omega
            have hr := rot_same_m (f := f) (lo := i) (m := m) (hi := E) (.inl (by omega)) (by omega) hEm
            have HH := Lib.hid hr
            clear h1 hr
            go_wp2_with fail
            go_meet
            exact ⟨by rw [HH.out]; exact HRi.out, HK.out, by rw [HH.out]; exact Seg.refl _ _ _ _⟩
        case rest =>
          obtain ⟨hr4, hk4, hs4⟩ := hcut
          obtain ⟨w5, hw5⟩ : ∃ w5, w5 = wc := ⟨_, rfl⟩
          subst hw5
          have HR4 := Lib.hid hr4
          have HK4 := Lib.hid hk4
          have HS4 := Lib.hid hs4
          have HG4 : Hid (g < w5.heap.size) := Lib.hid (Nat.lt_of_lt_of_le HGw.out hk4.size)
          clear hr4 hk4 hs4
          generalize rot f i m E = f1 at HR4 HS4 HM
          iterate 2 go_step
          go_cut [] from 192 (fun wx => ∃ f2, Row wx g N f2 ∧ Kp (fun k => k ≠ g) w wx ∧ Seg N a Mid f1 f2 ∧ Srt ltD f2 a Mid)
          case first =>
            by_cases h1 : a < i
            · have d1 : decide ((a : Int) < (i : Int)) = true := by simp; omega
              have d1n : decide (a < i) = true := by simp; omega
              by_cases h2 : i < Mid
              · have d2 : decide ((i : Int) < (Mid : Int)) = true := by simp; omega
                have d2n : decide (i < Mid) = true := by simp; omega
                have H12 := Lib.hid (And.intro h1 h2)
                clear h1 h2
                go_wp2_with (go_at_call 73; refine (HRec.out a i Mid f1 _ (by have := HD.out; omega) HR4.out HG4.out H12.out.1 H12.out.2 (by omega) HM.out.1 HM.out.2.1).mono ?_; rintro e w6 ⟨rfl, f2, hr6, hs6, ht6, hk6⟩; have HR6 := Lib.hid hr6; have HS6 := Lib.hid hs6; have HT6 := Lib.hid ht6; have HK6 := Lib.hid hk6; clear hr6 hs6 ht6 hk6)
                go_meet
                exact ⟨f2, HR6.out, HK4.out.trans HK6.out, HS6.out, HT6.out⟩
              · have d2 : decide ((i : Int) < (Mid : Int)) = false := by simp; omega
                have d2n : decide (i < Mid) = false := by simp; omega
                have H12 : Hid (i = Mid) := Lib.hid (by omega)
                clear h1 h2
                go_wp2_with fail
                go_meet
                exact ⟨f1, HR4.out, HK4.out, Seg.refl _ _ _ _, by rw [← H12.out]; exact HM.out.1⟩
            · have d1 : decide ((a : Int) < (i : Int)) = false := by simp; omega
              have d1n : decide (a < i) = false := by simp; omega
              have H12 : Hid (i = a) := Lib.hid (by omega)
              clear h1
              go_wp2_with fail
              go_meet
              exact ⟨f1, HR4.out, HK4.out, Seg.refl _ _ _ _, by have h := HM.out.2.1; rw [H12.out] at h; exact h⟩
          case rest =>
            obtain ⟨f2, hr6, hk6, hs6, ht6⟩ := hcut
            obtain ⟨w7, hw7⟩ : ∃ w7, w7 = wc := ⟨_, rfl⟩
            subst hw7
            have HR6 := Lib.hid hr6
            have HK6 := Lib.hid hk6
            have HS6 := Lib.hid hs6
            have HT6 := Lib.hid ht6
            have HG6 : Hid (g < w7.heap.size) := Lib.hid (Nat.lt_of_lt_of_le HGw.out hk6.size)
            clear hr6 hk6 hs6 ht6
            by_cases h1 : Mid < E
            · have d1 : decide ((Mid : Int) < (E : Int)) = true := by simp; omega
              have d1n : decide (Mid < E) = true := by simp; omega
              by_cases h2 : E < b
              · have d2 : decide ((E : Int) < (b : Int)) = true := by simp; omega
                have d2n : decide (E < b) = true := by simp; omega
                have H12 := Lib.hid (And.intro h1 h2)
                have HY6 := Lib.hid (HM.out.2.2.1.ext (g := f2) (fun k h1 h2 => HS6.out.out k (by omega)))
                have HZ6 := Lib.hid (HM.out.2.2.2.1.ext (g := f2) (fun k h1 h2 => HS6.out.out k (by omega)))
                clear h1 h2
                go_wp2_with (go_at_call 73; refine (HRec.out Mid E b f2 _ (by have := HD.out; omega) HR6.out HG6.out H12.out.1 H12.out.2 hb HY6.out HZ6.out).mono ?_; rintro e w8 ⟨rfl, f3, hr8, hs8, ht8, hk8⟩; have HR8 := Lib.hid hr8; have HS8 := Lib.hid hs8; have HT8 := Lib.hid ht8; have HK8 := Lib.hid hk8; clear hr8 hs8 ht8 hk8)
                have hh := halves_ok (lt := ltD) (n := N) (by omega) (by omega) HM.out.2.2.2.2 HS6.out HS8.out HT6.out HT8.out
                exact bodyPost_end (v := .tuple #[]) (by simp [results, Tryd.results73, go_sem]) rfl ⟨rfl, f3, HR8.out, HS4.out.trans hh.2, hh.1, HK6.out.trans HK8.out⟩
              · have d2 : decide ((E : Int) < (b : Int)) = false := by simp; omega
                have d2n : decide (E < b) = false := by simp; omega
                have H12 : Hid (E = b) := Lib.hid (by omega)
                have HY6 := Lib.hid (HM.out.2.2.1.ext (g := f2) (fun k h1 h2 => HS6.out.out k (by omega)))
                clear h1 h2
                go_wp2_with fail
                have hh := halves_ok (lt := ltD) (n := N) (f := f1) (g := f2) (h := f2) (a := a) (mid := Mid) (b := b) (by omega) (by omega) HM.out.2.2.2.2 HS6.out (Seg.refl _ _ _ _) HT6.out (by rw [← H12.out]; exact HY6.out)
                exact bodyPost_end (v := .tuple #[]) (by simp [results, Tryd.results73, go_sem]) rfl ⟨rfl, f2, HR6.out, HS4.out.trans hh.2, hh.1, HK6.out⟩
            · have d1 : decide ((Mid : Int) < (E : Int)) = false := by simp; omega
              have d1n : decide (Mid < E) = false := by simp; omega
              have H12 : Hid (E = Mid) := Lib.hid (by omega)
              have HZ6 := Lib.hid (HM.out.2.2.2.1.ext (g := f2) (fun k h1 h2 => HS6.out.out k (by omega)))
              clear h1
              go_wp2_with fail
              have hh := halves_ok (lt := ltD) (n := N) (f := f1) (g := f2) (h := f2) (a := a) (mid := Mid) (b := b) (by omega) (by omega) HM.out.2.2.2.2 HS6.out (Seg.refl _ _ _ _) HT6.out (by have h := HZ6.out; rw [H12.out] at h; exact h)
              exact bodyPost_end (v := .tuple #[]) (by simp [results, Tryd.results73, go_sem]) rfl ⟨rfl, f2, HR6.out, HS4.out.trans hh.2, hh.1, HK6.out⟩
      have tl : decide ((i : Int) < (j : Int)) = true := by simp; omega
      go_wp2_with fail
      have HG : Hid (g < wr.heap.size) := Lib.hid (Nat.lt_of_lt_of_le HGw.out HK.out.size)
      obtain ⟨H, hH⟩ : ∃ H : Nat, ((i : Int) + (j : Int)) / 2 = (H : Int) := ⟨_, (Int.toNat_of_nonneg (by omega)).symm⟩
      have hH1 : i ≤ H := by omega
      have hH2 : H < j := by omega
      have i1 : (0 : Int) ≤ (H : Int) := by omega
      have i2 : (H : Int) < (N : Int) := by omega
      obtain ⟨Q, hQ⟩ : ∃ Q : Nat, (Mid : Int) + (m : Int) - 1 - (H : Int) = (Q : Int) := ⟨_, (Int.toNat_of_nonneg (by omega)).symm⟩
      have hQ1 : Q = Mid + m - 1 - H := by omega
      have hQ2 : Q < b := by omega
      have i3 : IntKind.i64.wrap ((Mid : Int) + (m : Int) - 1 - (H : Int)) = (Q : Int) := by rw [hQ, IntKind.wrap_i64]; omega
      have i3b : IntKind.i64.wrap (Q : Int) = (Q : Int) := by rw [IntKind.wrap_i64]; omega
      have i4 : (0 : Int) ≤ (Q : Int) := by omega
      have i5 : (Q : Int) < (N : Int) := by omega
      rw [hH]
      have hx := cells_of HRi.out.drew (k := Q) (by omega) (d := f Q) rfl
      have hy := cells_of HRi.out.drew (k := H) (by omega) (d := f H) rfl
      have HLt := Lib.hid (cmpD_neg (x := f Q) (y := f H))
      have HQ1 := Lib.hid hQ1
      clear hQ1
      generalize hX : f Q = X at hx HLt
      generalize hY : f H = Y at hy HLt
      have HX := Lib.hid hx
      have HY := Lib.hid hy
      have HXe := Lib.hid hX
      have HYe := Lib.hid hY
      clear hx hy hX hY
      by_cases hc0 : cmpD X Y < 0
      · have tc : decide (cmpD X Y < 0) = true := decide_eq_true hc0
        have HCm := Lib.hid (HLt.out.1 hc0)
        clear hc0
        refine wp_region_held_drew (S := (fun w' => w'.cell? ⟨g, Q * 4, none⟩ = some (.string X.f) ∧ w'.cell? ⟨g, Q * 4 + 1, none⟩ = some (.int .i64 X.a) ∧ w'.cell? ⟨g, Q * 4 + 2, none⟩ = some (.int .i64 X.c) ∧ w'.cell? ⟨g, Q * 4 + 3, none⟩ = some (.string X.t) ∧ w'.cell? ⟨g, H * 4, none⟩ = some (.string Y.f) ∧ w'.cell? ⟨g, H * 4 + 1, none⟩ = some (.int .i64 Y.a) ∧ w'.cell? ⟨g, H * 4 + 2, none⟩ = some (.int .i64 Y.c) ∧ w'.cell? ⟨g, H * 4 + 3, none⟩ = some (.string Y.t))) (by kernel_rfl) ⟨HX.out.1, HX.out.2.1, HX.out.2.2.1, HX.out.2.2.2, HY.out.1, HY.out.2.1, HY.out.2.2.1, HY.out.2.2.2⟩ (fun hHeld => ?_)
        refine wpAnyH_take (i := 0) (v := ?_) (show _ = some { dst := some 158, op := _, type := _, pos := _, after := _, guard := _ } from rfl) (by kernel_rfl) (by kernel_rfl) (by kernel_rfl) (fun _ _ _ h => h) (Or.inl ⟨by rfl, ?_⟩) hHeld ?_
        rotate_left
        · intro w' hSw
          (try dsimp only at hSw)
          go_simp
          try with_reducible rfl
        try simp only [Act.put, List.setIfInBounds_toArray, List.set_cons_zero, List.set_cons_succ]
        refine wpAnyH_take (i := 1) (v := ?_) (show _ = some { dst := some 159, op := _, type := _, pos := _, after := _, guard := _ } from rfl) (by kernel_rfl) (by kernel_rfl) (by kernel_rfl) (fun _ _ _ h => h) (Or.inl ⟨by rfl, ?_⟩) hHeld ?_
        rotate_left
        · intro w' hSw
          (try dsimp only at hSw)
          go_simp
          try with_reducible rfl
        try simp only [Act.put, List.setIfInBounds_toArray, List.set_cons_zero, List.set_cons_succ]
        refine wpAnyH_take (i := 2) (v := ?_) (show _ = some { dst := some 160, op := _, type := _, pos := _, after := _, guard := _ } from rfl) (by kernel_rfl) (by kernel_rfl) (by kernel_rfl) (fun _ _ _ h => h) (Or.inl ⟨by rfl, ?_⟩) hHeld ?_
        rotate_left
        · intro w' hSw
          (try dsimp only at hSw)
          go_simp
          try with_reducible rfl
        try simp only [Act.put, List.setIfInBounds_toArray, List.set_cons_zero, List.set_cons_succ]
        refine wpAnyH_take (i := 3) (v := ?_) (show _ = some { dst := some 161, op := _, type := _, pos := _, after := _, guard := _ } from rfl) (by kernel_rfl) (by kernel_rfl) (by kernel_rfl) (fun _ _ _ h => h) (Or.inl ⟨by rfl, ?_⟩) hHeld ?_
        rotate_left
        · intro w' hSw
          (try dsimp only at hSw)
          go_simp
          try with_reducible rfl
        try simp only [Act.put, List.setIfInBounds_toArray, List.set_cons_zero, List.set_cons_succ]
        refine wpAnyH_take (i := 4) (v := ?_) (show _ = some { dst := some 162, op := _, type := _, pos := _, after := _, guard := _ } from rfl) (by kernel_rfl) (by kernel_rfl) (by kernel_rfl) (fun _ _ _ h => h) (Or.inl ⟨by rfl, ?_⟩) hHeld ?_
        rotate_left
        · intro w' hSw
          (try dsimp only at hSw)
          go_simp
          try with_reducible rfl
        try simp only [Act.put, List.setIfInBounds_toArray, List.set_cons_zero, List.set_cons_succ]
        refine wpAnyH_take (i := 5) (v := ?_) (show _ = some { dst := some 163, op := _, type := _, pos := _, after := _, guard := _ } from rfl) (by kernel_rfl) (by kernel_rfl) (by kernel_rfl) (fun _ _ _ h => h) (Or.inl ⟨by rfl, ?_⟩) hHeld ?_
        rotate_left
        · intro w' hSw
          (try dsimp only at hSw)
          go_simp
          try with_reducible rfl
        try simp only [Act.put, List.setIfInBounds_toArray, List.set_cons_zero, List.set_cons_succ]
        refine wpAnyH_take (i := 6) (v := ?_) (show _ = some { dst := some 164, op := _, type := _, pos := _, after := _, guard := _ } from rfl) (by kernel_rfl) (by kernel_rfl) (by kernel_rfl) (fun _ _ _ h => h) (Or.inl ⟨by rfl, ?_⟩) hHeld ?_
        rotate_left
        · intro w' hSw
          (try dsimp only at hSw)
          go_simp
          try with_reducible rfl
        try simp only [Act.put, List.setIfInBounds_toArray, List.set_cons_zero, List.set_cons_succ]
        refine wpAnyH_take (i := 7) (v := ?_) (show _ = some { dst := some 165, op := _, type := _, pos := _, after := _, guard := _ } from rfl) (by kernel_rfl) (by kernel_rfl) (by kernel_rfl) (fun _ _ _ h => h) (Or.inl ⟨by rfl, ?_⟩) hHeld ?_
        rotate_left
        · intro w' hSw
          (try dsimp only at hSw)
          go_simp
          try with_reducible rfl
        try simp only [Act.put, List.setIfInBounds_toArray, List.set_cons_zero, List.set_cons_succ]
        refine wpAnyH_take (i := 8) (v := ?_) (show _ = some { dst := some 166, op := _, type := _, pos := _, after := _, guard := _ } from rfl) (by kernel_rfl) (by kernel_rfl) (by kernel_rfl) (fun _ _ _ h => h) (Or.inl ⟨by rfl, ?_⟩) hHeld ?_
        rotate_left
        · intro w' hSw
          (try dsimp only at hSw)
          go_simp
          try with_reducible rfl
        try simp only [Act.put, List.setIfInBounds_toArray, List.set_cons_zero, List.set_cons_succ]
        refine wpAnyH_take (i := 9) (v := ?_) (show _ = some { dst := some 167, op := _, type := _, pos := _, after := _, guard := _ } from rfl) (by kernel_rfl) (by kernel_rfl) (by kernel_rfl) (fun _ _ _ h => h) (Or.inl ⟨by rfl, ?_⟩) hHeld ?_
        rotate_left
        · intro w' hSw
          (try dsimp only at hSw)
          go_simp
          try with_reducible rfl
        try simp only [Act.put, List.setIfInBounds_toArray, List.set_cons_zero, List.set_cons_succ]
        refine wpAnyH_take (i := 10) (v := ?_) (show _ = some { dst := some 168, op := _, type := _, pos := _, after := _, guard := _ } from rfl) (by kernel_rfl) (by kernel_rfl) (by kernel_rfl) (fun _ _ _ h => h) (Or.inl ⟨by rfl, ?_⟩) hHeld ?_
        rotate_left
        · intro w' hSw
          (try dsimp only at hSw)
          go_simp
          try with_reducible rfl
        try simp only [Act.put, List.setIfInBounds_toArray, List.set_cons_zero, List.set_cons_succ]
        refine wpAnyH_ready (rs := [11]) (by kernel_rfl) (by simp) ?_
        refine AllReadyH.cons (show _ = some { dst := some 169, op := _, type := _, pos := _, after := _, guard := _ } from rfl) (fun K hK => ?_) AllReadyH.nil
        go_simp
        refine (sort_cmp X Y _).mono ?_
        rintro e w2 ⟨rfl, hb2⟩
        have HB2 := Lib.hid hb2
        have HRj := Lib.hid (HRi.out.drew.later HG.out hb2)
        clear hb2
        go_wp2_with fail
        refine hK.out _ _ (⟨cell_later2 HB2.out HX.out.1, cell_later2 HB2.out HX.out.2.1, cell_later2 HB2.out HX.out.2.2.1, cell_later2 HB2.out HX.out.2.2.2, cell_later2 HB2.out HY.out.1, cell_later2 HB2.out HY.out.2.1, cell_later2 HB2.out HY.out.2.2.1, cell_later2 HB2.out HY.out.2.2.2⟩) (fun hHeld => ?_)
        clear hK K
        try simp only [Act.put, List.setIfInBounds_toArray, List.set_cons_zero, List.set_cons_succ]
        refine wpAnyH_take (i := 12) (v := ?_) (show _ = some { dst := some 170, op := _, type := _, pos := _, after := _, guard := _ } from rfl) (by kernel_rfl) (by kernel_rfl) (by kernel_rfl) (fun _ _ _ h => h) (Or.inl ⟨by rfl, ?_⟩) hHeld ?_
        rotate_left
        · intro w' hSw
          (try dsimp only at hSw)
          go_simp
          try with_reducible rfl
        try simp only [Act.put, List.setIfInBounds_toArray, List.set_cons_zero, List.set_cons_succ]
        refine wpAnyH_take (i := 13) (v := ?_) (show _ = some { dst := some 171, op := _, type := _, pos := _, after := _, guard := _ } from rfl) (by kernel_rfl) (by kernel_rfl) (by kernel_rfl) (fun _ _ _ h => h) (Or.inl ⟨by rfl, ?_⟩) hHeld ?_
        rotate_left
        · intro w' hSw
          (try dsimp only at hSw)
          go_simp
          try with_reducible rfl
        try simp only [Act.put, List.setIfInBounds_toArray, List.set_cons_zero, List.set_cons_succ]
        refine wpAnyH_done (by kernel_rfl) ?_ _
        clear hHeld
        go_wp2_with fail
        go_roundw
        case rel => exact ⟨i, H, hi, by omega, by omega, rfl, by go_num, HLo.out, fun _ => by
          rw [← HQ1.out, HXe.out, HYe.out]; exact HCm.out, HRj.out, HK.out.drew.trans (kp_of HB2.out)⟩
        case measure => simp [intOf]; omega
      · have tc : decide (cmpD X Y < 0) = false := decide_eq_false hc0
        have HCm := Lib.hid (fun h => hc0 (HLt.out.2 h))
        clear hc0
        refine wp_region_held_drew (S := (fun w' => w'.cell? ⟨g, Q * 4, none⟩ = some (.string X.f) ∧ w'.cell? ⟨g, Q * 4 + 1, none⟩ = some (.int .i64 X.a) ∧ w'.cell? ⟨g, Q * 4 + 2, none⟩ = some (.int .i64 X.c) ∧ w'.cell? ⟨g, Q * 4 + 3, none⟩ = some (.string X.t) ∧ w'.cell? ⟨g, H * 4, none⟩ = some (.string Y.f) ∧ w'.cell? ⟨g, H * 4 + 1, none⟩ = some (.int .i64 Y.a) ∧ w'.cell? ⟨g, H * 4 + 2, none⟩ = some (.int .i64 Y.c) ∧ w'.cell? ⟨g, H * 4 + 3, none⟩ = some (.string Y.t))) (by kernel_rfl) ⟨HX.out.1, HX.out.2.1, HX.out.2.2.1, HX.out.2.2.2, HY.out.1, HY.out.2.1, HY.out.2.2.1, HY.out.2.2.2⟩ (fun hHeld => ?_)
        refine wpAnyH_take (i := 0) (v := ?_) (show _ = some { dst := some 158, op := _, type := _, pos := _, after := _, guard := _ } from rfl) (by kernel_rfl) (by kernel_rfl) (by kernel_rfl) (fun _ _ _ h => h) (Or.inl ⟨by rfl, ?_⟩) hHeld ?_
        rotate_left
        · intro w' hSw
          (try dsimp only at hSw)
          go_simp
          try with_reducible rfl
        try simp only [Act.put, List.setIfInBounds_toArray, List.set_cons_zero, List.set_cons_succ]
        refine wpAnyH_take (i := 1) (v := ?_) (show _ = some { dst := some 159, op := _, type := _, pos := _, after := _, guard := _ } from rfl) (by kernel_rfl) (by kernel_rfl) (by kernel_rfl) (fun _ _ _ h => h) (Or.inl ⟨by rfl, ?_⟩) hHeld ?_
        rotate_left
        · intro w' hSw
          (try dsimp only at hSw)
          go_simp
          try with_reducible rfl
        try simp only [Act.put, List.setIfInBounds_toArray, List.set_cons_zero, List.set_cons_succ]
        refine wpAnyH_take (i := 2) (v := ?_) (show _ = some { dst := some 160, op := _, type := _, pos := _, after := _, guard := _ } from rfl) (by kernel_rfl) (by kernel_rfl) (by kernel_rfl) (fun _ _ _ h => h) (Or.inl ⟨by rfl, ?_⟩) hHeld ?_
        rotate_left
        · intro w' hSw
          (try dsimp only at hSw)
          go_simp
          try with_reducible rfl
        try simp only [Act.put, List.setIfInBounds_toArray, List.set_cons_zero, List.set_cons_succ]
        refine wpAnyH_take (i := 3) (v := ?_) (show _ = some { dst := some 161, op := _, type := _, pos := _, after := _, guard := _ } from rfl) (by kernel_rfl) (by kernel_rfl) (by kernel_rfl) (fun _ _ _ h => h) (Or.inl ⟨by rfl, ?_⟩) hHeld ?_
        rotate_left
        · intro w' hSw
          (try dsimp only at hSw)
          go_simp
          try with_reducible rfl
        try simp only [Act.put, List.setIfInBounds_toArray, List.set_cons_zero, List.set_cons_succ]
        refine wpAnyH_take (i := 4) (v := ?_) (show _ = some { dst := some 162, op := _, type := _, pos := _, after := _, guard := _ } from rfl) (by kernel_rfl) (by kernel_rfl) (by kernel_rfl) (fun _ _ _ h => h) (Or.inl ⟨by rfl, ?_⟩) hHeld ?_
        rotate_left
        · intro w' hSw
          (try dsimp only at hSw)
          go_simp
          try with_reducible rfl
        try simp only [Act.put, List.setIfInBounds_toArray, List.set_cons_zero, List.set_cons_succ]
        refine wpAnyH_take (i := 5) (v := ?_) (show _ = some { dst := some 163, op := _, type := _, pos := _, after := _, guard := _ } from rfl) (by kernel_rfl) (by kernel_rfl) (by kernel_rfl) (fun _ _ _ h => h) (Or.inl ⟨by rfl, ?_⟩) hHeld ?_
        rotate_left
        · intro w' hSw
          (try dsimp only at hSw)
          go_simp
          try with_reducible rfl
        try simp only [Act.put, List.setIfInBounds_toArray, List.set_cons_zero, List.set_cons_succ]
        refine wpAnyH_take (i := 6) (v := ?_) (show _ = some { dst := some 164, op := _, type := _, pos := _, after := _, guard := _ } from rfl) (by kernel_rfl) (by kernel_rfl) (by kernel_rfl) (fun _ _ _ h => h) (Or.inl ⟨by rfl, ?_⟩) hHeld ?_
        rotate_left
        · intro w' hSw
          (try dsimp only at hSw)
          go_simp
          try with_reducible rfl
        try simp only [Act.put, List.setIfInBounds_toArray, List.set_cons_zero, List.set_cons_succ]
        refine wpAnyH_take (i := 7) (v := ?_) (show _ = some { dst := some 165, op := _, type := _, pos := _, after := _, guard := _ } from rfl) (by kernel_rfl) (by kernel_rfl) (by kernel_rfl) (fun _ _ _ h => h) (Or.inl ⟨by rfl, ?_⟩) hHeld ?_
        rotate_left
        · intro w' hSw
          (try dsimp only at hSw)
          go_simp
          try with_reducible rfl
        try simp only [Act.put, List.setIfInBounds_toArray, List.set_cons_zero, List.set_cons_succ]
        refine wpAnyH_take (i := 8) (v := ?_) (show _ = some { dst := some 166, op := _, type := _, pos := _, after := _, guard := _ } from rfl) (by kernel_rfl) (by kernel_rfl) (by kernel_rfl) (fun _ _ _ h => h) (Or.inl ⟨by rfl, ?_⟩) hHeld ?_
        rotate_left
        · intro w' hSw
          (try dsimp only at hSw)
          go_simp
          try with_reducible rfl
        try simp only [Act.put, List.setIfInBounds_toArray, List.set_cons_zero, List.set_cons_succ]
        refine wpAnyH_take (i := 9) (v := ?_) (show _ = some { dst := some 167, op := _, type := _, pos := _, after := _, guard := _ } from rfl) (by kernel_rfl) (by kernel_rfl) (by kernel_rfl) (fun _ _ _ h => h) (Or.inl ⟨by rfl, ?_⟩) hHeld ?_
        rotate_left
        · intro w' hSw
          (try dsimp only at hSw)
          go_simp
          try with_reducible rfl
        try simp only [Act.put, List.setIfInBounds_toArray, List.set_cons_zero, List.set_cons_succ]
        refine wpAnyH_take (i := 10) (v := ?_) (show _ = some { dst := some 168, op := _, type := _, pos := _, after := _, guard := _ } from rfl) (by kernel_rfl) (by kernel_rfl) (by kernel_rfl) (fun _ _ _ h => h) (Or.inl ⟨by rfl, ?_⟩) hHeld ?_
        rotate_left
        · intro w' hSw
          (try dsimp only at hSw)
          go_simp
          try with_reducible rfl
        try simp only [Act.put, List.setIfInBounds_toArray, List.set_cons_zero, List.set_cons_succ]
        refine wpAnyH_ready (rs := [11]) (by kernel_rfl) (by simp) ?_
        refine AllReadyH.cons (show _ = some { dst := some 169, op := _, type := _, pos := _, after := _, guard := _ } from rfl) (fun K hK => ?_) AllReadyH.nil
        go_simp
        refine (sort_cmp X Y _).mono ?_
        rintro e w2 ⟨rfl, hb2⟩
        have HB2 := Lib.hid hb2
        have HRj := Lib.hid (HRi.out.drew.later HG.out hb2)
        clear hb2
        go_wp2_with fail
        refine hK.out _ _ (⟨cell_later2 HB2.out HX.out.1, cell_later2 HB2.out HX.out.2.1, cell_later2 HB2.out HX.out.2.2.1, cell_later2 HB2.out HX.out.2.2.2, cell_later2 HB2.out HY.out.1, cell_later2 HB2.out HY.out.2.1, cell_later2 HB2.out HY.out.2.2.1, cell_later2 HB2.out HY.out.2.2.2⟩) (fun hHeld => ?_)
        clear hK K
        try simp only [Act.put, List.setIfInBounds_toArray, List.set_cons_zero, List.set_cons_succ]
        refine wpAnyH_take (i := 12) (v := ?_) (show _ = some { dst := some 170, op := _, type := _, pos := _, after := _, guard := _ } from rfl) (by kernel_rfl) (by kernel_rfl) (by kernel_rfl) (fun _ _ _ h => h) (Or.inl ⟨by rfl, ?_⟩) hHeld ?_
        rotate_left
        · intro w' hSw
          (try dsimp only at hSw)
          go_simp
          try with_reducible rfl
        try simp only [Act.put, List.setIfInBounds_toArray, List.set_cons_zero, List.set_cons_succ]
        refine wpAnyH_take (i := 13) (v := ?_) (show _ = some { dst := some 171, op := _, type := _, pos := _, after := _, guard := _ } from rfl) (by kernel_rfl) (by kernel_rfl) (by kernel_rfl) (fun _ _ _ h => h) (Or.inl ⟨by rfl, ?_⟩) hHeld ?_
        rotate_left
        · intro w' hSw
          (try dsimp only at hSw)
          go_simp
          try with_reducible rfl
        try simp only [Act.put, List.setIfInBounds_toArray, List.set_cons_zero, List.set_cons_succ]
        refine wpAnyH_done (by kernel_rfl) ?_ _
        clear hHeld
        go_wp2_with fail
        go_roundw
        case rel => exact ⟨H + 1, j, by omega, by omega, hjr, by go_num, rfl, fun _ => by
          rw [Nat.add_sub_cancel, ← HQ1.out, HXe.out, HYe.out]; exact HCm.out, HHi.out, HRj.out, HK.out.drew.trans (kp_of HB2.out)⟩
        case measure => simp [intOf]; omega
end Go.Proofs.YteghbblbkljdhaaDoor
