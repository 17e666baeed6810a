import Derived.Test.YteghbblbkljdhaaDoorSoS
import Derived.Test.YteghbblbkljdhaaDoorAw
import Derived.Deep.CutBlock
namespace Go.Proofs.YteghbblbkljdhaaDoor
open Go.RowKit
theorem Src.ext {w : World} {A : Option Addr} {n : Nat} {f g : Nat → DiagD} (h : Src w A n f) (he : ∀ k, k < n → g k = f k) : Src w A n g := by
  have hf : ∀ m, m ≤ n → flat4 g m = flat4 f m := by
    intro m
    induction m with
    | zero => intro _; rfl
    | succ m ih => intro hm; rw [flat4, flat4, ih (by omega), he m (by omega)]
  rcases h with h | ⟨b, off, hA, hl, hc⟩
  · exact .inl h
  · exact .inr ⟨b, off, hA, hl, by rw [hf n (Nat.le_refl _)]; exact hc⟩
theorem Src.at2 {w : World} {b off n : Nat} {f : Nat → DiagD} (h : Src w (some ⟨b, off, none⟩) n f) {k : Nat} (hk : k < n) : w.cell? ⟨b, off + k * 4, none⟩ = some (.string (f k).f) ∧ w.cell? ⟨b, off + k * 4 + 1, none⟩ = some (.int .i64 (f k).a) ∧ w.cell? ⟨b, off + k * 4 + 2, none⟩ = some (.int .i64 (f k).c) ∧ w.cell? ⟨b, off + k * 4 + 3, none⟩ = some (.string (f k).t) := by
  obtain ⟨b', off', hA, h1⟩ := h.at hk
  injection hA with hA
  injection hA with e1 e2
  subst e1 e2
  exact h1
theorem cnt_bound (p : DiagD → Bool) (f : Nat → DiagD) : ∀ m, cnt p f m ≤ m
  | 0 => by simp [cnt]
  | m + 1 => by have := cnt_bound p f m; unfold cnt; split <;> omega
theorem DiagD.eq_of {x y : DiagD} (h1 : x.f = y.f) (h2 : x.a = y.a) (h3 : x.c = y.c) (h4 : x.t = y.t) : x = y := by
  cases x; cases y; simp only at h1 h2 h3 h4; subst h1 h2 h3 h4; rfl
/-- What is needed of the world that the program starts in. -/
def RepOk (w : World) : Prop := HasSaid w ∧ Tab10 w
theorem RepOk.later {w w' : World} (h : RepOk w) (hb : Below w.heap.size w w') : RepOk w' := ⟨said_below h.1 hb, tab_below h.2 hb⟩
set_option maxRecDepth 100000 in
set_option maxHeartbeats 2000000 in
theorem awake_any (w : World) (h : RepOk w) : Calls Tryd.prog 23 #[] w fun e w' => e = .returned (.bool true) ∧ Below w.heap.size w w' := awake_true w h.1 h.2
set_option maxRecDepth 100000 in
set_option maxHeartbeats 4000000 in
theorem order_any (A : Option Addr) (n c : Nat) (f : Nat → DiagD) (w : World) (hR : RepOk w) (hA : NilOk A n c) (h : Src w A n f) :
    Calls Tryd.prog 9 #[.slice A n c] w fun e w' => e = .returned (.bool true) ∧ Below w.heap.size w w' := by
  have KA := Lib.hid (fun w1 (hb : Below w.heap.size w w1) => awake_any w1 (hR.later hb))
  have HS := Lib.hid h
  have HA := Lib.hid hA
  clear hR h hA
  by_cases hn : 300 < n
  · have tn : decide ((300 : Int) < (n : Int)) = true := by simp; omega
    go_enter Tryd.func9, Tryd.ntmps9
    go_wp2_with fail
    refine (KA.out _ (Below.refl _ _)).mono ?_
    rintro e w1 ⟨rfl, hb1⟩
    go_wp2_with fail
    refine (KA.out _ hb1).mono ?_
    rintro e w2 ⟨rfl, hb2⟩
    go_wp2_with fail
    go_ret
    exact ⟨rfl, hb1.trans (hb2.mono hb1.size)⟩
  have tn : decide ((300 : Int) < (n : Int)) = false := by simp; omega
  go_enter Tryd.func9, Tryd.ntmps9
  go_wp2_with fail
  refine (KA.out _ (Below.refl _ _)).mono ?_
  rintro e w1 ⟨rfl, hb1⟩
  go_upto_region 4 with fail
  go_cut [3] from 17 (fun v wx => ∃ (A1 : Option Addr) (c1 : Nat), v = .slice A1 n c1 ∧ NilOk A1 n c1 ∧ Src wx A1 n f ∧ Below w.heap.size w wx)
  case first =>
    cases A with
    | none =>
      obtain ⟨hn0, hc0⟩ := HA.out rfl
      subst hn0 hc0
      go_wp2_with fail
      go_meet
      exact ⟨none, 0, rfl, fun _ => ⟨rfl, rfl⟩, .inl rfl, hb1⟩
    | some ad =>
      have hcl : ∀ j u, (flat4 f n)[j]? = some u → w1.cell? (ad.add j) = some u := by
        rcases HS.out.later hb1 with h | ⟨b, off, hA, _, hc⟩
        · subst h; intro j u hj; simp [flat4] at hj
        · injection hA with hA; subst hA; exact src_add hc
      have HCl := Lib.hid hcl
      have HB1 := Lib.hid hb1
      have HN := Lib.hid hn
      have HL := Lib.hid (flat4_len f n)
      have HO := Lib.hid (flat4_one f n)
      obtain ⟨i0, hi0, hz0, hz1, hz2⟩ := info_partsD infoD
      clear hcl hb1 hn
      go_wp2_with (at_builtin; go_loud (refine wpList_append_own _ rfl _ _ 60 rfl w1.heap.size 55 i0 (.agg #[.string ⟨#[]⟩, .int .i64 0, .int .i64 0, .string ⟨#[]⟩]) 4 48 Tryd.underlying60 hi0 hz0 hz1 hz2 rfl (by decide) _ _ _ rfl (World.ownsRow_nil _ _ _ _) ad n c (flat4 f n) rfl ?a0 ?a1 ?a2 ?a3 ?a4 ?a5 ?_))
      case a0 => exact HL.out
      case a1 => exact HCl.out
      case a2 => exact HO.out
      case a3 => exact Nat.le_trans (by have := HN.out; omega : 0 + n ≤ 1000) (by decide : 1000 ≤ maxLen)
      case a4 => have := HN.out; omega
      case a5 => exact Nat.le_refl _
      intro v' w' hown hgrow hne
      have hb : Below w1.heap.size w1 w' := (Below.refl w1.heap.size w1).grown hgrow (Nat.le_refl _) (fun k hk => by simp [Value.ownBlock] at hk)
      have hsrc : ∃ (A1 : Option Addr) (c1 : Nat), v' = .slice A1 n c1 ∧ NilOk A1 n c1 ∧ Src w' A1 n f := by
        have h2 := hown.2
        rcases h2 with ⟨h3, h4⟩ | ⟨g, cap, cur, h3, h4, h5, h6, _⟩
        · exact ⟨none, 0, by rw [h3, h4], fun _ => ⟨h4, rfl⟩, .inl h4⟩
        · subst h3
          have hlt : g < w'.heap.size := by
            rcases Nat.lt_or_ge g w'.heap.size with hh | hh
            · exact hh
            · rw [Array.getElem?_eq_none hh] at h5; cases h5
          exact ⟨_, cap, rfl, (fun h => by cases h), src_of_row (row_of_own hown) hlt⟩
      obtain ⟨A1, c1, rfl, hn1, hs1⟩ := hsrc
      have HN1 := Lib.hid hn1
      have HS1 := Lib.hid hs1
      have HB2 := Lib.hid (HB1.out.trans (hb.mono HB1.out.size))
      clear hown hgrow hne hb hn1 hs1
      go_wp2
      go_meet
      exact ⟨A1, c1, rfl, HN1.out, HS1.out, HB2.out⟩
  case rest =>
    obtain ⟨A1, c1, rfl, hn1, hs1, hb2⟩ := hcut
    obtain ⟨w5, hw5⟩ : ∃ w5, w5 = wc := ⟨_, rfl⟩
    subst hw5
    have HN1 := Lib.hid hn1
    have HS1 := Lib.hid hs1
    have HB2 := Lib.hid hb2
    have hn3 : n ≤ 300 := by omega
    clear hn1 hs1 hb2 hb1
    go_wp2_with fail
    refine (sort_prog A1 n c1 f _ (by omega) HN1.out HS1.out).mono ?_
    rintro e w6 ⟨A2, c2, fs, rfl, hn2, hs2, ht2, hc2, hb6⟩
    have HN2 := Lib.hid hn2
    have HS2 := Lib.hid hs2
    have HT2 := Lib.hid ht2
    have HC := Lib.hid hc2
    have HB6 := Lib.hid (HB2.out.trans (hb6.mono HB2.out.size))
    have HS1' := Lib.hid (HS1.out.later hb6)
    clear hn2 hs2 ht2 hc2 hb6
    go_wp2_with fail
    refine (same_diags (f := f) (by omega) HS1'.out (HS.out.later HB6.out)).mono ?_
    rintro e w7 ⟨rfl, hb7⟩
    have HB7 := Lib.hid (HB6.out.trans (hb7.mono HB6.out.size))
    have HS3 := Lib.hid (HS2.out.later hb7)
    clear hb7
    go_wp2_with fail
    refine (sort_prog A2 n c2 fs _ (by omega) HN2.out HS3.out).mono ?_
    rintro e w8 ⟨A3, c3, f3, rfl, hn3', hs3, ht3, hc3, hb8⟩
    have hex := Src.ext hs3 (g := fs) (fun k hk => (srt_unique ord_ltD HT2.out ht3 (fun p => (hc3 p).symm) k hk))
    have HS4 := Lib.hid hex
    have HS5 := Lib.hid (HS3.out.later hb8)
    have HB8 := Lib.hid (HB7.out.trans (hb8.mono HB7.out.size))
    clear hn3' hs3 ht3 hc3 hb8 hex
    go_wp2_with fail
    refine (same_diags (f := fs) (by omega) HS4.out HS5.out).mono ?_
    rintro e w9 ⟨rfl, hb9⟩
    have HB9 := Lib.hid (HB8.out.trans (hb9.mono HB8.out.size))
    have HS6 := Lib.hid (HS5.out.later hb9)
    clear hb9
    go_wp2_with fail
    go_loopw [5] (fun v wr => ∃ i : Nat, i ≤ n ∧ v = .int .i64 i ∧ Below w9.heap.size w9 wr) (fun v _ => n - (intOf v).toNat)
    case atStart => exact ⟨0, by omega, rfl, Below.refl _ _⟩
    case round =>
      obtain ⟨i, hi, rfl, hBi⟩ := hrel
      have HBi := Lib.hid (HB9.out.trans (hBi.mono HB9.out.size))
      have HSi := Lib.hid (HS6.out.later hBi)
      by_cases hlt : i < n
      case neg =>
        obtain rfl : i = n := by omega
        have ti : decide ((i : Int) < (i : Int)) = false := by simp
        clear hlt hBi
        go_wp2_with fail
        go_ret
        exact ⟨rfl, HBi.out⟩
      have ti : decide ((i : Int) < (n : Int)) = true := by simp; omega
      have HBx := Lib.hid hBi
      obtain ⟨sb, so, hsA, _⟩ := HSi.out.at hlt
      subst hsA
      clear hBi
      cases i with
      | zero =>
        have tz : decide ((0 : Int) < ((0 : Nat) : Int)) = false := by simp
        have tz2 : decide ((0 : Int) < (0 : Int)) = false := by simp
        go_wp2_with fail
        refine wp_region_held_drew (S := (fun _ => True)) (by kernel_rfl) trivial (fun hHeld => ?_)
        refine wpAnyH_take (i := 0) (v := ?_) (show _ = some { dst := some 46, op := _, type := _, pos := _, after := _, guard := _ } from rfl) (by kernel_rfl) (by kernel_rfl) (by kernel_rfl) (fun _ _ _ h => h) (Or.inl ⟨by rfl, ?_⟩) hHeld ?_
        rotate_left
        · intro w' hSw
          (try dsimp only at hSw)
          go_simp
          try with_reducible rfl
        try simp only [Act.put, List.setIfInBounds_toArray, List.set_cons_zero, List.set_cons_succ]
        refine wpAnyH_take (i := 1) (v := ?_) (show _ = some { dst := some 47, op := _, type := _, pos := _, after := _, guard := _ } from rfl) (by kernel_rfl) (by kernel_rfl) (by kernel_rfl) (fun _ _ _ h => h) (Or.inl ⟨by rfl, ?_⟩) hHeld ?_
        rotate_left
        · intro w' hSw
          (try dsimp only at hSw)
          go_simp
          try with_reducible rfl
        try simp only [Act.put, List.setIfInBounds_toArray, List.set_cons_zero, List.set_cons_succ]
        refine wpAnyH_take (i := 2) (v := ?_) (show _ = some { dst := some 48, op := _, type := _, pos := _, after := _, guard := _ } from rfl) (by kernel_rfl) (by kernel_rfl) (by kernel_rfl) (fun _ _ _ h => h) (Or.inl ⟨by rfl, ?_⟩) hHeld ?_
        rotate_left
        · intro w' hSw
          (try dsimp only at hSw)
          go_simp
          try with_reducible rfl
        try simp only [Act.put, List.setIfInBounds_toArray, List.set_cons_zero, List.set_cons_succ]
        refine wpAnyH_take (i := 3) (v := undef) (show _ = some { dst := some 49, op := _, type := _, pos := _, after := _, guard := _ } from rfl) (by kernel_rfl) (by kernel_rfl) (by kernel_rfl) (fun _ _ _ h => h) (Or.inr ⟨by rfl, rfl⟩) hHeld ?_
        try simp only [Act.put, List.setIfInBounds_toArray, List.set_cons_zero, List.set_cons_succ]
        refine wpAnyH_take (i := 4) (v := undef) (show _ = some { dst := some 50, op := _, type := _, pos := _, after := _, guard := _ } from rfl) (by kernel_rfl) (by kernel_rfl) (by kernel_rfl) (fun _ _ _ h => h) (Or.inr ⟨by rfl, rfl⟩) hHeld ?_
        try simp only [Act.put, List.setIfInBounds_toArray, List.set_cons_zero, List.set_cons_succ]
        refine wpAnyH_take (i := 5) (v := undef) (show _ = some { dst := some 51, op := _, type := _, pos := _, after := _, guard := _ } from rfl) (by kernel_rfl) (by kernel_rfl) (by kernel_rfl) (fun _ _ _ h => h) (Or.inr ⟨by rfl, rfl⟩) hHeld ?_
        try simp only [Act.put, List.setIfInBounds_toArray, List.set_cons_zero, List.set_cons_succ]
        refine wpAnyH_take (i := 6) (v := undef) (show _ = some { dst := some 52, op := _, type := _, pos := _, after := _, guard := _ } from rfl) (by kernel_rfl) (by kernel_rfl) (by kernel_rfl) (fun _ _ _ h => h) (Or.inr ⟨by rfl, rfl⟩) hHeld ?_
        try simp only [Act.put, List.setIfInBounds_toArray, List.set_cons_zero, List.set_cons_succ]
        refine wpAnyH_take (i := 7) (v := undef) (show _ = some { dst := some 53, op := _, type := _, pos := _, after := _, guard := _ } from rfl) (by kernel_rfl) (by kernel_rfl) (by kernel_rfl) (fun _ _ _ h => h) (Or.inr ⟨by rfl, rfl⟩) hHeld ?_
        try simp only [Act.put, List.setIfInBounds_toArray, List.set_cons_zero, List.set_cons_succ]
        refine wpAnyH_take (i := 8) (v := undef) (show _ = some { dst := some 54, op := _, type := _, pos := _, after := _, guard := _ } from rfl) (by kernel_rfl) (by kernel_rfl) (by kernel_rfl) (fun _ _ _ h => h) (Or.inr ⟨by rfl, rfl⟩) hHeld ?_
        try simp only [Act.put, List.setIfInBounds_toArray, List.set_cons_zero, List.set_cons_succ]
        refine wpAnyH_take (i := 9) (v := undef) (show _ = some { dst := some 55, op := _, type := _, pos := _, after := _, guard := _ } from rfl) (by kernel_rfl) (by kernel_rfl) (by kernel_rfl) (fun _ _ _ h => h) (Or.inr ⟨by rfl, rfl⟩) hHeld ?_
        try simp only [Act.put, List.setIfInBounds_toArray, List.set_cons_zero, List.set_cons_succ]
        refine wpAnyH_take (i := 10) (v := undef) (show _ = some { dst := some 56, op := _, type := _, pos := _, after := _, guard := _ } from rfl) (by kernel_rfl) (by kernel_rfl) (by kernel_rfl) (fun _ _ _ h => h) (Or.inr ⟨by rfl, rfl⟩) hHeld ?_
        try simp only [Act.put, List.setIfInBounds_toArray, List.set_cons_zero, List.set_cons_succ]
        refine wpAnyH_take (i := 11) (v := undef) (show _ = some { dst := some 57, op := _, type := _, pos := _, after := _, guard := _ } from rfl) (by kernel_rfl) (by kernel_rfl) (by kernel_rfl) (fun _ _ _ h => h) (Or.inr ⟨by rfl, rfl⟩) hHeld ?_
        try simp only [Act.put, List.setIfInBounds_toArray, List.set_cons_zero, List.set_cons_succ]
        refine wpAnyH_take (i := 12) (v := undef) (show _ = some { dst := some 58, op := _, type := _, pos := _, after := _, guard := _ } from rfl) (by kernel_rfl) (by kernel_rfl) (by kernel_rfl) (fun _ _ _ h => h) (Or.inr ⟨by rfl, rfl⟩) hHeld ?_
        try simp only [Act.put, List.setIfInBounds_toArray, List.set_cons_zero, List.set_cons_succ]
        refine wpAnyH_take (i := 13) (v := ?_) (show _ = some { dst := some 59, op := _, type := _, pos := _, after := _, guard := _ } from rfl) (by kernel_rfl) (by kernel_rfl) (by kernel_rfl) (fun _ _ _ h => h) (Or.inl ⟨by rfl, ?_⟩) hHeld ?_
        rotate_left
        · intro w' hSw
          (try dsimp only at hSw)
          go_simp
          try with_reducible rfl
        try simp only [Act.put, List.setIfInBounds_toArray, List.set_cons_zero, List.set_cons_succ]
        refine wpAnyH_done (by kernel_rfl) ?_ _
        clear hHeld
        have HBt := Lib.hid (below_drewD HBx.out)
        go_wp2_with fail
        generalize hXe : fs (0) = X
        have HXe := Lib.hid hXe
        obtain ⟨p, hp⟩ : ∃ p : DiagD → Bool, ∀ d, p d = true ↔ d = X := by
          classical
          exact ⟨fun d => decide (d = X), fun d => by simp⟩
        have HP := Lib.hid hp
        clear hXe hp
        go_loopw [6, 7, 8] (fun u v x wr2 => ∃ q : Nat, q ≤ n ∧ u = .int .i64 (cnt p f q : Nat) ∧ v = .int .i64 (cnt p fs q : Nat) ∧ x = .int .i64 q ∧ Below w9.heap.size w9 wr2) (fun _ _ x _ => n - (intOf x).toNat)
        case atStart => exact ⟨0, by omega, rfl, rfl, rfl, HBt.out⟩
        case round =>
          obtain ⟨q, hqn, rfl, rfl, rfl, hBq⟩ := hrel
          have HBq := Lib.hid hBq
          by_cases hlt2 : q < n
          case neg =>
            obtain rfl : q = n := by omega
            have tk : decide ((q : Int) < (q : Int)) = false := by simp
            have hc := HC.out p
            rw [hc]
            clear hBq hlt2 hc
            go_wp2_with fail
            exact ⟨⟨0 + 1, by omega, by go_num, HBq.out⟩, by simp [intOf]; omega⟩
          have tq : decide ((q : Int) < (n : Int)) = true := by simp; omega
          have tq2 : (q : Int) < (n : Int) := by omega
          have ti2 : ((0 : Nat) : Int) < (n : Int) := by omega
          have ti3 : ((0 : Nat) : Int) < (n : Int) := by omega
          have HSl := (HS.out.later HB9.out).later hBq
          have HSs := HS6.out.later hBq
          obtain ⟨lb, lo, hlA, a0, a1, a2, a3⟩ := HSl.at hlt2
          obtain ⟨b0, b1, b2, b3⟩ := HSs.at2 (k := 0) (by omega)
          obtain ⟨c0, c1, c2, c3⟩ := HSs.at2 (k := q) hlt2
          have hXe := HXe.out
          simp only [hXe] at b0 b1 b2 b3
          simp only [Nat.zero_mul, Nat.add_zero] at b0 b1 b2 b3
          have tz3 : (0 : Int) < (n : Int) := by omega
          subst hlA
          have n1 : cnt p f (q + 1) = cnt p f q + (if p (f q) = true then 1 else 0) := rfl
          have n2 : cnt p fs (q + 1) = cnt p fs q + (if p (fs q) = true then 1 else 0) := rfl
          have hc1 : cnt p f q ≤ q := cnt_bound p f q
          have hc2 : cnt p fs q ≤ q := cnt_bound p fs q
          have hq1 := fun w' => eql_diag (f q) X (p (f q)) (HP.out (f q)) w'
          have hq2 := fun w' => eql_diag (fs q) X (p (fs q)) (HP.out (fs q)) w'
          clear HSl HSs hBq hXe
          cases hpq : p (f q) <;> cases hps : p (fs q)
          all_goals (
            rw [hpq] at hq1 n1
            rw [hps] at hq2 n2
            simp only [Bool.false_eq_true, if_true, if_false, Nat.add_zero] at n1 n2
            have HN12 := Lib.hid (And.intro n1 n2)
            clear n1 n2 hpq hps
            go_wp2_with fail
            go_quiet (fail)
            go_wp2_with fail
            go_quiet (fail)
            go_wp2_with fail
            exact ⟨⟨q + 1, by omega, by rw [HN12.out.1] <;> go_num, by rw [HN12.out.2] <;> go_num, by go_num, bdnD HBq.out _⟩, by simp [intOf]; omega⟩)
      | succ k =>
        obtain ⟨x0, x1, x2, x3⟩ := HSi.out.at2 hlt
        obtain ⟨y0, y1, y2, y3⟩ := HSi.out.at2 (k := k) (by omega)
        have hnl := HT2.out k (k + 1) (by omega) (by omega) hlt
        generalize hX : fs (k + 1) = X at x0 x1 x2 x3 hnl
        generalize hY : fs k = Y at y0 y1 y2 y3 hnl
        have HX := Lib.hid (And.intro (drew_cell x0) (And.intro (drew_cell x1) (And.intro (drew_cell x2) (drew_cell x3))))
        have HY := Lib.hid (And.intro (drew_cell y0) (And.intro (drew_cell y1) (And.intro (drew_cell y2) (drew_cell y3))))
        have HNl := Lib.hid hnl
        have tk1 : decide ((0 : Int) < ((k + 1 : Nat) : Int)) = true := decide_eq_true (by omega)
        have tk2 : decide ((0 : Int) < (k : Int) + 1) = true := decide_eq_true (by omega)
        have i1 : (0 : Int) ≤ (k : Int) + 1 := by omega
        have i2 : (k : Int) + 1 < (n : Int) := by omega
        have i3 : IntKind.i64.wrap (k : Int) = (k : Int) := by rw [IntKind.wrap_i64]; omega
        have i4 : (k : Int) < (n : Int) := by omega
        clear x0 x1 x2 x3 y0 y1 y2 y3 hX hY hnl
        go_wp2_with fail
        refine wp_region_held_drew (S := (fun w' => w'.cell? ⟨sb, so + (k + 1) * 4, none⟩ = some (.string X.f) ∧ w'.cell? ⟨sb, so + (k + 1) * 4 + 1, none⟩ = some (.int .i64 X.a) ∧ w'.cell? ⟨sb, so + (k + 1) * 4 + 2, none⟩ = some (.int .i64 X.c) ∧ w'.cell? ⟨sb, so + (k + 1) * 4 + 3, none⟩ = some (.string X.t) ∧ w'.cell? ⟨sb, so + k * 4, none⟩ = some (.string Y.f) ∧ w'.cell? ⟨sb, so + k * 4 + 1, none⟩ = some (.int .i64 Y.a) ∧ w'.cell? ⟨sb, so + k * 4 + 2, none⟩ = some (.int .i64 Y.c) ∧ w'.cell? ⟨sb, so + k * 4 + 3, none⟩ = some (.string Y.t))) (by kernel_rfl) ⟨HX.out.1, HX.out.2.1, HX.out.2.2.1, HX.out.2.2.2, HY.out.1, HY.out.2.1, HY.out.2.2.1, HY.out.2.2.2⟩ (fun hHeld => ?_)
        refine wpAnyH_take (i := 0) (v := ?_) (show _ = some { dst := some 46, op := _, type := _, pos := _, after := _, guard := _ } from rfl) (by kernel_rfl) (by kernel_rfl) (by kernel_rfl) (fun _ _ _ h => h) (Or.inl ⟨by rfl, ?_⟩) hHeld ?_
        rotate_left
        · intro w' hSw
          (try dsimp only at hSw)
          go_simp
          try with_reducible rfl
        try simp only [Act.put, List.setIfInBounds_toArray, List.set_cons_zero, List.set_cons_succ]
        refine wpAnyH_take (i := 1) (v := ?_) (show _ = some { dst := some 47, op := _, type := _, pos := _, after := _, guard := _ } from rfl) (by kernel_rfl) (by kernel_rfl) (by kernel_rfl) (fun _ _ _ h => h) (Or.inl ⟨by rfl, ?_⟩) hHeld ?_
        rotate_left
        · intro w' hSw
          (try dsimp only at hSw)
          go_simp
          try with_reducible rfl
        try simp only [Act.put, List.setIfInBounds_toArray, List.set_cons_zero, List.set_cons_succ]
        refine wpAnyH_take (i := 2) (v := ?_) (show _ = some { dst := some 48, op := _, type := _, pos := _, after := _, guard := _ } from rfl) (by kernel_rfl) (by kernel_rfl) (by kernel_rfl) (fun _ _ _ h => h) (Or.inl ⟨by rfl, ?_⟩) hHeld ?_
        rotate_left
        · intro w' hSw
          (try dsimp only at hSw)
          go_simp
          try with_reducible rfl
        try simp only [Act.put, List.setIfInBounds_toArray, List.set_cons_zero, List.set_cons_succ]
        refine wpAnyH_take (i := 3) (v := ?_) (show _ = some { dst := some 49, op := _, type := _, pos := _, after := _, guard := _ } from rfl) (by kernel_rfl) (by kernel_rfl) (by kernel_rfl) (fun _ _ _ h => h) (Or.inl ⟨by rfl, ?_⟩) hHeld ?_
        rotate_left
        · intro w' hSw
          (try dsimp only at hSw)
          go_simp
          try with_reducible rfl
        try simp only [Act.put, List.setIfInBounds_toArray, List.set_cons_zero, List.set_cons_succ]
        refine wpAnyH_take (i := 4) (v := ?_) (show _ = some { dst := some 50, op := _, type := _, pos := _, after := _, guard := _ } from rfl) (by kernel_rfl) (by kernel_rfl) (by kernel_rfl) (fun _ _ _ h => h) (Or.inl ⟨by rfl, ?_⟩) hHeld ?_
        rotate_left
        · intro w' hSw
          (try dsimp only at hSw)
          go_simp
          try with_reducible rfl
        try simp only [Act.put, List.setIfInBounds_toArray, List.set_cons_zero, List.set_cons_succ]
        refine wpAnyH_take (i := 5) (v := ?_) (show _ = some { dst := some 51, op := _, type := _, pos := _, after := _, guard := _ } from rfl) (by kernel_rfl) (by kernel_rfl) (by kernel_rfl) (fun _ _ _ h => h) (Or.inl ⟨by rfl, ?_⟩) hHeld ?_
        rotate_left
        · intro w' hSw
          (try dsimp only at hSw)
          go_simp
          try with_reducible rfl
        try simp only [Act.put, List.setIfInBounds_toArray, List.set_cons_zero, List.set_cons_succ]
        refine wpAnyH_take (i := 6) (v := ?_) (show _ = some { dst := some 52, op := _, type := _, pos := _, after := _, guard := _ } from rfl) (by kernel_rfl) (by kernel_rfl) (by kernel_rfl) (fun _ _ _ h => h) (Or.inl ⟨by rfl, ?_⟩) hHeld ?_
        rotate_left
        · intro w' hSw
          (try dsimp only at hSw)
          go_simp
          try with_reducible rfl
        try simp only [Act.put, List.setIfInBounds_toArray, List.set_cons_zero, List.set_cons_succ]
        refine wpAnyH_take (i := 7) (v := ?_) (show _ = some { dst := some 53, op := _, type := _, pos := _, after := _, guard := _ } from rfl) (by kernel_rfl) (by kernel_rfl) (by kernel_rfl) (fun _ _ _ h => h) (Or.inl ⟨by rfl, ?_⟩) hHeld ?_
        rotate_left
        · intro w' hSw
          (try dsimp only at hSw)
          go_simp
          try with_reducible rfl
        try simp only [Act.put, List.setIfInBounds_toArray, List.set_cons_zero, List.set_cons_succ]
        refine wpAnyH_take (i := 8) (v := ?_) (show _ = some { dst := some 54, op := _, type := _, pos := _, after := _, guard := _ } from rfl) (by kernel_rfl) (by kernel_rfl) (by kernel_rfl) (fun _ _ _ h => h) (Or.inl ⟨by rfl, ?_⟩) hHeld ?_
        rotate_left
        · intro w' hSw
          (try dsimp only at hSw)
          go_simp
          try with_reducible rfl
        try simp only [Act.put, List.setIfInBounds_toArray, List.set_cons_zero, List.set_cons_succ]
        refine wpAnyH_take (i := 9) (v := ?_) (show _ = some { dst := some 55, op := _, type := _, pos := _, after := _, guard := _ } from rfl) (by kernel_rfl) (by kernel_rfl) (by kernel_rfl) (fun _ _ _ h => h) (Or.inl ⟨by rfl, ?_⟩) hHeld ?_
        rotate_left
        · intro w' hSw
          (try dsimp only at hSw)
          go_simp
          try with_reducible rfl
        try simp only [Act.put, List.setIfInBounds_toArray, List.set_cons_zero, List.set_cons_succ]
        refine wpAnyH_take (i := 10) (v := ?_) (show _ = some { dst := some 56, op := _, type := _, pos := _, after := _, guard := _ } from rfl) (by kernel_rfl) (by kernel_rfl) (by kernel_rfl) (fun _ _ _ h => h) (Or.inl ⟨by rfl, ?_⟩) hHeld ?_
        rotate_left
        · intro w' hSw
          (try dsimp only at hSw)
          go_simp
          try with_reducible rfl
        try simp only [Act.put, List.setIfInBounds_toArray, List.set_cons_zero, List.set_cons_succ]
        refine wpAnyH_take (i := 11) (v := ?_) (show _ = some { dst := some 57, op := _, type := _, pos := _, after := _, guard := _ } from rfl) (by kernel_rfl) (by kernel_rfl) (by kernel_rfl) (fun _ _ _ h => h) (Or.inl ⟨by rfl, ?_⟩) hHeld ?_
        rotate_left
        · intro w' hSw
          (try dsimp only at hSw)
          go_simp
          try with_reducible rfl
        try simp only [Act.put, List.setIfInBounds_toArray, List.set_cons_zero, List.set_cons_succ]
        refine wpAnyH_ready (rs := [12]) (by kernel_rfl) (by simp) ?_
        refine AllReadyH.cons (show _ = some { dst := some 58, op := _, type := _, pos := _, after := _, guard := _ } from rfl) (fun K hK => ?_) AllReadyH.nil
        go_simp
        refine (less_ref X Y false (by simpa using HNl.out) _).mono ?_
        rintro e w2 ⟨rfl, hb2⟩
        have HB2 := Lib.hid hb2
        clear hb2
        go_wp2_with fail
        refine hK.out _ _ (⟨cell_later2 HB2.out HX.out.1, cell_later2 HB2.out HX.out.2.1, cell_later2 HB2.out HX.out.2.2.1, cell_later2 HB2.out HX.out.2.2.2, cell_later2 HB2.out HY.out.1, cell_later2 HB2.out HY.out.2.1, cell_later2 HB2.out HY.out.2.2.1, cell_later2 HB2.out HY.out.2.2.2⟩) (fun hHeld => ?_)
        clear hK K
        try simp only [Act.put, List.setIfInBounds_toArray, List.set_cons_zero, List.set_cons_succ]
        refine wpAnyH_take (i := 13) (v := ?_) (show _ = some { dst := some 59, op := _, type := _, pos := _, after := _, guard := _ } from rfl) (by kernel_rfl) (by kernel_rfl) (by kernel_rfl) (fun _ _ _ h => h) (Or.inl ⟨by rfl, ?_⟩) hHeld ?_
        rotate_left
        · intro w' hSw
          (try dsimp only at hSw)
          go_simp
          try with_reducible rfl
        try simp only [Act.put, List.setIfInBounds_toArray, List.set_cons_zero, List.set_cons_succ]
        refine wpAnyH_done (by kernel_rfl) ?_ _
        clear hHeld
        have HBt := Lib.hid ((below_drewD HBx.out).trans (HB2.out.mono (below_drewD HBx.out).size))
        go_wp2_with fail
        generalize hXe : fs (k + 1) = X
        have HXe := Lib.hid hXe
        obtain ⟨p, hp⟩ : ∃ p : DiagD → Bool, ∀ d, p d = true ↔ d = X := by
          classical
          exact ⟨fun d => decide (d = X), fun d => by simp⟩
        have HP := Lib.hid hp
        clear hXe hp
        go_loopw [6, 7, 8] (fun u v x wr2 => ∃ q : Nat, q ≤ n ∧ u = .int .i64 (cnt p f q : Nat) ∧ v = .int .i64 (cnt p fs q : Nat) ∧ x = .int .i64 q ∧ Below w9.heap.size w9 wr2) (fun _ _ x _ => n - (intOf x).toNat)
        case atStart => exact ⟨0, by omega, rfl, rfl, rfl, HBt.out⟩
        case round =>
          obtain ⟨q, hqn, rfl, rfl, rfl, hBq⟩ := hrel
          have HBq := Lib.hid hBq
          by_cases hlt2 : q < n
          case neg =>
            obtain rfl : q = n := by omega
            have tk : decide ((q : Int) < (q : Int)) = false := by simp
            have hc := HC.out p
            rw [hc]
            clear hBq hlt2 hc
            go_wp2_with fail
            exact ⟨⟨k + 1 + 1, by omega, by go_num, HBq.out⟩, by simp [intOf]; omega⟩
          have tq : decide ((q : Int) < (n : Int)) = true := by simp; omega
          have tq2 : (q : Int) < (n : Int) := by omega
          have ti2 : ((k + 1 : Nat) : Int) < (n : Int) := by omega
          have ti3 : (k : Int) + 1 < (n : Int) := by omega
          have HSl := (HS.out.later HB9.out).later hBq
          have HSs := HS6.out.later hBq
          obtain ⟨lb, lo, hlA, a0, a1, a2, a3⟩ := HSl.at hlt2
          obtain ⟨b0, b1, b2, b3⟩ := HSs.at2 (k := k + 1) (by omega)
          obtain ⟨c0, c1, c2, c3⟩ := HSs.at2 (k := q) hlt2
          have hXe := HXe.out
          simp only [hXe] at b0 b1 b2 b3
          subst hlA
          have n1 : cnt p f (q + 1) = cnt p f q + (if p (f q) = true then 1 else 0) := rfl
          have n2 : cnt p fs (q + 1) = cnt p fs q + (if p (fs q) = true then 1 else 0) := rfl
          have hc1 : cnt p f q ≤ q := cnt_bound p f q
          have hc2 : cnt p fs q ≤ q := cnt_bound p fs q
          have hq1 := fun w' => eql_diag (f q) X (p (f q)) (HP.out (f q)) w'
          have hq2 := fun w' => eql_diag (fs q) X (p (fs q)) (HP.out (fs q)) w'
          clear HSl HSs hBq hXe
          cases hpq : p (f q) <;> cases hps : p (fs q)
          all_goals (
            rw [hpq] at hq1 n1
            rw [hps] at hq2 n2
            simp only [Bool.false_eq_true, if_true, if_false, Nat.add_zero] at n1 n2
            have HN12 := Lib.hid (And.intro n1 n2)
            clear n1 n2 hpq hps
            go_wp2_with fail
            go_quiet (fail)
            go_wp2_with fail
            go_quiet (fail)
            go_wp2_with fail
            exact ⟨⟨q + 1, by omega, by rw [HN12.out.1] <;> go_num, by rw [HN12.out.2] <;> go_num, by go_num, bdnD HBq.out _⟩, by simp [intOf]; omega⟩)
end Go.Proofs.YteghbblbkljdhaaDoor
