import Derived.Test.YteghbblbkljdhaaDoorSoO
namespace Go.Proofs.YteghbblbkljdhaaDoor
open Go.RowKit
theorem own_later4 {w w' : World} {base : Nat} {e : TypeId} {size n : Nat} {v : Value} {xs : List Value} (h : w.ownsRow base e size v n xs) (hb : Below w.heap.size w w') : w'.ownsRow base e size v n xs := by
  refine ⟨h.1, ?_⟩
  rcases h.2 with h0 | ⟨g, cap, cur, hv, hbg, hg, h1, h2, h3, h4⟩
  · exact .inl h0
  · have hlt : g < w.heap.size := by
      rcases Nat.lt_or_ge g w.heap.size with hh | hh
      · exact hh
      · rw [Array.getElem?_eq_none hh] at hg; cases hg
    exact .inr ⟨g, cap, cur, hv, hbg, (hb.block g hlt).trans hg, h1, h2, h3, h4⟩
theorem cnt_shr (p : DiagD → Bool) (f : Nat → DiagD) (m n : Nat) (hm : m < n) : ∀ d k, k + d = m → cnt p (shr f k m) n = cnt p f n
  | 0, k, h => by
    obtain rfl : k = m := by omega
    rw [shr_start]
  | d + 1, k, h => by
    rw [← shr_step f k m (by omega), cnt_swp p _ (by omega) (by omega)]
    exact cnt_shr p f m n hm d (k + 1) (by omega)
theorem swp_hole (c : Nat → DiagD) (k : Nat) (x : DiagD) : swp (upd c (k + 1) x) (k + 1) k = upd (upd c (k + 1) (c k)) k x := by
  funext t
  unfold swp upd
  by_cases h1 : t = k + 1
  · subst h1
    rw [if_pos rfl, if_neg (by omega), if_neg (by omega), if_pos rfl]
  · rw [if_neg h1]
    by_cases h2 : t = k
    · subst h2
      rw [if_pos rfl, if_pos rfl, if_pos rfl]
    · rw [if_neg h2, if_neg h1, if_neg h2, if_neg h1]
theorem flat4_upd (c : Nat → DiagD) (n k : Nat) (d : DiagD) (hk : k < n) : flat4 (upd c k d) n = ((((flat4 c n).set (k * 4) (.string d.f)).set (k * 4 + 1) (.int .i64 d.a)).set (k * 4 + 2) (.int .i64 d.c)).set (k * 4 + 3) (.string d.t) := by
  apply List.ext_getElem?
  intro j
  by_cases hj : j < n * 4
  · obtain ⟨q, x, hx, rfl⟩ : ∃ q x, x < 4 ∧ j = q * 4 + x := ⟨j / 4, j % 4, by omega, by omega⟩
    rw [flat4_at _ n q x (by omega) hx]
    simp only [List.getElem?_set, List.length_set, flat4_len]
    by_cases hq : q = k
    · subst hq
      rcases x with _ | _ | _ | _ | x
      · rw [if_neg (by omega), if_neg (by omega), if_neg (by omega), if_pos (by omega), if_pos (by omega)]
        simp [cells4, upd]
      · rw [if_neg (by omega), if_neg (by omega), if_pos (by omega), if_pos (by omega)]
        simp [cells4, upd]
      · rw [if_neg (by omega), if_pos (by omega), if_pos (by omega)]
        simp [cells4, upd]
      · rw [if_pos (by omega), if_pos (by omega)]
        simp [cells4, upd]
      · omega
    · rw [if_neg (by omega), if_neg (by omega), if_neg (by omega), if_neg (by omega), flat4_at _ n q x (by omega) hx]
      unfold upd
      rw [if_neg hq]
  · rw [List.getElem?_eq_none (by rw [flat4_len]; omega), List.getElem?_eq_none (by simp only [List.length_set, flat4_len]; omega)]
theorem own_set4 {w : World} {base g n c : Nat} {f : Nat → DiagD} (h : w.ownsRow base 55 4 (.slice (some ⟨g, 0, none⟩) n c) n (flat4 f n)) {k : Nat} (hk : k < n) (d : DiagD) : (set4 w g k d).ownsRow base 55 4 (.slice (some ⟨g, 0, none⟩) n c) n (flat4 (upd f k d) n) := by
  rw [flat4_upd f n k d hk]
  exact (((h.stored (k * 4) _).1.stored (k * 4 + 1) _).1.stored (k * 4 + 2) _).1.stored (k * 4 + 3) _ |>.1
theorem cells4_new (w : World) (d : DiagD) : ∀ j u, (cells4 d)[j]? = some u → (w.alloc (.cells (cells4 d).toArray 55)).cell? ((⟨w.heap.size, 0, none⟩ : Addr).add j) = some u := by
  intro j u hj
  have e : ((⟨w.heap.size, 0, none⟩ : Addr).add j) = ⟨w.heap.size, j, none⟩ := by
    unfold Addr.add
    by_cases h2 : j = 0 <;> simp [h2]
  obtain ⟨b0, b1, b2, b3⟩ := box4 w (.string d.f) (.int .i64 d.a) (.int .i64 d.c) (.string d.t) 55
  rw [e]
  rcases j with _ | _ | _ | _ | j
  · exact b0.trans hj
  · exact b1.trans hj
  · exact b2.trans hj
  · exact b3.trans hj
  · simp [cells4] at hj
theorem four_one (d : DiagD) : ∀ u ∈ cells4 d, u.oneCell' = true := by
  intro u h
  simp only [cells4, List.mem_cons, List.not_mem_nil, or_false] at h
  rcases h with rfl | rfl | rfl | rfl <;> rfl
theorem flat4_push (h : Nat → DiagD) (i : Nat) (d : DiagD) : flat4 (upd h i d) (i + 1) = flat4 h i ++ cells4 d := by
  rw [flat4]
  have h1 : ∀ m, m ≤ i → flat4 (upd h i d) m = flat4 h m := by
    intro m
    induction m with
    | zero => intro _; rfl
    | succ m ih => intro hm; rw [flat4, flat4, ih (by omega)]; unfold upd; rw [if_neg (by omega)]
  rw [h1 i (Nat.le_refl _)]
  unfold upd
  rw [if_pos rfl]
set_option maxRecDepth 100000 in
set_option maxHeartbeats 4000000 in
/-- The reference's Sort. -/
theorem sort_ref (A : Option Addr) (n c : Nat) (f : Nat → DiagD) (w : World) (hn : n ≤ 1000000) (h : Src w A n f) :
    Calls Tryd.prog 30 #[.slice A n c] w fun e w' => ∃ A' c' f', e = .returned (.slice A' n c') ∧ Src w' A' n f' ∧ Srt ltD f' 0 n ∧ (∀ p, cnt p f' n = cnt p f n) ∧ Below w.heap.size w w' := by
  have HS := Lib.hid h
  obtain ⟨i0, hi0, hz0, hz1, hz2⟩ := info_partsD infoD
  clear h
  go_enter Tryd.func30, Tryd.ntmps30
  go_wp2_with fail
  go_loopw [3, 4] (fun o v wr => ∃ (i : Nat) (h : Nat → DiagD) (Ao : Option Addr) (co : Nat), i ≤ n ∧ v = .int .i64 i ∧ o = .slice Ao i co ∧ wr.ownsRow w.heap.size 55 4 (.slice Ao i co) i (flat4 h i) ∧ Srt ltD h 0 i ∧ (∀ p, cnt p h i = cnt p f i) ∧ Below w.heap.size w wr) (fun _ v _ => n - (intOf v).toNat)
  case atStart => exact ⟨0, f, none, 0, by omega, rfl, rfl, World.ownsRow_nil _ _ _ _, Srt.one (by omega), fun _ => rfl, Below.refl _ _⟩
  case round =>
    obtain ⟨i, h, Ao, co, hi, rfl, rfl, hown, hsrt, hcnt, hB⟩ := hrel
    have HO := Lib.hid hown
    have HT := Lib.hid hsrt
    have HC := Lib.hid hcnt
    have HB := Lib.hid hB
    clear hown hsrt hcnt
    by_cases hlt : i < n
    case neg =>
      obtain rfl : i = n := by omega
      have ti : decide ((i : Int) < (i : Int)) = false := by simp
      clear hB hlt
      go_wp2_with fail
      go_ret
      refine ⟨Ao, co, h, rfl, ?_, HT.out, HC.out, HB.out⟩
      rcases HO.out.2 with ⟨_, h4⟩ | ⟨g, cap, cur, h3, h4, h5, h6, _⟩
      · exact .inl h4
      · injection h3 with h3 _ h7
        subst h3 h7
        have hl : g < wr.heap.size := by
          rcases Nat.lt_or_ge g wr.heap.size with hh | hh
          · exact hh
          · rw [Array.getElem?_eq_none hh] at h5; cases h5
        exact src_of_row (row_of_own HO.out) hl
    obtain ⟨lb, lo, hlA, a0, a1, a2, a3⟩ := (HS.out.later hB).at hlt
    subst hlA
    have HSl := Lib.hid (HS.out.later hB)
    have HLt := Lib.hid hlt
    have HA := Lib.hid (And.intro a0 (And.intro a1 (And.intro a2 a3)))
    have ti : decide ((i : Int) < (n : Int)) = true := by simp; omega
    have ti2 : (i : Int) < (n : Int) := by omega
    have HCN := Lib.hid (fun W => cells4_new W (f i))
    have HF1 := Lib.hid (four_one (f i))
    clear hB
    go_wp2_with (at_builtin; go_loud (refine wpList_append_own _ rfl _ _ 60 rfl w.heap.size 55 i0 (.agg #[.string ⟨#[]⟩, .int .i64 0, .int .i64 0, .string ⟨#[]⟩]) 4 48 Tryd.underlying60 hi0 hz0 hz1 hz2 rfl (by decide) _ _ _ rfl (HO.out.alloc _) ⟨wr.heap.size, 0, none⟩ 1 1 (cells4 (f i)) rfl ?a0 ?a1 ?a2 ?a3 ?a4 ?a5 ?_))
    case a0 => rfl
    case a1 => exact HCN.out _
    case a2 => exact HF1.out
    case a3 => exact Nat.le_trans (by omega : i + 1 ≤ 1000001) (by decide : 1000001 ≤ maxLen)
    case a4 => omega
    case a5 => simp only [World.size_alloc]; have := HB.out.size; omega
    intro v' w' hown hgrow _
    obtain ⟨g, cap, hv, hgb, hgl⟩ : ∃ g cap, v' = .slice (some ⟨g, 0, none⟩) (i + 1) cap ∧ w.heap.size ≤ g ∧ g < w'.heap.size := by
      rcases hown.2 with ⟨_, h4⟩ | ⟨g, cap, cur, h3, h4, h5, h6, _⟩
      · omega
      · refine ⟨g, cap, h3, h4, ?_⟩
        rcases Nat.lt_or_ge g w'.heap.size with hh | hh
        · exact hh
        · rw [Array.getElem?_eq_none hh] at h5; cases h5
    subst hv
    have hb1 : Below w.heap.size w w' := (HB.out.alloc HB.out.size (.cells (cells4 (f i)).toArray 55)).grown hgrow (by simp only [World.size_alloc]; have := HB.out.size; omega) (fun k hk => (HO.out.lt k hk).1)
    obtain ⟨h', hh'⟩ : ∃ h', h' = upd h i (f i) := ⟨_, rfl⟩
    rw [← flat4_push h i (f i), ← hh'] at hown
    have hHi : h' i = f i := by rw [hh']; unfold upd; rw [if_pos rfl]
    have hHlo : ∀ t, t < i → h' t = h t := fun t ht => by rw [hh']; unfold upd; rw [if_neg (by omega)]
    have HHi := Lib.hid hHi
    have HHlo := Lib.hid hHlo
    have HT2 := Lib.hid (HT.out.ext (g := h') (fun k _ hk => hHlo k hk))
    have HOn := Lib.hid hown
    have HBn := Lib.hid hb1
    have HGb := Lib.hid hgb
    clear hown hgrow hb1 hh' hHi hHlo hgb hgl
    go_wp2_with fail
    go_loopw [5] (fun v wr2 => ∃ (k : Nat) (c : Nat → DiagD), k ≤ i ∧ v = .int .i64 k ∧ wr2.ownsRow w.heap.size 55 4 (.slice (some ⟨g, 0, none⟩) (i + 1) cap) (i + 1) (flat4 c (i + 1)) ∧ upd c k (f i) = shr h' k i ∧ (∀ t, k ≤ t → t < i → ltD (f i) (h t)) ∧ Below w.heap.size w wr2) (fun v _ => (intOf v).toNat)
    case atStart => exact ⟨i, h', by omega, by go_num, HOn.out, by
      rw [shr_start]
      funext t
      unfold upd
      split
      · rename_i ht; rw [ht, HHi.out]
      · rfl, fun t h1 h2 => by omega, HBn.out⟩
    case round =>
      obtain ⟨k, c, hki, rfl, hownk, hhole, hle, hBk⟩ := hrel
      have HOk := Lib.hid hownk
      have HHole := Lib.hid hhole
      have HLe := Lib.hid hle
      have HBk := Lib.hid hBk
      have HLk := Lib.hid ((HS.out.later hBk).at2 HLt.out)
      clear hownk hhole hle hBk
      generalize hXe : f i = X at HLk
      have HXe := Lib.hid hXe
      clear hXe
      cases k with
      | zero =>
        have tz : decide ((0 : Int) < ((0 : Nat) : Int)) = false := by simp
        have tz2 : decide ((0 : Int) < (0 : Int)) = false := by simp
        go_wp2_with fail
        refine wp_region_held_drew (S := (fun _ => True)) (by kernel_rfl) trivial (fun hHeld => ?_)
        refine wpAnyH_take (i := 0) (v := ?_) (show _ = some { dst := some 22, op := _, type := _, pos := _, after := _, guard := _ } from rfl) (by kernel_rfl) (by kernel_rfl) (by kernel_rfl) (fun _ _ _ h => h) (Or.inl ⟨by rfl, ?_⟩) hHeld ?_
        rotate_left
        · intro w' hSw
          (try dsimp only at hSw)
          go_simp
          try with_reducible rfl
        try simp only [Act.put, List.setIfInBounds_toArray, List.set_cons_zero, List.set_cons_succ]
        refine wpAnyH_take (i := 1) (v := ?_) (show _ = some { dst := some 23, op := _, type := _, pos := _, after := _, guard := _ } from rfl) (by kernel_rfl) (by kernel_rfl) (by kernel_rfl) (fun _ _ _ h => h) (Or.inl ⟨by rfl, ?_⟩) hHeld ?_
        rotate_left
        · intro w' hSw
          (try dsimp only at hSw)
          go_simp
          try with_reducible rfl
        try simp only [Act.put, List.setIfInBounds_toArray, List.set_cons_zero, List.set_cons_succ]
        refine wpAnyH_take (i := 2) (v := ?_) (show _ = some { dst := some 24, op := _, type := _, pos := _, after := _, guard := _ } from rfl) (by kernel_rfl) (by kernel_rfl) (by kernel_rfl) (fun _ _ _ h => h) (Or.inl ⟨by rfl, ?_⟩) hHeld ?_
        rotate_left
        · intro w' hSw
          (try dsimp only at hSw)
          go_simp
          try with_reducible rfl
        try simp only [Act.put, List.setIfInBounds_toArray, List.set_cons_zero, List.set_cons_succ]
        refine wpAnyH_take (i := 3) (v := undef) (show _ = some { dst := some 25, op := _, type := _, pos := _, after := _, guard := _ } from rfl) (by kernel_rfl) (by kernel_rfl) (by kernel_rfl) (fun _ _ _ h => h) (Or.inr ⟨by rfl, rfl⟩) hHeld ?_
        try simp only [Act.put, List.setIfInBounds_toArray, List.set_cons_zero, List.set_cons_succ]
        refine wpAnyH_take (i := 4) (v := undef) (show _ = some { dst := some 26, op := _, type := _, pos := _, after := _, guard := _ } from rfl) (by kernel_rfl) (by kernel_rfl) (by kernel_rfl) (fun _ _ _ h => h) (Or.inr ⟨by rfl, rfl⟩) hHeld ?_
        try simp only [Act.put, List.setIfInBounds_toArray, List.set_cons_zero, List.set_cons_succ]
        refine wpAnyH_take (i := 5) (v := undef) (show _ = some { dst := some 27, op := _, type := _, pos := _, after := _, guard := _ } from rfl) (by kernel_rfl) (by kernel_rfl) (by kernel_rfl) (fun _ _ _ h => h) (Or.inr ⟨by rfl, rfl⟩) hHeld ?_
        try simp only [Act.put, List.setIfInBounds_toArray, List.set_cons_zero, List.set_cons_succ]
        refine wpAnyH_take (i := 6) (v := undef) (show _ = some { dst := some 28, op := _, type := _, pos := _, after := _, guard := _ } from rfl) (by kernel_rfl) (by kernel_rfl) (by kernel_rfl) (fun _ _ _ h => h) (Or.inr ⟨by rfl, rfl⟩) hHeld ?_
        try simp only [Act.put, List.setIfInBounds_toArray, List.set_cons_zero, List.set_cons_succ]
        refine wpAnyH_take (i := 7) (v := undef) (show _ = some { dst := some 29, op := _, type := _, pos := _, after := _, guard := _ } from rfl) (by kernel_rfl) (by kernel_rfl) (by kernel_rfl) (fun _ _ _ h => h) (Or.inr ⟨by rfl, rfl⟩) hHeld ?_
        try simp only [Act.put, List.setIfInBounds_toArray, List.set_cons_zero, List.set_cons_succ]
        refine wpAnyH_take (i := 8) (v := undef) (show _ = some { dst := some 30, op := _, type := _, pos := _, after := _, guard := _ } from rfl) (by kernel_rfl) (by kernel_rfl) (by kernel_rfl) (fun _ _ _ h => h) (Or.inr ⟨by rfl, rfl⟩) hHeld ?_
        try simp only [Act.put, List.setIfInBounds_toArray, List.set_cons_zero, List.set_cons_succ]
        refine wpAnyH_take (i := 9) (v := undef) (show _ = some { dst := some 31, op := _, type := _, pos := _, after := _, guard := _ } from rfl) (by kernel_rfl) (by kernel_rfl) (by kernel_rfl) (fun _ _ _ h => h) (Or.inr ⟨by rfl, rfl⟩) hHeld ?_
        try simp only [Act.put, List.setIfInBounds_toArray, List.set_cons_zero, List.set_cons_succ]
        refine wpAnyH_take (i := 10) (v := undef) (show _ = some { dst := some 32, op := _, type := _, pos := _, after := _, guard := _ } from rfl) (by kernel_rfl) (by kernel_rfl) (by kernel_rfl) (fun _ _ _ h => h) (Or.inr ⟨by rfl, rfl⟩) hHeld ?_
        try simp only [Act.put, List.setIfInBounds_toArray, List.set_cons_zero, List.set_cons_succ]
        refine wpAnyH_take (i := 11) (v := undef) (show _ = some { dst := some 33, op := _, type := _, pos := _, after := _, guard := _ } from rfl) (by kernel_rfl) (by kernel_rfl) (by kernel_rfl) (fun _ _ _ h => h) (Or.inr ⟨by rfl, rfl⟩) hHeld ?_
        try simp only [Act.put, List.setIfInBounds_toArray, List.set_cons_zero, List.set_cons_succ]
        refine wpAnyH_take (i := 12) (v := undef) (show _ = some { dst := some 34, op := _, type := _, pos := _, after := _, guard := _ } from rfl) (by kernel_rfl) (by kernel_rfl) (by kernel_rfl) (fun _ _ _ h => h) (Or.inr ⟨by rfl, rfl⟩) hHeld ?_
        try simp only [Act.put, List.setIfInBounds_toArray, List.set_cons_zero, List.set_cons_succ]
        refine wpAnyH_take (i := 13) (v := ?_) (show _ = some { dst := some 35, op := _, type := _, pos := _, after := _, guard := _ } from rfl) (by kernel_rfl) (by kernel_rfl) (by kernel_rfl) (fun _ _ _ h => h) (Or.inl ⟨by rfl, ?_⟩) hHeld ?_
        rotate_left
        · intro w' hSw
          (try dsimp only at hSw)
          go_simp
          try with_reducible rfl
        try simp only [Act.put, List.setIfInBounds_toArray, List.set_cons_zero, List.set_cons_succ]
        refine wpAnyH_done (by kernel_rfl) ?_ _
        clear hHeld
        have x0 := HLk.out.1
        have x1 := HLk.out.2.1
        have x2 := HLk.out.2.2.1
        have x3 := HLk.out.2.2.2
        have hrow := row_of_own HOk.out
        have g0 := hrow.c0 (0) (by omega)
        have g1 := hrow.c1 (0) (by omega)
        have g2 := hrow.c2 (0) (by omega)
        have g3 := hrow.c3 (0) (by omega)
        have fz := hrow.fz
        simp only [Nat.zero_mul, Nat.zero_add] at g0 g1 g2 g3
        clear hrow
        go_wp2_with fail
        have hset := own_set4 HOk.out (k := 0) (by omega) X
        have hfe : upd c (0) X = shr h' (0) i := by rw [← HXe.out]; exact HHole.out
        rw [hfe] at hset
        have hsr : Srt ltD (shr h' (0) i) 0 (i + 1) := shr_srt ord_ltD HT2.out (Nat.zero_le _) (by omega) (fun t h1 h2 => by omega) (fun t h1 h2 => by rw [HHi.out, HHlo.out t h2]; exact HLe.out t h1 h2)
        have hcn : ∀ p, cnt p (shr h' (0) i) (i + 1) = cnt p f (i + 1) := fun p => by
          rw [cnt_shr p h' i (i + 1) (by omega) (i - (0)) (0) (by omega)]
          unfold cnt
          rw [HHi.out, cnt_ext (fun t ht => HHlo.out t ht), HC.out p]
        have hbel := kp_below HBk.out (set4_kp (K := fun k => k ≠ g) wr (fun h => h rfl) 0 X) HGb.out
        unfold set4 at hset hbel
        simp only [Nat.zero_mul, Nat.zero_add] at hset hbel
        exact ⟨⟨i + 1, shr h' 0 i, some ⟨g, 0, none⟩, cap, by have := HLt.out; omega, by go_num, rfl, hset.drew, hsr, hcn, below_drewD hbel⟩, by have := HLt.out; simp [intOf]; omega⟩
      | succ k =>
        have hy0 := row_of_own HOk.out
        have hck : c k = h k := by
          have h1 := congrFun HHole.out k
          unfold upd at h1
          rw [if_neg (by omega), shr_low (show k < k + 1 by omega), HHlo.out k (by omega)] at h1
          exact h1
        have hy := cells_of hy0.drew (k := k) (by omega) hck
        have hnl : ltD X (h k) ∨ ¬ ltD X (h k) := Classical.em _
        generalize hYe : h k = Y at hy hnl
        have HX := HLk
        have HY := Lib.hid hy
        have HYe := Lib.hid hYe
        have HCk := Lib.hid hck
        have tk1 : decide ((0 : Int) < ((k + 1 : Nat) : Int)) = true := decide_eq_true (by omega)
        have tk2 : decide ((0 : Int) < (k : Int) + 1) = true := decide_eq_true (by omega)
        have i1 : (0 : Int) ≤ (k : Int) + 1 := by omega
        have i2 : (k : Int) + 1 < (i : Int) + 1 := by omega
        have i3 : IntKind.i64.wrap (k : Int) = (k : Int) := by rw [IntKind.wrap_i64]; omega
        have i4 : (k : Int) < (i : Int) + 1 := by omega
        have i5 : (0 : Int) ≤ (i : Int) := by omega
        clear hy hy0 hYe hck
        rcases hnl with hnl | hnl
        · have HNl := Lib.hid hnl
          clear hnl
          go_wp2_with fail
          refine wp_region_held_drew (S := (fun w' => w'.cell? ⟨lb, lo + i * 4, none⟩ = some (.string X.f) ∧ w'.cell? ⟨lb, lo + i * 4 + 1, none⟩ = some (.int .i64 X.a) ∧ w'.cell? ⟨lb, lo + i * 4 + 2, none⟩ = some (.int .i64 X.c) ∧ w'.cell? ⟨lb, lo + i * 4 + 3, none⟩ = some (.string X.t) ∧ w'.cell? ⟨g, k * 4, none⟩ = some (.string Y.f) ∧ w'.cell? ⟨g, k * 4 + 1, none⟩ = some (.int .i64 Y.a) ∧ w'.cell? ⟨g, k * 4 + 2, none⟩ = some (.int .i64 Y.c) ∧ w'.cell? ⟨g, k * 4 + 3, none⟩ = some (.string Y.t))) (by kernel_rfl) ⟨HX.out.1, HX.out.2.1, HX.out.2.2.1, HX.out.2.2.2, HY.out.1, HY.out.2.1, HY.out.2.2.1, HY.out.2.2.2⟩ (fun hHeld => ?_)
          refine wpAnyH_take (i := 0) (v := ?_) (show _ = some { dst := some 22, op := _, type := _, pos := _, after := _, guard := _ } from rfl) (by kernel_rfl) (by kernel_rfl) (by kernel_rfl) (fun _ _ _ h => h) (Or.inl ⟨by rfl, ?_⟩) hHeld ?_
          rotate_left
          · intro w' hSw
            (try dsimp only at hSw)
            go_simp
            try with_reducible rfl
          try simp only [Act.put, List.setIfInBounds_toArray, List.set_cons_zero, List.set_cons_succ]
          refine wpAnyH_take (i := 1) (v := ?_) (show _ = some { dst := some 23, op := _, type := _, pos := _, after := _, guard := _ } from rfl) (by kernel_rfl) (by kernel_rfl) (by kernel_rfl) (fun _ _ _ h => h) (Or.inl ⟨by rfl, ?_⟩) hHeld ?_
          rotate_left
          · intro w' hSw
            (try dsimp only at hSw)
            go_simp
            try with_reducible rfl
          try simp only [Act.put, List.setIfInBounds_toArray, List.set_cons_zero, List.set_cons_succ]
          refine wpAnyH_take (i := 2) (v := ?_) (show _ = some { dst := some 24, op := _, type := _, pos := _, after := _, guard := _ } from rfl) (by kernel_rfl) (by kernel_rfl) (by kernel_rfl) (fun _ _ _ h => h) (Or.inl ⟨by rfl, ?_⟩) hHeld ?_
          rotate_left
          · intro w' hSw
            (try dsimp only at hSw)
            go_simp
            try with_reducible rfl
          try simp only [Act.put, List.setIfInBounds_toArray, List.set_cons_zero, List.set_cons_succ]
          refine wpAnyH_take (i := 3) (v := ?_) (show _ = some { dst := some 25, op := _, type := _, pos := _, after := _, guard := _ } from rfl) (by kernel_rfl) (by kernel_rfl) (by kernel_rfl) (fun _ _ _ h => h) (Or.inl ⟨by rfl, ?_⟩) hHeld ?_
          rotate_left
          · intro w' hSw
            (try dsimp only at hSw)
            go_simp
            try with_reducible rfl
          try simp only [Act.put, List.setIfInBounds_toArray, List.set_cons_zero, List.set_cons_succ]
          refine wpAnyH_take (i := 4) (v := ?_) (show _ = some { dst := some 26, op := _, type := _, pos := _, after := _, guard := _ } from rfl) (by kernel_rfl) (by kernel_rfl) (by kernel_rfl) (fun _ _ _ h => h) (Or.inl ⟨by rfl, ?_⟩) hHeld ?_
          rotate_left
          · intro w' hSw
            (try dsimp only at hSw)
            go_simp
            try with_reducible rfl
          try simp only [Act.put, List.setIfInBounds_toArray, List.set_cons_zero, List.set_cons_succ]
          refine wpAnyH_take (i := 5) (v := ?_) (show _ = some { dst := some 27, op := _, type := _, pos := _, after := _, guard := _ } from rfl) (by kernel_rfl) (by kernel_rfl) (by kernel_rfl) (fun _ _ _ h => h) (Or.inl ⟨by rfl, ?_⟩) hHeld ?_
          rotate_left
          · intro w' hSw
            (try dsimp only at hSw)
            go_simp
            try with_reducible rfl
          try simp only [Act.put, List.setIfInBounds_toArray, List.set_cons_zero, List.set_cons_succ]
          refine wpAnyH_take (i := 6) (v := ?_) (show _ = some { dst := some 28, op := _, type := _, pos := _, after := _, guard := _ } from rfl) (by kernel_rfl) (by kernel_rfl) (by kernel_rfl) (fun _ _ _ h => h) (Or.inl ⟨by rfl, ?_⟩) hHeld ?_
          rotate_left
          · intro w' hSw
            (try dsimp only at hSw)
            go_simp
            try with_reducible rfl
          try simp only [Act.put, List.setIfInBounds_toArray, List.set_cons_zero, List.set_cons_succ]
          refine wpAnyH_take (i := 7) (v := ?_) (show _ = some { dst := some 29, op := _, type := _, pos := _, after := _, guard := _ } from rfl) (by kernel_rfl) (by kernel_rfl) (by kernel_rfl) (fun _ _ _ h => h) (Or.inl ⟨by rfl, ?_⟩) hHeld ?_
          rotate_left
          · intro w' hSw
            (try dsimp only at hSw)
            go_simp
            try with_reducible rfl
          try simp only [Act.put, List.setIfInBounds_toArray, List.set_cons_zero, List.set_cons_succ]
          refine wpAnyH_take (i := 8) (v := ?_) (show _ = some { dst := some 30, op := _, type := _, pos := _, after := _, guard := _ } from rfl) (by kernel_rfl) (by kernel_rfl) (by kernel_rfl) (fun _ _ _ h => h) (Or.inl ⟨by rfl, ?_⟩) hHeld ?_
          rotate_left
          · intro w' hSw
            (try dsimp only at hSw)
            go_simp
            try with_reducible rfl
          try simp only [Act.put, List.setIfInBounds_toArray, List.set_cons_zero, List.set_cons_succ]
          refine wpAnyH_take (i := 9) (v := ?_) (show _ = some { dst := some 31, op := _, type := _, pos := _, after := _, guard := _ } from rfl) (by kernel_rfl) (by kernel_rfl) (by kernel_rfl) (fun _ _ _ h => h) (Or.inl ⟨by rfl, ?_⟩) hHeld ?_
          rotate_left
          · intro w' hSw
            (try dsimp only at hSw)
            go_simp
            try with_reducible rfl
          try simp only [Act.put, List.setIfInBounds_toArray, List.set_cons_zero, List.set_cons_succ]
          refine wpAnyH_take (i := 10) (v := ?_) (show _ = some { dst := some 32, op := _, type := _, pos := _, after := _, guard := _ } from rfl) (by kernel_rfl) (by kernel_rfl) (by kernel_rfl) (fun _ _ _ h => h) (Or.inl ⟨by rfl, ?_⟩) hHeld ?_
          rotate_left
          · intro w' hSw
            (try dsimp only at hSw)
            go_simp
            try with_reducible rfl
          try simp only [Act.put, List.setIfInBounds_toArray, List.set_cons_zero, List.set_cons_succ]
          refine wpAnyH_take (i := 11) (v := ?_) (show _ = some { dst := some 33, op := _, type := _, pos := _, after := _, guard := _ } from rfl) (by kernel_rfl) (by kernel_rfl) (by kernel_rfl) (fun _ _ _ h => h) (Or.inl ⟨by rfl, ?_⟩) hHeld ?_
          rotate_left
          · intro w' hSw
            (try dsimp only at hSw)
            go_simp
            try with_reducible rfl
          try simp only [Act.put, List.setIfInBounds_toArray, List.set_cons_zero, List.set_cons_succ]
          refine wpAnyH_ready (rs := [12]) (by kernel_rfl) (by simp) ?_
          refine AllReadyH.cons (show _ = some { dst := some 34, op := _, type := _, pos := _, after := _, guard := _ } from rfl) (fun K hK => ?_) AllReadyH.nil
          go_simp
          refine (less_ref X Y true (by simpa using HNl.out) _).mono ?_
          rintro e w2 ⟨rfl, hb2⟩
          have HB2 := Lib.hid hb2
          have HO2 := Lib.hid (own_later4 HOk.out.drew hb2)
          have HBw := Lib.hid ((below_drewD HBk.out).trans (hb2.mono (below_drewD HBk.out).size))
          have HLb := Lib.hid (And.intro (cell_later2 hb2 HX.out.1) (And.intro (cell_later2 hb2 HX.out.2.1) (And.intro (cell_later2 hb2 HX.out.2.2.1) (cell_later2 hb2 HX.out.2.2.2))))
          clear hb2
          go_wp2_with fail
          refine hK.out _ _ (⟨cell_later2 HB2.out HX.out.1, cell_later2 HB2.out HX.out.2.1, cell_later2 HB2.out HX.out.2.2.1, cell_later2 HB2.out HX.out.2.2.2, cell_later2 HB2.out HY.out.1, cell_later2 HB2.out HY.out.2.1, cell_later2 HB2.out HY.out.2.2.1, cell_later2 HB2.out HY.out.2.2.2⟩) (fun hHeld => ?_)
          clear hK K
          try simp only [Act.put, List.setIfInBounds_toArray, List.set_cons_zero, List.set_cons_succ]
          refine wpAnyH_take (i := 13) (v := ?_) (show _ = some { dst := some 35, op := _, type := _, pos := _, after := _, guard := _ } from rfl) (by kernel_rfl) (by kernel_rfl) (by kernel_rfl) (fun _ _ _ h => h) (Or.inl ⟨by rfl, ?_⟩) hHeld ?_
          rotate_left
          · intro w' hSw
            (try dsimp only at hSw)
            go_simp
            try with_reducible rfl
          try simp only [Act.put, List.setIfInBounds_toArray, List.set_cons_zero, List.set_cons_succ]
          refine wpAnyH_done (by kernel_rfl) ?_ _
          clear hHeld
          have hrow := row_of_own HO2.out
          have g0 := hrow.c0 (k + 1) (by omega)
          have g1 := hrow.c1 (k + 1) (by omega)
          have g2 := hrow.c2 (k + 1) (by omega)
          have g3 := hrow.c3 (k + 1) (by omega)
          have k0 := hrow.c0 k (by omega)
          have k1 := hrow.c1 k (by omega)
          have k2 := hrow.c2 k (by omega)
          have k3 := hrow.c3 k (by omega)
          have fz := hrow.fz
          clear hrow
          go_wp2_with fail
          have hset := own_set4 HO2.out (k := k + 1) (by omega) (c k)
          have hhole : upd (upd c (k + 1) (c k)) k X = shr h' k i := by
            rw [← swp_hole c k X, ← shr_step h' k i hki, ← HHole.out, HXe.out]
          exact ⟨⟨k, _, by omega, by go_num, hset, (by first | exact hhole | (rw [HXe.out]; exact hhole)), fun t h1 h2 => by
            by_cases ht : t = k
            · first | (rw [ht, HYe.out]; exact HNl.out) | (rw [ht, HXe.out, HYe.out]; exact HNl.out)
            · first | exact HLe.out t (by omega) h2 | (rw [← HXe.out]; exact HLe.out t (by omega) h2), kp_below HBw.out (set4_kp _ (fun h => h rfl) _ _) HGb.out⟩, by simp [intOf]⟩
        · have HNl := Lib.hid hnl
          clear hnl
          go_wp2_with fail
          refine wp_region_held_drew (S := (fun w' => w'.cell? ⟨lb, lo + i * 4, none⟩ = some (.string X.f) ∧ w'.cell? ⟨lb, lo + i * 4 + 1, none⟩ = some (.int .i64 X.a) ∧ w'.cell? ⟨lb, lo + i * 4 + 2, none⟩ = some (.int .i64 X.c) ∧ w'.cell? ⟨lb, lo + i * 4 + 3, none⟩ = some (.string X.t) ∧ w'.cell? ⟨g, k * 4, none⟩ = some (.string Y.f) ∧ w'.cell? ⟨g, k * 4 + 1, none⟩ = some (.int .i64 Y.a) ∧ w'.cell? ⟨g, k * 4 + 2, none⟩ = some (.int .i64 Y.c) ∧ w'.cell? ⟨g, k * 4 + 3, none⟩ = some (.string Y.t))) (by kernel_rfl) ⟨HX.out.1, HX.out.2.1, HX.out.2.2.1, HX.out.2.2.2, HY.out.1, HY.out.2.1, HY.out.2.2.1, HY.out.2.2.2⟩ (fun hHeld => ?_)
          refine wpAnyH_take (i := 0) (v := ?_) (show _ = some { dst := some 22, op := _, type := _, pos := _, after := _, guard := _ } from rfl) (by kernel_rfl) (by kernel_rfl) (by kernel_rfl) (fun _ _ _ h => h) (Or.inl ⟨by rfl, ?_⟩) hHeld ?_
          rotate_left
          · intro w' hSw
            (try dsimp only at hSw)
            go_simp
            try with_reducible rfl
          try simp only [Act.put, List.setIfInBounds_toArray, List.set_cons_zero, List.set_cons_succ]
          refine wpAnyH_take (i := 1) (v := ?_) (show _ = some { dst := some 23, op := _, type := _, pos := _, after := _, guard := _ } from rfl) (by kernel_rfl) (by kernel_rfl) (by kernel_rfl) (fun _ _ _ h => h) (Or.inl ⟨by rfl, ?_⟩) hHeld ?_
          rotate_left
          · intro w' hSw
            (try dsimp only at hSw)
            go_simp
            try with_reducible rfl
          try simp only [Act.put, List.setIfInBounds_toArray, List.set_cons_zero, List.set_cons_succ]
          refine wpAnyH_take (i := 2) (v := ?_) (show _ = some { dst := some 24, op := _, type := _, pos := _, after := _, guard := _ } from rfl) (by kernel_rfl) (by kernel_rfl) (by kernel_rfl) (fun _ _ _ h => h) (Or.inl ⟨by rfl, ?_⟩) hHeld ?_
          rotate_left
          · intro w' hSw
            (try dsimp only at hSw)
            go_simp
            try with_reducible rfl
          try simp only [Act.put, List.setIfInBounds_toArray, List.set_cons_zero, List.set_cons_succ]
          refine wpAnyH_take (i := 3) (v := ?_) (show _ = some { dst := some 25, op := _, type := _, pos := _, after := _, guard := _ } from rfl) (by kernel_rfl) (by kernel_rfl) (by kernel_rfl) (fun _ _ _ h => h) (Or.inl ⟨by rfl, ?_⟩) hHeld ?_
          rotate_left
          · intro w' hSw
            (try dsimp only at hSw)
            go_simp
            try with_reducible rfl
          try simp only [Act.put, List.setIfInBounds_toArray, List.set_cons_zero, List.set_cons_succ]
          refine wpAnyH_take (i := 4) (v := ?_) (show _ = some { dst := some 26, op := _, type := _, pos := _, after := _, guard := _ } from rfl) (by kernel_rfl) (by kernel_rfl) (by kernel_rfl) (fun _ _ _ h => h) (Or.inl ⟨by rfl, ?_⟩) hHeld ?_
          rotate_left
          · intro w' hSw
            (try dsimp only at hSw)
            go_simp
            try with_reducible rfl
          try simp only [Act.put, List.setIfInBounds_toArray, List.set_cons_zero, List.set_cons_succ]
          refine wpAnyH_take (i := 5) (v := ?_) (show _ = some { dst := some 27, op := _, type := _, pos := _, after := _, guard := _ } from rfl) (by kernel_rfl) (by kernel_rfl) (by kernel_rfl) (fun _ _ _ h => h) (Or.inl ⟨by rfl, ?_⟩) hHeld ?_
          rotate_left
          · intro w' hSw
            (try dsimp only at hSw)
            go_simp
            try with_reducible rfl
          try simp only [Act.put, List.setIfInBounds_toArray, List.set_cons_zero, List.set_cons_succ]
          refine wpAnyH_take (i := 6) (v := ?_) (show _ = some { dst := some 28, op := _, type := _, pos := _, after := _, guard := _ } from rfl) (by kernel_rfl) (by kernel_rfl) (by kernel_rfl) (fun _ _ _ h => h) (Or.inl ⟨by rfl, ?_⟩) hHeld ?_
          rotate_left
          · intro w' hSw
            (try dsimp only at hSw)
            go_simp
            try with_reducible rfl
          try simp only [Act.put, List.setIfInBounds_toArray, List.set_cons_zero, List.set_cons_succ]
          refine wpAnyH_take (i := 7) (v := ?_) (show _ = some { dst := some 29, op := _, type := _, pos := _, after := _, guard := _ } from rfl) (by kernel_rfl) (by kernel_rfl) (by kernel_rfl) (fun _ _ _ h => h) (Or.inl ⟨by rfl, ?_⟩) hHeld ?_
          rotate_left
          · intro w' hSw
            (try dsimp only at hSw)
            go_simp
            try with_reducible rfl
          try simp only [Act.put, List.setIfInBounds_toArray, List.set_cons_zero, List.set_cons_succ]
          refine wpAnyH_take (i := 8) (v := ?_) (show _ = some { dst := some 30, op := _, type := _, pos := _, after := _, guard := _ } from rfl) (by kernel_rfl) (by kernel_rfl) (by kernel_rfl) (fun _ _ _ h => h) (Or.inl ⟨by rfl, ?_⟩) hHeld ?_
          rotate_left
          · intro w' hSw
            (try dsimp only at hSw)
            go_simp
            try with_reducible rfl
          try simp only [Act.put, List.setIfInBounds_toArray, List.set_cons_zero, List.set_cons_succ]
          refine wpAnyH_take (i := 9) (v := ?_) (show _ = some { dst := some 31, op := _, type := _, pos := _, after := _, guard := _ } from rfl) (by kernel_rfl) (by kernel_rfl) (by kernel_rfl) (fun _ _ _ h => h) (Or.inl ⟨by rfl, ?_⟩) hHeld ?_
          rotate_left
          · intro w' hSw
            (try dsimp only at hSw)
            go_simp
            try with_reducible rfl
          try simp only [Act.put, List.setIfInBounds_toArray, List.set_cons_zero, List.set_cons_succ]
          refine wpAnyH_take (i := 10) (v := ?_) (show _ = some { dst := some 32, op := _, type := _, pos := _, after := _, guard := _ } from rfl) (by kernel_rfl) (by kernel_rfl) (by kernel_rfl) (fun _ _ _ h => h) (Or.inl ⟨by rfl, ?_⟩) hHeld ?_
          rotate_left
          · intro w' hSw
            (try dsimp only at hSw)
            go_simp
            try with_reducible rfl
          try simp only [Act.put, List.setIfInBounds_toArray, List.set_cons_zero, List.set_cons_succ]
          refine wpAnyH_take (i := 11) (v := ?_) (show _ = some { dst := some 33, op := _, type := _, pos := _, after := _, guard := _ } from rfl) (by kernel_rfl) (by kernel_rfl) (by kernel_rfl) (fun _ _ _ h => h) (Or.inl ⟨by rfl, ?_⟩) hHeld ?_
          rotate_left
          · intro w' hSw
            (try dsimp only at hSw)
            go_simp
            try with_reducible rfl
          try simp only [Act.put, List.setIfInBounds_toArray, List.set_cons_zero, List.set_cons_succ]
          refine wpAnyH_ready (rs := [12]) (by kernel_rfl) (by simp) ?_
          refine AllReadyH.cons (show _ = some { dst := some 34, op := _, type := _, pos := _, after := _, guard := _ } from rfl) (fun K hK => ?_) AllReadyH.nil
          go_simp
          refine (less_ref X Y false (by simpa using HNl.out) _).mono ?_
          rintro e w2 ⟨rfl, hb2⟩
          have HB2 := Lib.hid hb2
          have HO2 := Lib.hid (own_later4 HOk.out.drew hb2)
          have HBw := Lib.hid ((below_drewD HBk.out).trans (hb2.mono (below_drewD HBk.out).size))
          have HLb := Lib.hid (And.intro (cell_later2 hb2 HX.out.1) (And.intro (cell_later2 hb2 HX.out.2.1) (And.intro (cell_later2 hb2 HX.out.2.2.1) (cell_later2 hb2 HX.out.2.2.2))))
          clear hb2
          go_wp2_with fail
          refine hK.out _ _ (⟨cell_later2 HB2.out HX.out.1, cell_later2 HB2.out HX.out.2.1, cell_later2 HB2.out HX.out.2.2.1, cell_later2 HB2.out HX.out.2.2.2, cell_later2 HB2.out HY.out.1, cell_later2 HB2.out HY.out.2.1, cell_later2 HB2.out HY.out.2.2.1, cell_later2 HB2.out HY.out.2.2.2⟩) (fun hHeld => ?_)
          clear hK K
          try simp only [Act.put, List.setIfInBounds_toArray, List.set_cons_zero, List.set_cons_succ]
          refine wpAnyH_take (i := 13) (v := ?_) (show _ = some { dst := some 35, op := _, type := _, pos := _, after := _, guard := _ } from rfl) (by kernel_rfl) (by kernel_rfl) (by kernel_rfl) (fun _ _ _ h => h) (Or.inl ⟨by rfl, ?_⟩) hHeld ?_
          rotate_left
          · intro w' hSw
            (try dsimp only at hSw)
            go_simp
            try with_reducible rfl
          try simp only [Act.put, List.setIfInBounds_toArray, List.set_cons_zero, List.set_cons_succ]
          refine wpAnyH_done (by kernel_rfl) ?_ _
          clear hHeld
          have x0 := HLb.out.1
          have x1 := HLb.out.2.1
          have x2 := HLb.out.2.2.1
          have x3 := HLb.out.2.2.2
          have hrow := row_of_own HO2.out
          have g0 := hrow.c0 (k + 1) (by omega)
          have g1 := hrow.c1 (k + 1) (by omega)
          have g2 := hrow.c2 (k + 1) (by omega)
          have g3 := hrow.c3 (k + 1) (by omega)
          have fz := hrow.fz
          clear hrow
          go_wp2_with fail
          have hset := own_set4 HO2.out (k := k + 1) (by omega) X
          have hfe : upd c (k + 1) X = shr h' (k + 1) i := by rw [← HXe.out]; exact HHole.out
          rw [hfe] at hset
          have hsr : Srt ltD (shr h' (k + 1) i) 0 (i + 1) := shr_srt ord_ltD HT2.out (Nat.zero_le _) (by omega) (fun t h1 h2 => by
            rw [HHi.out, HXe.out, HHlo.out t (by omega)]
            by_cases ht : t = k
            · rw [ht, HYe.out]; exact HNl.out
            · exact ord_ltD.le_trans (HT.out t k (Nat.zero_le _) (by omega) (by omega)) (by rw [HYe.out]; exact HNl.out)) (fun t h1 h2 => by rw [HHi.out, HHlo.out t h2]; exact HLe.out t h1 h2)
          have hcn : ∀ p, cnt p (shr h' (k + 1) i) (i + 1) = cnt p f (i + 1) := fun p => by
            rw [cnt_shr p h' i (i + 1) (by omega) (i - (k + 1)) (k + 1) (by omega)]
            unfold cnt
            rw [HHi.out, cnt_ext (fun t ht => HHlo.out t ht), HC.out p]
          exact ⟨⟨i + 1, _, _, cap, by have := HLt.out; omega, by go_num, rfl, hset, hsr, hcn, kp_below HBw.out (set4_kp _ (fun h => h rfl) _ _) HGb.out⟩, by have := HLt.out; simp [intOf]; omega⟩
end Go.Proofs.YteghbblbkljdhaaDoor
