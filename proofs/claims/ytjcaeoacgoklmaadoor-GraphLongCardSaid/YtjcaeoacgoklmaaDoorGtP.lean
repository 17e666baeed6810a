import Derived.Test.YtjcaeoacgoklmaaDoorGtO
namespace Go.Proofs.YtjcaeoacgoklmaaDoor
open Go.RowKit
def ruL (rb : Nat → Nat) : Nat → List Value
  | 0 => []
  | n + 1 => ruL rb n ++ [.string (nmB n), .int .i64 1, .slice (some ⟨rb n, 0, none⟩) 2 2, .string ⟨#[43]⟩]
theorem ruL_len (rb : Nat → Nat) : ∀ n, (ruL rb n).length = n * 4
  | 0 => rfl
  | n + 1 => by simp only [ruL, List.length_append, ruL_len rb n, List.length_cons, List.length_nil]; omega
theorem ruL_at (rb : Nat → Nat) : ∀ {n i o : Nat}, i < n → o < 4 → (ruL rb n)[i * 4 + o]? = [Value.string (nmB i), .int .i64 1, .slice (some ⟨rb i, 0, none⟩) 2 2, .string ⟨#[43]⟩][o]?
  | 0, i, o, h, _ => by omega
  | n + 1, i, o, h, ho => by
    unfold ruL
    rcases Nat.lt_or_ge i n with h1 | h1
    · rw [List.getElem?_append_left (by rw [ruL_len]; omega)]
      exact ruL_at rb h1 ho
    · obtain rfl : i = n := by omega
      rw [List.getElem?_append_right (by rw [ruL_len]; omega), ruL_len, Nat.add_sub_cancel_left]
theorem ruR_of {rb : Nat → Nat} {W : World} {base k g c : Nat} {T : TypeId} (h : W.ownsRow base T 4 (.slice (some ⟨g, 0, none⟩) k c) k (ruL rb k)) : RuR g k rb W :=
  ⟨fun i hi => (h.cellAt _ (by omega)).trans (ruL_at rb (o := 0) hi (by omega)), fun i hi => (h.cellAt _ (by omega)).trans (ruL_at rb (o := 1) hi (by omega)), fun i hi => (h.cellAt _ (by omega)).trans (ruL_at rb (o := 2) hi (by omega)), fun i hi => (h.cellAt _ (by omega)).trans (ruL_at rb (o := 3) hi (by omega))⟩
/-- Where a row of rules stands. -/
theorem ruR_ex {rb : Nat → Nat} {W : World} {base k : Nat} {v : Value} {T : TypeId} (h : W.ownsRow base T 4 v k (ruL rb k)) : ∃ A c g, v = .slice A k c ∧ (0 < k → A = some ⟨g, 0, none⟩) ∧ RuR g k rb W ∧ (0 < k → base ≤ g ∧ g < W.heap.size) := by
  rcases h.2 with ⟨hv, h0⟩ | ⟨g, cap, cur, hv, _⟩
  · subst h0
    exact ⟨none, 0, 0, hv, fun h => absurd h (by omega), ⟨fun i hi => absurd hi (by omega), fun i hi => absurd hi (by omega), fun i hi => absurd hi (by omega), fun i hi => absurd hi (by omega)⟩, fun h => absurd h (by omega)⟩
  · refine ⟨_, cap, g, hv, fun _ => rfl, ruR_of (hv ▸ h), fun _ => h.lt g (by rw [hv]; rfl)⟩
theorem infoRu : (Tryd.prog.info? 59).map (fun i => (i.zero, i.size, i.bytes)) = some (some (.agg #[.string ⟨#[]⟩, .int .i64 0, .slice none 0 0, .string ⟨#[]⟩]), 4, 64) := by kernel_rfl
set_option maxRecDepth 100000 in
set_option maxHeartbeats 16000000 in
theorem plain_any {g k c : Nat} {rb : Nat → Nat} {A : Option Addr} {W : World} (hk : k ≤ 24) (hA : 0 < k → A = some ⟨g, 0, none⟩) (h : RuR g k rb W) (hg : 0 < k → g < W.heap.size) :
    Calls Tryd.prog 7 #[.slice A k c] W fun e w' => ∃ v, e = .returned v ∧ w'.ownsRow W.heap.size 59 4 v k (ruL rb k) ∧ Below W.heap.size W w' := by
  have HA := Lib.hid hA
  have HR := Lib.hid h
  have HK := Lib.hid hk
  have HG := Lib.hid hg
  obtain ⟨i0, hi0, hz0, hz1, hz2⟩ := parts3 infoRu
  clear hA h hg
  go_enter Tryd.func7, Tryd.ntmps7
  go_wp2_with fail
  go_loopw [3, 4] (fun rv v wr => ∃ n : Nat, n ≤ k ∧ v = .int .i64 n ∧ wr.ownsRow W.heap.size 59 4 rv n (ruL rb n) ∧ Below W.heap.size W wr) (fun _ v _ => k - (intOf v).toNat)
  case atStart => exact ⟨0, by omega, rfl, World.ownsRow_nil _ _ _ _, Below.refl _ _⟩
  case round =>
    obtain ⟨n, hn, rfl, ho, hb⟩ := hrel
    have HB := Lib.hid hb
    have HO := Lib.hid ho
    obtain ⟨A1, cc1, rfl, _⟩ := own_slice ho
    by_cases hlt : n < k
    · have tl : decide ((n : Int) < (k : Int)) = true := by simp; omega
      have hA := HA.out (by omega)
      subst hA
      have HL := Lib.hid hlt
      have hr := HR.out.later hb
      have d0 : wr.drew.cell? ⟨g, n * 4, none⟩ = some (.string (nmB n)) := hr.c0 n hlt
      have d1 : wr.drew.cell? ⟨g, n * 4 + 1, none⟩ = some (.int .i64 1) := hr.c1 n hlt
      have d2 : wr.drew.cell? ⟨g, n * 4 + 2, none⟩ = some (.slice (some ⟨rb n, 0, none⟩) 2 2) := hr.c2 n hlt
      have d3 : wr.drew.cell? ⟨g, n * 4 + 3, none⟩ = some (.string ⟨#[43]⟩) := hr.c3 n hlt
      have HGl := Lib.hid (HG.out (by omega))
      have CN : Hid (∀ j u, [Value.string (nmB n), .int .i64 1, .slice (some ⟨rb n, 0, none⟩) 2 2, .string ⟨#[43]⟩][j]? = some u → (wr.alloc (.cells #[.string (nmB n), .int .i64 1, .slice (some ⟨rb n, 0, none⟩) 2 2, .string ⟨#[43]⟩] 59)).drew.cell? ((⟨wr.heap.size, 0, none⟩ : Addr).add j) = some u) := Lib.hid (cells_new wr [.string (nmB n), .int .i64 1, .slice (some ⟨rb n, 0, none⟩) 2 2, .string ⟨#[43]⟩] 59)
      have HY : Hid (Below wr.heap.size wr (wr.alloc (.cells #[.string (nmB n), .int .i64 1, .slice (some ⟨rb n, 0, none⟩) 2 2, .string ⟨#[43]⟩] 59)).drew) := Lib.hid (((Below.refl _ _).alloc (Nat.le_refl _) _).drew)
      have KY : Hid ((wr.alloc (.cells #[.string (nmB n), .int .i64 1, .slice (some ⟨rb n, 0, none⟩) 2 2, .string ⟨#[43]⟩] 59)).drew.cell? ⟨g, n * 4, none⟩ = some (.string (nmB n)) ∧ (wr.alloc (.cells #[.string (nmB n), .int .i64 1, .slice (some ⟨rb n, 0, none⟩) 2 2, .string ⟨#[43]⟩] 59)).drew.cell? ⟨g, n * 4 + 1, none⟩ = some (.int .i64 1) ∧ (wr.alloc (.cells #[.string (nmB n), .int .i64 1, .slice (some ⟨rb n, 0, none⟩) 2 2, .string ⟨#[43]⟩] 59)).drew.cell? ⟨g, n * 4 + 2, none⟩ = some (.slice (some ⟨rb n, 0, none⟩) 2 2) ∧ (wr.alloc (.cells #[.string (nmB n), .int .i64 1, .slice (some ⟨rb n, 0, none⟩) 2 2, .string ⟨#[43]⟩] 59)).drew.cell? ⟨g, n * 4 + 3, none⟩ = some (.string ⟨#[43]⟩)) := Lib.hid ⟨cell_alloc_of _ d0, cell_alloc_of _ d1, cell_alloc_of _ d2, cell_alloc_of _ d3⟩
      clear hr hb ho
      go_wp2_with fail
      refine wp_region_held_drew (S := (fun w' => w'.cell? ⟨g, n * 4, none⟩ = some (.string (nmB n)) ∧ w'.cell? ⟨g, n * 4 + 1, none⟩ = some (.int .i64 1) ∧ w'.cell? ⟨g, n * 4 + 2, none⟩ = some (.slice (some ⟨rb n, 0, none⟩) 2 2) ∧ w'.cell? ⟨g, n * 4 + 3, none⟩ = some (.string ⟨#[43]⟩))) (by kernel_rfl) ⟨d0, d1, d2, d3⟩ (fun hHeld => ?_)
      refine wpAnyH_take (i := 0) (v := ?_) (show _ = some { dst := some 11, op := _, type := _, pos := _, after := _, guard := _ } from rfl) (by kernel_rfl) (by kernel_rfl) (by kernel_rfl) (fun _ _ _ h => h) (Or.inl ⟨by rfl, ?_⟩) hHeld ?_
      rotate_left
      · intro w' hSw
        (try dsimp only at hSw)
        go_simp
        try with_reducible rfl
      try simp only [Act.put, List.setIfInBounds_toArray, List.set_cons_zero, List.set_cons_succ]
      refine wpAnyH_take (i := 1) (v := ?_) (show _ = some { dst := some 12, op := _, type := _, pos := _, after := _, guard := _ } from rfl) (by kernel_rfl) (by kernel_rfl) (by kernel_rfl) (fun _ _ _ h => h) (Or.inl ⟨by rfl, ?_⟩) hHeld ?_
      rotate_left
      · intro w' hSw
        (try dsimp only at hSw)
        go_simp
        try with_reducible rfl
      try simp only [Act.put, List.setIfInBounds_toArray, List.set_cons_zero, List.set_cons_succ]
      refine wpAnyH_take (i := 2) (v := ?_) (show _ = some { dst := some 13, op := _, type := _, pos := _, after := _, guard := _ } from rfl) (by kernel_rfl) (by kernel_rfl) (by kernel_rfl) (fun _ _ _ h => h) (Or.inl ⟨by rfl, ?_⟩) hHeld ?_
      rotate_left
      · intro w' hSw
        (try dsimp only at hSw)
        go_simp
        try with_reducible rfl
      try simp only [Act.put, List.setIfInBounds_toArray, List.set_cons_zero, List.set_cons_succ]
      refine wpAnyH_take (i := 3) (v := ?_) (show _ = some { dst := some 14, op := _, type := _, pos := _, after := _, guard := _ } from rfl) (by kernel_rfl) (by kernel_rfl) (by kernel_rfl) (fun _ _ _ h => h) (Or.inl ⟨by rfl, ?_⟩) hHeld ?_
      rotate_left
      · intro w' hSw
        (try dsimp only at hSw)
        go_simp
        try with_reducible rfl
      try simp only [Act.put, List.setIfInBounds_toArray, List.set_cons_zero, List.set_cons_succ]
      refine wpAnyH_take (i := 4) (v := ?_) (show _ = some { dst := some 15, op := _, type := _, pos := _, after := _, guard := _ } from rfl) (by kernel_rfl) (by kernel_rfl) (by kernel_rfl) (fun _ _ _ h => h) (Or.inl ⟨by rfl, ?_⟩) hHeld ?_
      rotate_left
      · intro w' hSw
        (try dsimp only at hSw)
        go_simp
        try with_reducible rfl
      try simp only [Act.put, List.setIfInBounds_toArray, List.set_cons_zero, List.set_cons_succ]
      refine wpAnyH_take (i := 5) (v := ?_) (show _ = some { dst := some 16, op := _, type := _, pos := _, after := _, guard := _ } from rfl) (by kernel_rfl) (by kernel_rfl) (by kernel_rfl) (fun _ _ _ h => h) (Or.inl ⟨by rfl, ?_⟩) hHeld ?_
      rotate_left
      · intro w' hSw
        (try dsimp only at hSw)
        go_simp
        try with_reducible rfl
      try simp only [Act.put, List.setIfInBounds_toArray, List.set_cons_zero, List.set_cons_succ]
      refine wpAnyH_take (i := 6) (v := ?_) (show _ = some { dst := some 17, op := _, type := _, pos := _, after := _, guard := _ } from rfl) (by kernel_rfl) (by kernel_rfl) (by kernel_rfl) (fun _ _ _ h => h) (Or.inl ⟨by rfl, ?_⟩) hHeld ?_
      rotate_left
      · intro w' hSw
        (try dsimp only at hSw)
        go_simp
        try with_reducible rfl
      try simp only [Act.put, List.setIfInBounds_toArray, List.set_cons_zero, List.set_cons_succ]
      refine wpAnyH_take (i := 7) (v := ?_) (show _ = some { dst := some 18, op := _, type := _, pos := _, after := _, guard := _ } from rfl) (by kernel_rfl) (by kernel_rfl) (by kernel_rfl) (fun _ _ _ h => h) (Or.inl ⟨by rfl, ?_⟩) hHeld ?_
      rotate_left
      · intro w' hSw
        (try dsimp only at hSw)
        go_simp
        try with_reducible rfl
      try simp only [Act.put, List.setIfInBounds_toArray, List.set_cons_zero, List.set_cons_succ]
      refine wpAnyH_take (i := 8) (v := ?_) (show _ = some { dst := some 19, op := _, type := _, pos := _, after := _, guard := _ } from rfl) (by kernel_rfl) (by kernel_rfl) (by kernel_rfl) (fun _ _ _ h => h) (Or.inl ⟨by rfl, ?_⟩) hHeld ?_
      rotate_left
      · intro w' hSw
        (try dsimp only at hSw)
        go_simp
        try with_reducible rfl
      try simp only [Act.put, List.setIfInBounds_toArray, List.set_cons_zero, List.set_cons_succ]
      refine wpAnyH_take (i := 9) (v := ?_) (show _ = some { dst := some 20, op := _, type := _, pos := _, after := _, guard := _ } from rfl) (by kernel_rfl) (by kernel_rfl) (by kernel_rfl) (fun _ _ _ h => h) (Or.inl ⟨by rfl, ?_⟩) hHeld ?_
      rotate_left
      · intro w' hSw
        (try dsimp only at hSw)
        go_simp
        try with_reducible rfl
      try simp only [Act.put, List.setIfInBounds_toArray, List.set_cons_zero, List.set_cons_succ]
      refine wpAnyH_take (i := 10) (v := ?_) (show _ = some { dst := some 21, op := _, type := _, pos := _, after := _, guard := _ } from rfl) (by kernel_rfl) (by kernel_rfl) (by kernel_rfl) (fun _ _ _ h => h) (Or.inl ⟨by rfl, ?_⟩) hHeld ?_
      rotate_left
      · intro w' hSw
        (try dsimp only at hSw)
        go_simp
        try with_reducible rfl
      try simp only [Act.put, List.setIfInBounds_toArray, List.set_cons_zero, List.set_cons_succ]
      refine wpAnyH_take (i := 11) (v := ?_) (show _ = some { dst := some 22, op := _, type := _, pos := _, after := _, guard := _ } from rfl) (by kernel_rfl) (by kernel_rfl) (by kernel_rfl) (fun _ _ _ h => h) (Or.inl ⟨by rfl, ?_⟩) hHeld ?_
      rotate_left
      · intro w' hSw
        (try dsimp only at hSw)
        go_simp
        try with_reducible rfl
      try simp only [Act.put, List.setIfInBounds_toArray, List.set_cons_zero, List.set_cons_succ]
      refine wpAnyH_take (i := 12) (v := ?_) (show _ = some { dst := some 23, op := _, type := _, pos := _, after := _, guard := _ } from rfl) (by kernel_rfl) (by kernel_rfl) (by kernel_rfl) (fun _ _ _ h => h) (Or.inl ⟨by rfl, ?_⟩) hHeld ?_
      rotate_left
      · intro w' hSw
        (try dsimp only at hSw)
        go_simp
        try with_reducible rfl
      try simp only [Act.put, List.setIfInBounds_toArray, List.set_cons_zero, List.set_cons_succ]
      refine wpAnyH_take (i := 13) (v := ?_) (show _ = some { dst := some 24, op := _, type := _, pos := _, after := _, guard := _ } from rfl) (by kernel_rfl) (by kernel_rfl) (by kernel_rfl) (fun _ _ _ h => h) (Or.inl ⟨by rfl, ?_⟩) hHeld ?_
      rotate_left
      · intro w' hSw
        (try dsimp only at hSw)
        go_simp
        try with_reducible rfl
      try simp only [Act.put, List.setIfInBounds_toArray, List.set_cons_zero, List.set_cons_succ]
      refine wpAnyH_take (i := 14) (v := ?_) (show _ = some { dst := some 25, op := _, type := _, pos := _, after := _, guard := _ } from rfl) (by kernel_rfl) (by kernel_rfl) (by kernel_rfl) (fun _ _ _ h => h) (Or.inl ⟨by rfl, ?_⟩) hHeld ?_
      rotate_left
      · intro w' hSw
        (try dsimp only at hSw)
        go_simp
        try with_reducible rfl
      try simp only [Act.put, List.setIfInBounds_toArray, List.set_cons_zero, List.set_cons_succ]
      refine wpAnyH_take (i := 15) (v := ?_) (show _ = some { dst := some 26, op := _, type := _, pos := _, after := _, guard := _ } from rfl) (by kernel_rfl) (by kernel_rfl) (by kernel_rfl) (fun _ _ _ h => h) (Or.inl ⟨by rfl, ?_⟩) hHeld ?_
      rotate_left
      · intro w' hSw
        (try dsimp only at hSw)
        go_simp
        try with_reducible rfl
      try simp only [Act.put, List.setIfInBounds_toArray, List.set_cons_zero, List.set_cons_succ]
      refine wpAnyH_take (i := 16) (v := ?_) (show _ = some { dst := some 27, op := _, type := _, pos := _, after := _, guard := _ } from rfl) (by kernel_rfl) (by kernel_rfl) (by kernel_rfl) (fun _ _ _ h => h) (Or.inl ⟨by rfl, ?_⟩) hHeld ?_
      rotate_left
      · intro w' hSw
        (try dsimp only at hSw)
        go_simp
        try with_reducible rfl
      try simp only [Act.put, List.setIfInBounds_toArray, List.set_cons_zero, List.set_cons_succ]
      refine wpAnyH_take (i := 17) (v := ?_) (show _ = some { dst := some 28, op := _, type := _, pos := _, after := _, guard := _ } from rfl) (by kernel_rfl) (by kernel_rfl) (by kernel_rfl) (fun _ _ _ h => h) (Or.inl ⟨by rfl, ?_⟩) hHeld ?_
      rotate_left
      · intro w' hSw
        (try dsimp only at hSw)
        go_simp
        try with_reducible rfl
      try simp only [Act.put, List.setIfInBounds_toArray, List.set_cons_zero, List.set_cons_succ]
      refine wpAnyH_take (i := 18) (v := ?_) (show _ = some { dst := some 29, op := _, type := _, pos := _, after := _, guard := _ } from rfl) (by kernel_rfl) (by kernel_rfl) (by kernel_rfl) (fun _ _ _ h => h) (Or.inl ⟨by rfl, ?_⟩) hHeld ?_
      rotate_left
      · intro w' hSw
        (try dsimp only at hSw)
        go_simp
        try with_reducible rfl
      try simp only [Act.put, List.setIfInBounds_toArray, List.set_cons_zero, List.set_cons_succ]
      refine wpAnyH_take (i := 19) (v := ?_) (show _ = some { dst := some 30, op := _, type := _, pos := _, after := _, guard := _ } from rfl) (by kernel_rfl) (by kernel_rfl) (by kernel_rfl) (fun _ _ _ h => h) (Or.inl ⟨by rfl, ?_⟩) hHeld ?_
      rotate_left
      · intro w' hSw
        (try dsimp only at hSw)
        go_simp
        try with_reducible rfl
      try simp only [Act.put, List.setIfInBounds_toArray, List.set_cons_zero, List.set_cons_succ]
      refine wpAnyH_take (i := 20) (v := ?_) (show _ = some { dst := some 31, op := _, type := _, pos := _, after := _, guard := _ } from rfl) (by kernel_rfl) (by kernel_rfl) (by kernel_rfl) (fun _ _ _ h => h) (Or.inl ⟨by rfl, ?_⟩) hHeld ?_
      rotate_left
      · intro w' hSw
        (try dsimp only at hSw)
        go_simp
        try with_reducible rfl
      try simp only [Act.put, List.setIfInBounds_toArray, List.set_cons_zero, List.set_cons_succ]
      refine wpAnyH_take (i := 21) (v := ?_) (show _ = some { dst := some 32, op := _, type := _, pos := _, after := _, guard := _ } from rfl) (by kernel_rfl) (by kernel_rfl) (by kernel_rfl) (fun _ _ _ h => h) (Or.inl ⟨by rfl, ?_⟩) hHeld ?_
      rotate_left
      · intro w' hSw
        (try dsimp only at hSw)
        go_simp
        try with_reducible rfl
      try simp only [Act.put, List.setIfInBounds_toArray, List.set_cons_zero, List.set_cons_succ]
      refine wpAnyH_ready (rs := [22]) (by kernel_rfl) (by simp) ?_
      refine AllReadyH.cons (show _ = some { dst := some 33, op := _, type := _, pos := _, after := _, guard := _ } from rfl) (fun K hK => ?_) AllReadyH.nil
      go_simp
      refine hK.out _ _ (KY.out) (fun hHeld => ?_)
      clear hK K
      try simp only [Act.put, List.setIfInBounds_toArray, List.set_cons_zero, List.set_cons_succ]
      refine wpAnyH_ready (rs := [23]) (by kernel_rfl) (by simp) ?_
      refine AllReadyH.cons (show _ = some { dst := some 34, op := _, type := _, pos := _, after := _, guard := _ } from rfl) (fun K hK => ?_) AllReadyH.nil
      rw [if_pos (by rfl)]
      refine wp_append_own_at _ _ 34 rfl W.heap.size 59 i0 (.agg #[.string ⟨#[]⟩, .int .i64 0, .slice none 0 0, .string ⟨#[]⟩]) 4 64 Tryd.underlying34 hi0 hz0 hz1 hz2 rfl (by decide) _ _ _ rfl (HO.out.alloc _) ⟨wr.heap.size, 0, none⟩ 1 1 [.string (nmB n), .int .i64 1, .slice (some ⟨rb n, 0, none⟩) 2 2, .string ⟨#[43]⟩] rfl rfl ?_ ?_ ?_ ?_ ?_ ?_
      · exact CN.out
      · intro u hu
        simp only [List.mem_cons, List.not_mem_nil, or_false] at hu
        rcases hu with rfl | rfl | rfl | rfl <;> rfl
      · have := HK.out; have := HL.out; unfold maxLen; omega
      · have := HK.out; have := HL.out; omega
      · have := HB.out.size; simp only [World.size_alloc, World.size_drew]; omega
      intro v5 W5 hown5 hg5 _ _
      have hg5' : (wr.alloc (.cells #[.string (nmB n), .int .i64 1, .slice (some ⟨rb n, 0, none⟩) 2 2, .string ⟨#[43]⟩] 59)).drew.grownBy W5 (Value.slice A1 n cc1).ownBlock := hg5
      have HO5 : Hid (W5.ownsRow W.heap.size 59 4 v5 (n + 1) (ruL rb (n + 1))) := Lib.hid hown5
      have HB5 : Hid (Below W.heap.size W W5) := Lib.hid ((HB.out.trans (HY.out.mono HB.out.size)).grown hg5' (Nat.le_trans HB.out.size HY.out.size) (fun k hk => (HO.out.lt k hk).1))
      have HK5 : Hid (W5.cell? ⟨g, n * 4, none⟩ = some (.string (nmB n)) ∧ W5.cell? ⟨g, n * 4 + 1, none⟩ = some (.int .i64 1) ∧ W5.cell? ⟨g, n * 4 + 2, none⟩ = some (.slice (some ⟨rb n, 0, none⟩) 2 2) ∧ W5.cell? ⟨g, n * 4 + 3, none⟩ = some (.string ⟨#[43]⟩)) := Lib.hid (by
        have hr := HR.out.later HB5.out
        exact ⟨hr.c0 n HL.out, hr.c1 n HL.out, hr.c2 n HL.out, hr.c3 n HL.out⟩)
      clear hown5 hg5 hg5'
      refine hK.out _ _ (HK5.out) (fun hHeld => ?_)
      clear hK K
      try simp only [Act.put, List.setIfInBounds_toArray, List.set_cons_zero, List.set_cons_succ]
      refine wpAnyH_take (i := 24) (v := ?_) (show _ = some { dst := some 3, op := _, type := _, pos := _, after := _, guard := _ } from rfl) (by kernel_rfl) (by kernel_rfl) (by kernel_rfl) (fun _ _ _ h => h) (Or.inl ⟨by rfl, ?_⟩) hHeld ?_
      rotate_left
      · intro w' hSw
        (try dsimp only at hSw)
        go_simp
        try with_reducible rfl
      try simp only [Act.put, List.setIfInBounds_toArray, List.set_cons_zero, List.set_cons_succ]
      refine wpAnyH_done (by kernel_rfl) ?_ _
      clear hHeld
      go_wp2_with fail
      exact ⟨⟨n + 1, HL.out, by go_num, HO5.out, HB5.out⟩, by have := HL.out; simp [intOf]; omega⟩
    · obtain rfl : n = k := by omega
      have tl : decide ((n : Int) < (n : Int)) = false := by simp
      clear hlt hn ho hb
      go_wp2_with fail
      go_ret
      exact ⟨_, rfl, HO.out, HB.out⟩
end Go.Proofs.YtjcaeoacgoklmaaDoor
