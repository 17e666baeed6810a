import Derived.Test.YtjcaeoacgoklmaaDoorGtM
namespace Go.Proofs.YtjcaeoacgoklmaaDoor
open Go.RowKit
/-- The rules of a chain, in a row at block g. -/
structure RuR (g k : Nat) (rb : Nat → Nat) (W : World) : Prop where
  c0 : ∀ i, i < k → W.cell? ⟨g, i * 4, none⟩ = some (.string (nmB i))
  c1 : ∀ i, i < k → W.cell? ⟨g, i * 4 + 1, none⟩ = some (.int .i64 1)
  c2 : ∀ i, i < k → W.cell? ⟨g, i * 4 + 2, none⟩ = some (.slice (some ⟨rb i, 0, none⟩) 2 2)
  c3 : ∀ i, i < k → W.cell? ⟨g, i * 4 + 3, none⟩ = some (.string ⟨#[43]⟩)
theorem RuR.later {g k : Nat} {rb : Nat → Nat} {W W' : World} (h : RuR g k rb W) (hb : Below W.heap.size W W') : RuR g k rb W' :=
  ⟨fun i hi => cell_later2 hb (h.c0 i hi), fun i hi => cell_later2 hb (h.c1 i hi), fun i hi => cell_later2 hb (h.c2 i hi), fun i hi => cell_later2 hb (h.c3 i hi)⟩
theorem infoCl : (Tryd.prog.info? 64).map (fun i => (i.zero, i.size, i.bytes)) = some (some (.agg #[.string ⟨#[]⟩, .int .i64 0, .slice none 0 0, .string ⟨#[]⟩, .bool false, .slice none 0 0, .slice none 0 0, .string ⟨#[]⟩, .int .i64 0, .int .i64 0, .int .i64 0]), 11, 160) := by kernel_rfl
/-- The reference's graph as it is made: no inputs. -/
structure RN (W : World) (rb : Nat → Nat) (G : Nat) (cv : Value) (n : Nat) (w : World) : Prop where
  g : w.heap[G]? = some (.cells #[cv, .slice none 0 0, .slice none 0 0, .slice none 0 0, .int .i64 0] 58 (0, 0))
  row : w.ownsRow (W.heap.size + 1) 64 11 cv n (allC rb (fun _ => rc0) n)
  below : Below W.heap.size W w
theorem RN.later {W : World} {rb : Nat → Nat} {G : Nat} {cv : Value} {n : Nat} {w w' : World} (h : RN W rb G cv n w) (hb : Below w.heap.size w w') : RN W rb G cv n w' :=
  ⟨(hb.block _ (blk_lt h.g)).trans h.g, own_below2 h.row hb, h.below.trans (hb.mono h.below.size)⟩
theorem RN.push {W : World} {rb : Nat → Nat} {cv v : Value} {n : Nat} {w Y w5 : World} (h : RN W rb W.heap.size cv n w) (hb : Below w.heap.size w Y) (hown : w5.ownsRow (W.heap.size + 1) 64 11 v (n + 1) (allC rb (fun _ => rc0) n ++ rcCells n (rb n) rc0)) (hg : Y.grownBy w5 cv.ownBlock) :
    RN W rb W.heap.size v (n + 1) (w5.setCell ⟨W.heap.size, 0, none⟩ v) ∧ w5.cell? ⟨W.heap.size, 0, none⟩ = some cv ∧ w5.frozen? ⟨W.heap.size, 0, none⟩ = false := by
  have hG : W.heap.size < w.heap.size := blk_lt h.g
  have hne : cv.ownBlock ≠ some W.heap.size := fun e => by have := (h.row.lt _ e).1; omega
  have h5 : w5.heap[W.heap.size]? = w.heap[W.heap.size]? := (hg.block _ (Nat.lt_of_lt_of_le hG hb.size) (fun e => hne e.symm)).trans (hb.block _ hG)
  have hg5 := h5.trans h.g
  have hb5 : Below W.heap.size W w5 := (h.below.trans (hb.mono h.below.size)).grown hg (Nat.le_trans h.below.size hb.size) (fun k hk => by have := (h.row.lt k hk).1; omega)
  refine ⟨⟨set_block hg5 v (o := 0), own_keepR hown fun b e => set_elseR w5 v (fun e2 => ?_), hb5.setCell (Nat.le_refl _) v⟩, Lib.cell_of_heap hg5 0, Lib.frozen_of_heap hg5 0⟩
  have h1 := (hown.lt b e).1
  have e2 : b = W.heap.size := e2
  omega
set_option maxRecDepth 100000 in
set_option maxHeartbeats 16000000 in
theorem rnew_any {g k c : Nat} {rb : Nat → Nat} {A : Option Addr} {W : World} (hk : k ≤ 24) (hA : 0 < k → A = some ⟨g, 0, none⟩) (h : RuR g k rb W) (hg : 0 < k → g < W.heap.size) :
    Calls Tryd.prog 6 #[.slice A k c] W fun e w' => ∃ cv, e = .returned (.tuple #[.pointer (some ⟨W.heap.size, 0, none⟩), .int .i64 0]) ∧ RN W rb W.heap.size cv k w' := by
  have HA := Lib.hid hA
  have HR := Lib.hid h
  have HK := Lib.hid hk
  have HG := Lib.hid hg
  have HB1 : Hid (Below W.heap.size W (W.alloc (.cells #[.slice none 0 0, .slice none 0 0, .slice none 0 0, .slice none 0 0, .int .i64 0] 58))) := Lib.hid ((Below.refl _ _).alloc (Nat.le_refl _) _)
  have hq1 := heap_alloc_new W (.cells #[.slice none 0 0, .slice none 0 0, .slice none 0 0, .slice none 0 0, .int .i64 0] 58)
  have HQ1 := Lib.hid hq1
  clear hA h hg hq1
  go_enter Tryd.func6, Tryd.ntmps6
  go_wp2_with fail
  generalize hW1 : W.alloc (.cells #[.slice none 0 0, .slice none 0 0, .slice none 0 0, .slice none 0 0, .int .i64 0] 58) = W1 at HB1 HQ1 ⊢
  clear hW1
  go_loopw [5] (fun v wr => ∃ n : Nat, n ≤ k ∧ v = .int .i64 n ∧ Below W1.heap.size W1 wr) (fun v _ => k - (intOf v).toNat)
  case atStart => exact ⟨0, by omega, rfl, Below.refl _ _⟩
  case round =>
    obtain ⟨n, hn, rfl, hb⟩ := hrel
    have HB := Lib.hid hb
    clear hb
    by_cases hlt : n < k
    · have tl : decide ((n : Int) < (k : Int)) = true := by simp; omega
      have hA := HA.out (by omega)
      subst hA
      have HL := Lib.hid hlt
      have hr := HR.out.later (HB1.out.trans (HB.out.mono HB1.out.size))
      have c0 := hr.c0 n hlt
      have c1 := hr.c1 n hlt
      have c2 := hr.c2 n hlt
      have c3 := hr.c3 n hlt
      clear hr hlt hn
      go_wp2_with fail
      have hbx := heap_alloc_new wr (.cells #[.string (nmB n), .int .i64 1, .slice (some ⟨rb n, 0, none⟩) 2 2, .string ⟨#[43]⟩] 59)
      have b1 : (wr.alloc (.cells #[.string (nmB n), .int .i64 1, .slice (some ⟨rb n, 0, none⟩) 2 2, .string ⟨#[43]⟩] 59)).drew.cell? ⟨wr.heap.size, 1, none⟩ = some (.int .i64 1) := Lib.cell_of_heap hbx 1
      have b2 : (wr.alloc (.cells #[.string (nmB n), .int .i64 1, .slice (some ⟨rb n, 0, none⟩) 2 2, .string ⟨#[43]⟩] 59)).drew.cell? ⟨wr.heap.size, 2, none⟩ = some (.slice (some ⟨rb n, 0, none⟩) 2 2) := Lib.cell_of_heap hbx 2
      have HBx : Hid (Below wr.heap.size wr (wr.alloc (.cells #[.string (nmB n), .int .i64 1, .slice (some ⟨rb n, 0, none⟩) 2 2, .string ⟨#[43]⟩] 59)).drew) := Lib.hid (((Below.refl _ _).alloc (Nat.le_refl _) _).drew)
      clear hbx
      refine wp_region_held_drew (S := (fun w' => w'.cell? ⟨wr.heap.size, 1, none⟩ = some (.int .i64 1) ∧ w'.cell? ⟨wr.heap.size, 2, none⟩ = some (.slice (some ⟨rb n, 0, none⟩) 2 2))) (by kernel_rfl) ⟨b1, b2⟩ (fun hHeld => ?_)
      refine wpAnyH_take (i := 0) (v := ?_) (show _ = some { dst := some 20, op := _, type := _, pos := _, after := _, guard := _ } from rfl) (by kernel_rfl) (by kernel_rfl) (by kernel_rfl) (fun _ _ _ h => h) (Or.inl ⟨by rfl, ?_⟩) hHeld ?_
      rotate_left
      · intro w' hSw
        (try dsimp only at hSw)
        go_simp
        try with_reducible rfl
      try simp only [Act.put, List.setIfInBounds_toArray, List.set_cons_zero, List.set_cons_succ]
      refine wpAnyH_take (i := 1) (v := ?_) (show _ = some { dst := some 21, op := _, type := _, pos := _, after := _, guard := _ } from rfl) (by kernel_rfl) (by kernel_rfl) (by kernel_rfl) (fun _ _ _ h => h) (Or.inl ⟨by rfl, ?_⟩) hHeld ?_
      rotate_left
      · intro w' hSw
        (try dsimp only at hSw)
        go_simp
        try with_reducible rfl
      try simp only [Act.put, List.setIfInBounds_toArray, List.set_cons_zero, List.set_cons_succ]
      refine wpAnyH_take (i := 2) (v := ?_) (show _ = some { dst := some 22, op := _, type := _, pos := _, after := _, guard := _ } from rfl) (by kernel_rfl) (by kernel_rfl) (by kernel_rfl) (fun _ _ _ h => h) (Or.inl ⟨by rfl, ?_⟩) hHeld ?_
      rotate_left
      · intro w' hSw
        (try dsimp only at hSw)
        go_simp
        try with_reducible rfl
      try simp only [Act.put, List.setIfInBounds_toArray, List.set_cons_zero, List.set_cons_succ]
      refine wpAnyH_take (i := 3) (v := ?_) (show _ = some { dst := some 23, op := _, type := _, pos := _, after := _, guard := _ } from rfl) (by kernel_rfl) (by kernel_rfl) (by kernel_rfl) (fun _ _ _ h => h) (Or.inl ⟨by rfl, ?_⟩) hHeld ?_
      rotate_left
      · intro w' hSw
        (try dsimp only at hSw)
        go_simp
        try with_reducible rfl
      try simp only [Act.put, List.setIfInBounds_toArray, List.set_cons_zero, List.set_cons_succ]
      refine wpAnyH_take (i := 4) (v := ?_) (show _ = some { dst := some 24, op := _, type := _, pos := _, after := _, guard := _ } from rfl) (by kernel_rfl) (by kernel_rfl) (by kernel_rfl) (fun _ _ _ h => h) (Or.inl ⟨by rfl, ?_⟩) hHeld ?_
      rotate_left
      · intro w' hSw
        (try dsimp only at hSw)
        go_simp
        try with_reducible rfl
      try simp only [Act.put, List.setIfInBounds_toArray, List.set_cons_zero, List.set_cons_succ]
      refine wpAnyH_take (i := 5) (v := ?_) (show _ = some { dst := some 25, op := _, type := _, pos := _, after := _, guard := _ } from rfl) (by kernel_rfl) (by kernel_rfl) (by kernel_rfl) (fun _ _ _ h => h) (Or.inl ⟨by rfl, ?_⟩) hHeld ?_
      rotate_left
      · intro w' hSw
        (try dsimp only at hSw)
        go_simp
        try with_reducible rfl
      try simp only [Act.put, List.setIfInBounds_toArray, List.set_cons_zero, List.set_cons_succ]
      refine wpAnyH_take (i := 6) (v := ?_) (show _ = some { dst := some 26, op := _, type := _, pos := _, after := _, guard := _ } from rfl) (by kernel_rfl) (by kernel_rfl) (by kernel_rfl) (fun _ _ _ h => h) (Or.inl ⟨by rfl, ?_⟩) hHeld ?_
      rotate_left
      · intro w' hSw
        (try dsimp only at hSw)
        go_simp
        try with_reducible rfl
      try simp only [Act.put, List.setIfInBounds_toArray, List.set_cons_zero, List.set_cons_succ]
      refine wpAnyH_take (i := 7) (v := ?_) (show _ = some { dst := some 27, op := _, type := _, pos := _, after := _, guard := _ } from rfl) (by kernel_rfl) (by kernel_rfl) (by kernel_rfl) (fun _ _ _ h => h) (Or.inl ⟨by rfl, ?_⟩) hHeld ?_
      rotate_left
      · intro w' hSw
        (try dsimp only at hSw)
        go_simp
        try with_reducible rfl
      try simp only [Act.put, List.setIfInBounds_toArray, List.set_cons_zero, List.set_cons_succ]
      refine wpAnyH_take (i := 8) (v := ?_) (show _ = some { dst := some 28, op := _, type := _, pos := _, after := _, guard := _ } from rfl) (by kernel_rfl) (by kernel_rfl) (by kernel_rfl) (fun _ _ _ h => h) (Or.inl ⟨by rfl, ?_⟩) hHeld ?_
      rotate_left
      · intro w' hSw
        (try dsimp only at hSw)
        go_simp
        try with_reducible rfl
      try simp only [Act.put, List.setIfInBounds_toArray, List.set_cons_zero, List.set_cons_succ]
      refine wpAnyH_take (i := 9) (v := ?_) (show _ = some { dst := some 29, op := _, type := _, pos := _, after := _, guard := _ } from rfl) (by kernel_rfl) (by kernel_rfl) (by kernel_rfl) (fun _ _ _ h => h) (Or.inl ⟨by rfl, ?_⟩) hHeld ?_
      rotate_left
      · intro w' hSw
        (try dsimp only at hSw)
        go_simp
        try with_reducible rfl
      try simp only [Act.put, List.setIfInBounds_toArray, List.set_cons_zero, List.set_cons_succ]
      refine wpAnyH_take (i := 10) (v := ?_) (show _ = some { dst := some 30, op := _, type := _, pos := _, after := _, guard := _ } from rfl) (by kernel_rfl) (by kernel_rfl) (by kernel_rfl) (fun _ _ _ h => h) (Or.inl ⟨by rfl, ?_⟩) hHeld ?_
      rotate_left
      · intro w' hSw
        (try dsimp only at hSw)
        go_simp
        try with_reducible rfl
      try simp only [Act.put, List.setIfInBounds_toArray, List.set_cons_zero, List.set_cons_succ]
      refine wpAnyH_take (i := 11) (v := ?_) (show _ = some { dst := some 31, op := _, type := _, pos := _, after := _, guard := _ } from rfl) (by kernel_rfl) (by kernel_rfl) (by kernel_rfl) (fun _ _ _ h => h) (Or.inl ⟨by rfl, ?_⟩) hHeld ?_
      rotate_left
      · intro w' hSw
        (try dsimp only at hSw)
        go_simp
        try with_reducible rfl
      try simp only [Act.put, List.setIfInBounds_toArray, List.set_cons_zero, List.set_cons_succ]
      refine wpAnyH_take (i := 12) (v := ?_) (show _ = some { dst := some 32, op := _, type := _, pos := _, after := _, guard := _ } from rfl) (by kernel_rfl) (by kernel_rfl) (by kernel_rfl) (fun _ _ _ h => h) (Or.inl ⟨by rfl, ?_⟩) hHeld ?_
      rotate_left
      · intro w' hSw
        (try dsimp only at hSw)
        go_simp
        try with_reducible rfl
      try simp only [Act.put, List.setIfInBounds_toArray, List.set_cons_zero, List.set_cons_succ]
      refine wpAnyH_take (i := 13) (v := ?_) (show _ = some { dst := some 33, op := _, type := _, pos := _, after := _, guard := _ } from rfl) (by kernel_rfl) (by kernel_rfl) (by kernel_rfl) (fun _ _ _ h => h) (Or.inl ⟨by rfl, ?_⟩) hHeld ?_
      rotate_left
      · intro w' hSw
        (try dsimp only at hSw)
        go_simp
        try with_reducible rfl
      try simp only [Act.put, List.setIfInBounds_toArray, List.set_cons_zero, List.set_cons_succ]
      refine wpAnyH_ready (rs := [14]) (by kernel_rfl) (by simp) ?_
      refine AllReadyH.cons (show _ = some { dst := some 34, op := _, type := _, pos := _, after := _, guard := _ } from rfl) (fun K hK => ?_) AllReadyH.nil
      go_simp
      refine (need_one _).mono ?_
      rintro e w9 ⟨rfl, rfl⟩
      go_wp2_with fail
      refine hK.out _ _ (hHeld) (fun hHeld => ?_)
      clear hK K
      try simp only [Act.put, List.setIfInBounds_toArray, List.set_cons_zero, List.set_cons_succ]
      refine wpAnyH_take (i := 15) (v := ?_) (show _ = some { dst := some 35, op := _, type := _, pos := _, after := _, guard := _ } from rfl) (by kernel_rfl) (by kernel_rfl) (by kernel_rfl) (fun _ _ _ h => h) (Or.inl ⟨by rfl, ?_⟩) hHeld ?_
      rotate_left
      · intro w' hSw
        (try dsimp only at hSw)
        go_simp
        try with_reducible rfl
      try simp only [Act.put, List.setIfInBounds_toArray, List.set_cons_zero, List.set_cons_succ]
      refine wpAnyH_take (i := 16) (v := ?_) (show _ = some { dst := some 36, op := _, type := _, pos := _, after := _, guard := _ } from rfl) (by kernel_rfl) (by kernel_rfl) (by kernel_rfl) (fun _ _ _ h => h) (Or.inl ⟨by rfl, ?_⟩) hHeld ?_
      rotate_left
      · intro w' hSw
        (try dsimp only at hSw)
        go_simp
        try with_reducible rfl
      try simp only [Act.put, List.setIfInBounds_toArray, List.set_cons_zero, List.set_cons_succ]
      refine wpAnyH_done (by kernel_rfl) ?_ _
      clear hHeld
      go_wp2_with fail
      exact ⟨⟨n + 1, HL.out, by go_num, HB.out.trans (HBx.out.mono HB.out.size)⟩, by have := HL.out; simp [intOf]; omega⟩
    · obtain rfl : n = k := by omega
      have tl : decide ((n : Int) < (n : Int)) = false := by simp
      clear hlt hn
      have hrn : RN W rb W.heap.size (.slice none 0 0) 0 wr := ⟨(HB.out.block _ (blk_lt HQ1.out)).trans HQ1.out, World.ownsRow_nil _ _ _ _, HB1.out.trans (HB.out.mono HB1.out.size)⟩
      have HRn := Lib.hid hrn
      clear hrn
      go_wp2_with fail
      go_loopw [7] (fun v wr => ∃ (m : Nat) (cv : Value), m ≤ n ∧ v = .int .i64 m ∧ RN W rb W.heap.size cv m wr) (fun v _ => n - (intOf v).toNat)
      case atStart => exact ⟨0, _, by omega, rfl, HRn.out⟩
      case round =>
        obtain ⟨k, hkn⟩ : ∃ k, k = n := ⟨_, rfl⟩
        subst hkn
        obtain ⟨n, cv, hn, rfl, hr⟩ := hrel
        have HRr := Lib.hid hr
        by_cases hlt : n < k
        · have tl2 : decide ((n : Int) < (k : Int)) = true := by simp; omega
          have hA := HA.out (by omega)
          subst hA
          have HL := Lib.hid hlt
          have hr4 := HR.out.later hr.below
          have c0 := hr4.c0 n hlt
          obtain ⟨A1, cc1, rfl, _⟩ := own_slice hr.row
          have hgc : wr.cell? ⟨W.heap.size, 0, none⟩ = some (.slice A1 n cc1) := Lib.cell_of_heap hr.g 0
          have hrl : Calls Tryd.prog 16 #[.pointer (some ⟨W.heap.size, 0, none⟩), .string (nmB n)] wr fun e w' => e = .returned (.int .i64 (ixF nmB n (nmB n))) ∧ w' = wr := by
            rcases Nat.eq_zero_or_pos n with h0 | h0
            · subst h0
              exact rule_any (g := 0) (by omega) hgc (fun h => absurd h (by omega)) (fun j hj => by omega) _
            · have hA1 : ∃ g1, A1 = some ⟨g1, 0, none⟩ := by
                rcases hr.row.2 with ⟨_, h1⟩ | ⟨g1, cap, cur, hv, _⟩
                · omega
                · injection hv with hv
                  exact ⟨g1, hv⟩
              obtain ⟨g1, rfl⟩ := hA1
              exact rule_any (g := g1) (by omega) hgc (fun _ => rfl) (fun j hj => by
                have := hr.row.cellAt (j * 11) (by omega)
                rw [this]
                exact allC_at rb _ (o := 0) hj (by omega)) _
          have hmis : ixF nmB n (nmB n) = -1 := ixF_miss fun j hj he => by have := nm_inj (by omega) (by omega) he; omega
          rw [hmis] at hrl
          have KR := Lib.hid hrl
          clear hrl hmis
          go_wp2_with fail
          refine KR.out.mono ?_
          rintro e w9 ⟨rfl, rfl⟩
          go_wp2_with fail
          have HGc := Lib.hid hgc
          have d0 : w9.drew.cell? ⟨g, n * 4, none⟩ = some (.string (nmB n)) := c0
          have d1 : w9.drew.cell? ⟨g, n * 4 + 1, none⟩ = some (.int .i64 1) := hr4.c1 n hlt
          have d2 : w9.drew.cell? ⟨g, n * 4 + 2, none⟩ = some (.slice (some ⟨rb n, 0, none⟩) 2 2) := hr4.c2 n hlt
          have d3 : w9.drew.cell? ⟨g, n * 4 + 3, none⟩ = some (.string ⟨#[43]⟩) := hr4.c3 n hlt
          have hgl : g < W.heap.size := HG.out (by omega)
          have HGl := Lib.hid hgl
          obtain ⟨i0, hi0, hz0, hz1, hz2⟩ := parts3 infoCl
          have HY : Hid (Below w9.heap.size w9 (w9.alloc (.cells (rcCells n (rb n) rc0).toArray 64)).drew) := Lib.hid (((Below.refl _ _).alloc (Nat.le_refl _) _).drew)
          have CN : Hid (∀ j u, (rcCells n (rb n) rc0)[j]? = some u → (w9.alloc (.cells (rcCells n (rb n) rc0).toArray 64)).drew.cell? ((⟨w9.heap.size, 0, none⟩ : Addr).add j) = some u) := Lib.hid (cells_new w9 (rcCells n (rb n) rc0) 64)
          have KY : Hid ((w9.alloc (.cells (rcCells n (rb n) rc0).toArray 64)).drew.cell? ⟨g, n * 4, none⟩ = some (.string (nmB n)) ∧ (w9.alloc (.cells (rcCells n (rb n) rc0).toArray 64)).drew.cell? ⟨g, n * 4 + 1, none⟩ = some (.int .i64 1) ∧ (w9.alloc (.cells (rcCells n (rb n) rc0).toArray 64)).drew.cell? ⟨g, n * 4 + 2, none⟩ = some (.slice (some ⟨rb n, 0, none⟩) 2 2) ∧ (w9.alloc (.cells (rcCells n (rb n) rc0).toArray 64)).drew.cell? ⟨g, n * 4 + 3, none⟩ = some (.string ⟨#[43]⟩)) := Lib.hid ⟨cell_alloc_of _ d0, cell_alloc_of _ d1, cell_alloc_of _ d2, cell_alloc_of _ d3⟩
          have hgcY : ∀ o, (w9.alloc o).cell? ⟨W.heap.size, 0, none⟩ = some (.slice A1 n cc1) := fun o => cell_alloc_of o hgc
          have HNk := Lib.hid (And.intro hn hk)
          clear hr hr4 c0 hgl hn
          refine wp_region_held_drew (S := (fun w' => w'.cell? ⟨g, n * 4, none⟩ = some (.string (nmB n)) ∧ w'.cell? ⟨g, n * 4 + 1, none⟩ = some (.int .i64 1) ∧ w'.cell? ⟨g, n * 4 + 2, none⟩ = some (.slice (some ⟨rb n, 0, none⟩) 2 2) ∧ w'.cell? ⟨g, n * 4 + 3, none⟩ = some (.string ⟨#[43]⟩))) (by kernel_rfl) ⟨d0, d1, d2, d3⟩ (fun hHeld => ?_)
          refine wpAnyH_take (i := 0) (v := ?_) (show _ = some { dst := some 51, op := _, type := _, pos := _, after := _, guard := _ } from rfl) (by kernel_rfl) (by kernel_rfl) (by kernel_rfl) (fun _ _ _ h => h) (Or.inl ⟨by rfl, ?_⟩) hHeld ?_
          rotate_left
          · intro w' hSw
            (try dsimp only at hSw)
            go_simp
            try with_reducible rfl
          try simp only [Act.put, List.setIfInBounds_toArray, List.set_cons_zero, List.set_cons_succ]
          refine wpAnyH_take (i := 1) (v := ?_) (show _ = some { dst := some 52, op := _, type := _, pos := _, after := _, guard := _ } from rfl) (by kernel_rfl) (by kernel_rfl) (by kernel_rfl) (fun _ _ _ h => h) (Or.inl ⟨by rfl, ?_⟩) hHeld ?_
          rotate_left
          · intro w' hSw
            (try dsimp only at hSw)
            go_simp
            try with_reducible rfl
          try simp only [Act.put, List.setIfInBounds_toArray, List.set_cons_zero, List.set_cons_succ]
          refine wpAnyH_take (i := 2) (v := ?_) (show _ = some { dst := some 53, op := _, type := _, pos := _, after := _, guard := _ } from rfl) (by kernel_rfl) (by kernel_rfl) (by kernel_rfl) (fun _ _ _ h => h) (Or.inl ⟨by rfl, ?_⟩) hHeld ?_
          rotate_left
          · intro w' hSw
            (try dsimp only at hSw)
            go_simp
            try with_reducible rfl
          try simp only [Act.put, List.setIfInBounds_toArray, List.set_cons_zero, List.set_cons_succ]
          refine wpAnyH_take (i := 3) (v := ?_) (show _ = some { dst := some 54, op := _, type := _, pos := _, after := _, guard := _ } from rfl) (by kernel_rfl) (by kernel_rfl) (by kernel_rfl) (fun _ _ _ h => h) (Or.inl ⟨by rfl, ?_⟩) hHeld ?_
          rotate_left
          · intro w' hSw
            (try dsimp only at hSw)
            go_simp
            try with_reducible rfl
          try simp only [Act.put, List.setIfInBounds_toArray, List.set_cons_zero, List.set_cons_succ]
          refine wpAnyH_take (i := 5) (v := ?_) (show _ = some { dst := some 56, op := _, type := _, pos := _, after := _, guard := _ } from rfl) (by kernel_rfl) (by kernel_rfl) (by kernel_rfl) (fun _ _ _ h => h) (Or.inl ⟨by rfl, ?_⟩) hHeld ?_
          rotate_left
          · intro w' hSw
            (try dsimp only at hSw)
            go_simp
            try with_reducible rfl
          try simp only [Act.put, List.setIfInBounds_toArray, List.set_cons_zero, List.set_cons_succ]
          refine wpAnyH_take (i := 6) (v := ?_) (show _ = some { dst := some 57, op := _, type := _, pos := _, after := _, guard := _ } from rfl) (by kernel_rfl) (by kernel_rfl) (by kernel_rfl) (fun _ _ _ h => h) (Or.inl ⟨by rfl, ?_⟩) hHeld ?_
          rotate_left
          · intro w' hSw
            (try dsimp only at hSw)
            go_simp
            try with_reducible rfl
          try simp only [Act.put, List.setIfInBounds_toArray, List.set_cons_zero, List.set_cons_succ]
          refine wpAnyH_take (i := 7) (v := ?_) (show _ = some { dst := some 58, op := _, type := _, pos := _, after := _, guard := _ } from rfl) (by kernel_rfl) (by kernel_rfl) (by kernel_rfl) (fun _ _ _ h => h) (Or.inl ⟨by rfl, ?_⟩) hHeld ?_
          rotate_left
          · intro w' hSw
            (try dsimp only at hSw)
            go_simp
            try with_reducible rfl
          try simp only [Act.put, List.setIfInBounds_toArray, List.set_cons_zero, List.set_cons_succ]
          refine wpAnyH_take (i := 8) (v := ?_) (show _ = some { dst := some 59, op := _, type := _, pos := _, after := _, guard := _ } from rfl) (by kernel_rfl) (by kernel_rfl) (by kernel_rfl) (fun _ _ _ h => h) (Or.inl ⟨by rfl, ?_⟩) hHeld ?_
          rotate_left
          · intro w' hSw
            (try dsimp only at hSw)
            go_simp
            try with_reducible rfl
          try simp only [Act.put, List.setIfInBounds_toArray, List.set_cons_zero, List.set_cons_succ]
          refine wpAnyH_take (i := 9) (v := ?_) (show _ = some { dst := some 60, op := _, type := _, pos := _, after := _, guard := _ } from rfl) (by kernel_rfl) (by kernel_rfl) (by kernel_rfl) (fun _ _ _ h => h) (Or.inl ⟨by rfl, ?_⟩) hHeld ?_
          rotate_left
          · intro w' hSw
            (try dsimp only at hSw)
            go_simp
            try with_reducible rfl
          try simp only [Act.put, List.setIfInBounds_toArray, List.set_cons_zero, List.set_cons_succ]
          refine wpAnyH_ready (rs := [4, 10]) (by kernel_rfl) (by simp) ?_
          refine AllReadyH.cons (show _ = some { dst := some 55, op := _, type := _, pos := _, after := _, guard := _ } from rfl) (fun K hK => ?_) (AllReadyH.cons (show _ = some { dst := some 61, op := _, type := _, pos := _, after := _, guard := _ } from rfl) (fun K hK => ?_) AllReadyH.nil)
          · go_simp
            refine hK.out _ _ (hHeld) (fun hHeld => ?_)
            clear hK K
            try simp only [Act.put, List.setIfInBounds_toArray, List.set_cons_zero, List.set_cons_succ]
            refine wpAnyH_ready (rs := [10]) (by kernel_rfl) (by simp) ?_
            refine AllReadyH.cons (show _ = some { dst := some 61, op := _, type := _, pos := _, after := _, guard := _ } from rfl) (fun K hK => ?_) AllReadyH.nil
            go_simp
            refine hK.out _ _ (KY.out) (fun hHeld => ?_)
            clear hK K
            try simp only [Act.put, List.setIfInBounds_toArray, List.set_cons_zero, List.set_cons_succ]
            refine wpAnyH_ready (rs := [11]) (by kernel_rfl) (by simp) ?_
            refine AllReadyH.cons (show _ = some { dst := some 62, op := _, type := _, pos := _, after := _, guard := _ } from rfl) (fun K hK => ?_) AllReadyH.nil
            rw [if_pos (by rfl)]
            refine wp_append_own_at _ _ 56 rfl (W.heap.size + 1) 64 i0 (.agg #[.string ⟨#[]⟩, .int .i64 0, .slice none 0 0, .string ⟨#[]⟩, .bool false, .slice none 0 0, .slice none 0 0, .string ⟨#[]⟩, .int .i64 0, .int .i64 0, .int .i64 0]) 11 160 Tryd.underlying56 hi0 hz0 hz1 hz2 rfl (by decide) _ _ _ rfl (HRr.out.row.alloc _) ⟨w9.heap.size, 0, none⟩ 1 1 (rcCells n (rb n) rc0) rfl rfl ?_ ?_ ?_ ?_ ?_ ?_
            · exact CN.out
            · intro u hu
              simp only [rcCells, rc0, List.mem_cons, List.not_mem_nil, or_false] at hu
              rcases hu with rfl | rfl | rfl | rfl | rfl | rfl | rfl | rfl | rfl | rfl | rfl <;> rfl
            · have := HNk.out; unfold maxLen; omega
            · have := HNk.out; omega
            · have := blk_lt HRr.out.g; simp only [World.size_alloc, World.size_drew]; omega
            intro v5 W5 hown5 hg5 _ ho5
            obtain ⟨A6, c6, rfl, _⟩ := own_slice hown5
            have hg5' : (w9.alloc (.cells (rcCells n (rb n) rc0).toArray 64)).drew.grownBy W5 (Value.slice A1 n cc1).ownBlock := hg5
            have hpu := HRr.out.push HY.out hown5 hg5'
            have hk5 : ∀ o, (w9.alloc (.cells (rcCells n (rb n) rc0).toArray 64)).drew.cell? ⟨g, o, none⟩ = W5.cell? ⟨g, o, none⟩ := fun o => (World.cell?_of_block (a := ⟨g, o, none⟩) (hg5'.block g (by have h1 := HY.out.size; have h2 := HRr.out.below.size; have h3 := HGl.out; omega) (fun e => by have := (HRr.out.row.lt _ e.symm).1; have := HGl.out; omega))).symm
            have HK5 : Hid (W5.cell? ⟨g, n * 4, none⟩ = some (.string (nmB n)) ∧ W5.cell? ⟨g, n * 4 + 1, none⟩ = some (.int .i64 1) ∧ W5.cell? ⟨g, n * 4 + 2, none⟩ = some (.slice (some ⟨rb n, 0, none⟩) 2 2) ∧ W5.cell? ⟨g, n * 4 + 3, none⟩ = some (.string ⟨#[43]⟩)) := Lib.hid (by
              obtain ⟨k0, k1, k2, k3⟩ := KY.out
              exact ⟨(hk5 _).symm.trans k0, (hk5 _).symm.trans k1, (hk5 _).symm.trans k2, (hk5 _).symm.trans k3⟩)
            obtain ⟨hp1, w5c, w5z⟩ := hpu
            have HPu := Lib.hid hp1
            clear hown5 hg5 hg5' ho5 hk5 hp1
            refine hK.out _ _ (HK5.out) (fun hHeld => ?_)
            clear hK K
            try simp only [Act.put, List.setIfInBounds_toArray, List.set_cons_zero, List.set_cons_succ]
            refine wpAnyH_take (i := 12) (v := ?_) (show _ = some { dst := some 63, op := _, type := _, pos := _, after := _, guard := _ } from rfl) (by kernel_rfl) (by kernel_rfl) (by kernel_rfl) (fun _ _ _ h => h) (Or.inl ⟨by rfl, ?_⟩) hHeld ?_
            rotate_left
            · intro w' hSw
              (try dsimp only at hSw)
              go_simp
              try with_reducible rfl
            try simp only [Act.put, List.setIfInBounds_toArray, List.set_cons_zero, List.set_cons_succ]
            refine wpAnyH_take (i := 13) (v := ?_) (show _ = some { dst := some 64, op := _, type := _, pos := _, after := _, guard := _ } from rfl) (by kernel_rfl) (by kernel_rfl) (by kernel_rfl) (fun _ _ _ h => h) (Or.inl ⟨by rfl, ?_⟩) hHeld ?_
            rotate_left
            · intro w' hSw
              (try dsimp only at hSw)
              go_simp
              try with_reducible rfl
            try simp only [Act.put, List.setIfInBounds_toArray, List.set_cons_zero, List.set_cons_succ]
            refine wpAnyH_ready (rs := [14]) (by kernel_rfl) (by simp) ?_
            refine AllReadyH.cons (show _ = some { dst := none, op := _, type := _, pos := _, after := _, guard := _ } from rfl) (fun K hK => ?_) AllReadyH.nil
            go_simp
            have HK6 : Hid ((W5.setCell ⟨W.heap.size, 0, none⟩ (.slice A6 (n + 1) c6)).cell? ⟨g, n * 4, none⟩ = some (.string (nmB n)) ∧ (W5.setCell ⟨W.heap.size, 0, none⟩ (.slice A6 (n + 1) c6)).cell? ⟨g, n * 4 + 1, none⟩ = some (.int .i64 1) ∧ (W5.setCell ⟨W.heap.size, 0, none⟩ (.slice A6 (n + 1) c6)).cell? ⟨g, n * 4 + 2, none⟩ = some (.slice (some ⟨rb n, 0, none⟩) 2 2) ∧ (W5.setCell ⟨W.heap.size, 0, none⟩ (.slice A6 (n + 1) c6)).cell? ⟨g, n * 4 + 3, none⟩ = some (.string ⟨#[43]⟩)) := Lib.hid (by
              have hn : ∀ o, (W5.setCell ⟨W.heap.size, 0, none⟩ (.slice A6 (n + 1) c6)).cell? ⟨g, o, none⟩ = W5.cell? ⟨g, o, none⟩ := fun o => World.cell?_setCell_other _ _ _ _ (fun e => by injection e with e _; have := HGl.out; omega)
              obtain ⟨k0, k1, k2, k3⟩ := HK5.out
              exact ⟨(hn _).trans k0, (hn _).trans k1, (hn _).trans k2, (hn _).trans k3⟩)
            refine hK.out _ _ (HK6.out) (fun hHeld => ?_)
            clear hK K
            try simp only [Act.put, List.setIfInBounds_toArray, List.set_cons_zero, List.set_cons_succ]
            refine wpAnyH_done (by kernel_rfl) ?_ _
            clear hHeld
            go_wp2_with fail
            exact ⟨⟨n + 1, _, HL.out, by go_num, HPu.out⟩, by have := HL.out; simp [intOf]; omega⟩
          · go_simp
            refine hK.out _ _ (KY.out) (fun hHeld => ?_)
            clear hK K
            try simp only [Act.put, List.setIfInBounds_toArray, List.set_cons_zero, List.set_cons_succ]
            refine wpAnyH_ready (rs := [4]) (by kernel_rfl) (by simp) ?_
            refine AllReadyH.cons (show _ = some { dst := some 55, op := _, type := _, pos := _, after := _, guard := _ } from rfl) (fun K hK => ?_) AllReadyH.nil
            go_simp
            refine hK.out _ _ (hHeld) (fun hHeld => ?_)
            clear hK K
            try simp only [Act.put, List.setIfInBounds_toArray, List.set_cons_zero, List.set_cons_succ]
            refine wpAnyH_ready (rs := [11]) (by kernel_rfl) (by simp) ?_
            refine AllReadyH.cons (show _ = some { dst := some 62, op := _, type := _, pos := _, after := _, guard := _ } from rfl) (fun K hK => ?_) AllReadyH.nil
            rw [if_pos (by rfl)]
            refine wp_append_own_at _ _ 56 rfl (W.heap.size + 1) 64 i0 (.agg #[.string ⟨#[]⟩, .int .i64 0, .slice none 0 0, .string ⟨#[]⟩, .bool false, .slice none 0 0, .slice none 0 0, .string ⟨#[]⟩, .int .i64 0, .int .i64 0, .int .i64 0]) 11 160 Tryd.underlying56 hi0 hz0 hz1 hz2 rfl (by decide) _ _ _ rfl (HRr.out.row.alloc _) ⟨w9.heap.size, 0, none⟩ 1 1 (rcCells n (rb n) rc0) rfl rfl ?_ ?_ ?_ ?_ ?_ ?_
            · exact CN.out
            · intro u hu
              simp only [rcCells, rc0, List.mem_cons, List.not_mem_nil, or_false] at hu
              rcases hu with rfl | rfl | rfl | rfl | rfl | rfl | rfl | rfl | rfl | rfl | rfl <;> rfl
            · have := HNk.out; unfold maxLen; omega
            · have := HNk.out; omega
            · have := blk_lt HRr.out.g; simp only [World.size_alloc, World.size_drew]; omega
            intro v5 W5 hown5 hg5 _ ho5
            obtain ⟨A6, c6, rfl, _⟩ := own_slice hown5
            have hg5' : (w9.alloc (.cells (rcCells n (rb n) rc0).toArray 64)).drew.grownBy W5 (Value.slice A1 n cc1).ownBlock := hg5
            have hpu := HRr.out.push HY.out hown5 hg5'
            have hk5 : ∀ o, (w9.alloc (.cells (rcCells n (rb n) rc0).toArray 64)).drew.cell? ⟨g, o, none⟩ = W5.cell? ⟨g, o, none⟩ := fun o => (World.cell?_of_block (a := ⟨g, o, none⟩) (hg5'.block g (by have h1 := HY.out.size; have h2 := HRr.out.below.size; have h3 := HGl.out; omega) (fun e => by have := (HRr.out.row.lt _ e.symm).1; have := HGl.out; omega))).symm
            have HK5 : Hid (W5.cell? ⟨g, n * 4, none⟩ = some (.string (nmB n)) ∧ W5.cell? ⟨g, n * 4 + 1, none⟩ = some (.int .i64 1) ∧ W5.cell? ⟨g, n * 4 + 2, none⟩ = some (.slice (some ⟨rb n, 0, none⟩) 2 2) ∧ W5.cell? ⟨g, n * 4 + 3, none⟩ = some (.string ⟨#[43]⟩)) := Lib.hid (by
              obtain ⟨k0, k1, k2, k3⟩ := KY.out
              exact ⟨(hk5 _).symm.trans k0, (hk5 _).symm.trans k1, (hk5 _).symm.trans k2, (hk5 _).symm.trans k3⟩)
            obtain ⟨hp1, w5c, w5z⟩ := hpu
            have HPu := Lib.hid hp1
            clear hown5 hg5 hg5' ho5 hk5 hp1
            refine hK.out _ _ (HK5.out) (fun hHeld => ?_)
            clear hK K
            try simp only [Act.put, List.setIfInBounds_toArray, List.set_cons_zero, List.set_cons_succ]
            refine wpAnyH_take (i := 12) (v := ?_) (show _ = some { dst := some 63, op := _, type := _, pos := _, after := _, guard := _ } from rfl) (by kernel_rfl) (by kernel_rfl) (by kernel_rfl) (fun _ _ _ h => h) (Or.inl ⟨by rfl, ?_⟩) hHeld ?_
            rotate_left
            · intro w' hSw
              (try dsimp only at hSw)
              go_simp
              try with_reducible rfl
            try simp only [Act.put, List.setIfInBounds_toArray, List.set_cons_zero, List.set_cons_succ]
            refine wpAnyH_take (i := 13) (v := ?_) (show _ = some { dst := some 64, op := _, type := _, pos := _, after := _, guard := _ } from rfl) (by kernel_rfl) (by kernel_rfl) (by kernel_rfl) (fun _ _ _ h => h) (Or.inl ⟨by rfl, ?_⟩) hHeld ?_
            rotate_left
            · intro w' hSw
              (try dsimp only at hSw)
              go_simp
              try with_reducible rfl
            try simp only [Act.put, List.setIfInBounds_toArray, List.set_cons_zero, List.set_cons_succ]
            refine wpAnyH_ready (rs := [14]) (by kernel_rfl) (by simp) ?_
            refine AllReadyH.cons (show _ = some { dst := none, op := _, type := _, pos := _, after := _, guard := _ } from rfl) (fun K hK => ?_) AllReadyH.nil
            go_simp
            have HK6 : Hid ((W5.setCell ⟨W.heap.size, 0, none⟩ (.slice A6 (n + 1) c6)).cell? ⟨g, n * 4, none⟩ = some (.string (nmB n)) ∧ (W5.setCell ⟨W.heap.size, 0, none⟩ (.slice A6 (n + 1) c6)).cell? ⟨g, n * 4 + 1, none⟩ = some (.int .i64 1) ∧ (W5.setCell ⟨W.heap.size, 0, none⟩ (.slice A6 (n + 1) c6)).cell? ⟨g, n * 4 + 2, none⟩ = some (.slice (some ⟨rb n, 0, none⟩) 2 2) ∧ (W5.setCell ⟨W.heap.size, 0, none⟩ (.slice A6 (n + 1) c6)).cell? ⟨g, n * 4 + 3, none⟩ = some (.string ⟨#[43]⟩)) := Lib.hid (by
              have hn : ∀ o, (W5.setCell ⟨W.heap.size, 0, none⟩ (.slice A6 (n + 1) c6)).cell? ⟨g, o, none⟩ = W5.cell? ⟨g, o, none⟩ := fun o => World.cell?_setCell_other _ _ _ _ (fun e => by injection e with e _; have := HGl.out; omega)
              obtain ⟨k0, k1, k2, k3⟩ := HK5.out
              exact ⟨(hn _).trans k0, (hn _).trans k1, (hn _).trans k2, (hn _).trans k3⟩)
            refine hK.out _ _ (HK6.out) (fun hHeld => ?_)
            clear hK K
            try simp only [Act.put, List.setIfInBounds_toArray, List.set_cons_zero, List.set_cons_succ]
            refine wpAnyH_done (by kernel_rfl) ?_ _
            clear hHeld
            go_wp2_with fail
            exact ⟨⟨n + 1, _, HL.out, by go_num, HPu.out⟩, by have := HL.out; simp [intOf]; omega⟩
        · obtain rfl : n = k := by omega
          have tl : decide ((n : Int) < (n : Int)) = false := by simp
          have tb : decide ((4096 : Int) < (n : Int)) = false := by simp; omega
          clear hlt hn hr
          go_wp2_with fail
          exact bodyPost_ret (v := .tuple #[.pointer (some ⟨W.heap.size, 0, none⟩), .int .i64 0]) (by simp [results, Tryd.results6, go_sem]) rfl ⟨cv, rfl, HRr.out⟩
end Go.Proofs.YtjcaeoacgoklmaaDoor
