import Derived.Test.YtjcaeoacgoklmaaDoorGtN
namespace Go.Proofs.YtjcaeoacgoklmaaDoor
open Go.RowKit
theorem own_zero {w : World} {base : Nat} {e : TypeId} {size n : Nat} {v : Value} {xs : List Value} (h : w.ownsRow base e size v n xs) : w.ownsRow 0 e size v n xs :=
  ⟨h.1, h.2.elim .inl fun ⟨g, cap, cur, hv, _, hr⟩ => .inr ⟨g, cap, cur, hv, Nat.zero_le _, hr⟩⟩
/-- What a Set leaves of the blocks that were there. -/
structure SetR (G : Nat) (cv nv tv : Value) (z : Int) (W w : World) : Prop where
  g : w.heap[G]? = some (.cells #[cv, nv, tv, .slice none 0 0, .int .i64 z] 58 (0, 0))
  kp : Kp (fun b => b ≠ G) W w
theorem SetR.later {G : Nat} {cv nv tv : Value} {z : Int} {W w w' : World} (h : SetR G cv nv tv z W w) (hb : Below w.heap.size w w') : SetR G cv nv tv z W w' := ⟨(hb.block _ (blk_lt h.g)).trans h.g, h.kp.trans (kp_of hb)⟩
theorem SetR.grown {G : Nat} {cv nv tv : Value} {z : Int} {W w w' : World} (h : SetR G cv nv tv z W w) (hg : w.grownBy w' none) : SetR G cv nv tv z W w' :=
  ⟨(hg.block _ (blk_lt h.g) (by simp)).trans h.g, h.kp.trans ⟨hg.os, hg.tape, hg.output, hg.size, fun k _ hk => hg.block k hk (by simp)⟩⟩
/-- The reference's graph, without inputs. -/
structure RM (B : Nat) (rb : Nat → Nat) (G : Nat) (cv : Value) (n : Nat) (w : World) : Prop where
  g : w.heap[G]? = some (.cells #[cv, .slice none 0 0, .slice none 0 0, .slice none 0 0, .int .i64 0] 58 (0, 0))
  row : w.ownsRow B 64 11 cv n (allC rb (fun _ => rc0) n)
set_option maxRecDepth 100000 in
set_option maxHeartbeats 16000000 in
theorem rset_any {k : Nat} {rb : Nat → Nat} {G : Nat} {cv : Value} {t : ByteArray} {B : Nat} {W : World} (hk : k ≤ 24) (ht : t.size ≤ 262144) (h : RM B rb G cv k W) (hG : G < B) (hr : ∀ i, i < k → ∀ j, j < 2 → W.cell? ⟨rb i, j, none⟩ = some (.string (lastN i))) (hn : ∀ i, i < k → rb i ≠ G ∧ cv.ownBlock ≠ some (rb i)) :
    Calls Tryd.prog 9 #[.pointer (some ⟨G, 0, none⟩), .string ⟨#[120]⟩, .string t] W fun e W' => e = .returned (.int .i64 0) ∧ Kp (fun b => b ≠ G) W W' ∧ ∃ L : RL, L.G = G ∧ L.rb = rb ∧ cv = .slice L.cA k L.cc ∧ W.heap.size ≤ L.nb ∧ W.heap.size ≤ L.tb ∧ RG L k t (fun _ => rc0) [] (.slice none 0 0) W' := by
  obtain ⟨A1, cc1, rfl, _⟩ := own_slice h.row
  have hgc : W.cell? ⟨G, 0, none⟩ = some (.slice A1 k cc1) := Lib.cell_of_heap h.g 0
  have hrl : Calls Tryd.prog 16 #[.pointer (some ⟨G, 0, none⟩), .string ⟨#[120]⟩] W fun e w' => e = .returned (.int .i64 (ixF nmB k ⟨#[120]⟩)) ∧ w' = W := by
    rcases Nat.eq_zero_or_pos k with h0 | h0
    · subst h0
      exact rule_any (g := 0) (by omega) hgc (fun h => absurd h (by omega)) (fun j hj => by omega) _
    · have hA1 : ∃ g1, A1 = some ⟨g1, 0, none⟩ := by
        rcases h.row.2 with ⟨_, h1⟩ | ⟨g1, cap, cur, hv, _⟩
        · omega
        · injection hv with hv
          exact ⟨g1, hv⟩
      obtain ⟨g1, rfl⟩ := hA1
      exact rule_any (g := g1) (by omega) hgc (fun _ => rfl) (fun j hj => by
        have := h.row.cellAt (j * 11) (by omega)
        rw [this]
        exact allC_at rb _ (o := 0) hj (by omega)) _
  rw [nm_x] at hrl
  have KR := Lib.hid hrl
  have c4 : W.cell? ⟨G, 4, none⟩ = some (.int .i64 0) := Lib.cell_of_heap h.g 4
  have z4 : W.frozen? ⟨G, 4, none⟩ = false := Lib.frozen_of_heap h.g 4
  have tb : decide ((262144 : Int) < (t.size : Int)) = false := by simp; omega
  have HN := Lib.hid h
  have HS1 : Hid (SetR G (.slice A1 k cc1) (.slice none 0 0) (.slice none 0 0) 1 W (W.setCell ⟨G, 4, none⟩ (.int .i64 1))) := Lib.hid ⟨set_block h.g _ (o := 4), (Kp.refl _ W).setCell (p := ⟨G, 4, none⟩) (fun e => e rfl) _⟩
  have c1 : (W.setCell ⟨G, 4, none⟩ (.int .i64 1)).cell? ⟨G, 1, none⟩ = some (.slice none 0 0) := Lib.cell_of_heap HS1.out.g 1
  have c1a : ∀ o, ((W.setCell ⟨G, 4, none⟩ (.int .i64 1)).alloc o).cell? ⟨G, 1, none⟩ = some (.slice none 0 0) := fun o => cell_alloc_of o c1
  have KF := Lib.hid (find_any (W := W.setCell ⟨G, 4, none⟩ (.int .i64 1)) (A := none) (g := 0) (n := 0) (c := 0) (f := fun _ => noneB) (by omega) (fun h => absurd h (by omega)) (fun j hj => absurd hj (by omega)) ⟨#[120]⟩)
  rw [ixF_miss (fun j hj => absurd hj (by omega))] at KF
  obtain ⟨i0, hi0, hz0, hz1, hz2⟩ := parts3 infoS
  have HR := Lib.hid (And.intro hr hn)
  have HGG := Lib.hid hG
  have HT := Lib.hid ht
  clear h hgc hrl hr hn hG
  go_enter Tryd.func9, Tryd.ntmps9
  go_wp2_with fail
  refine KR.out.mono ?_
  rintro e w1 ⟨rfl, rfl⟩
  go_wp2_with fail
  refine KF.out.mono ?_
  rintro e w2 ⟨rfl, rfl⟩
  clear c1 KR KF c4 z4
  generalize hWa : w1.setCell ⟨G, 4, none⟩ (.int .i64 1) = Wa at HS1 c1a ⊢
  clear hWa
  have CN : Hid (∀ j u, [Value.string ⟨#[120]⟩][j]? = some u → (Wa.alloc (.cells #[.string ⟨#[120]⟩] 9)).cell? ((⟨Wa.heap.size, 0, none⟩ : Addr).add j) = some u) := Lib.hid (cells_new Wa [.string ⟨#[120]⟩] 9)
  have c1b : Wa.cell? ⟨G, 1, none⟩ = some (.slice none 0 0) := Lib.cell_of_heap HS1.out.g 1
  have HSz : Hid (w1.heap.size ≤ Wa.heap.size) := Lib.hid HS1.out.kp.size
  go_wp2_with (at_builtin; refine wpList_plain rfl fun K hK => ?_; refine wp_append_own_at _ _ 24 rfl w1.heap.size 9 i0 (.string ⟨#[]⟩) 1 16 Tryd.underlying24 hi0 hz0 hz1 hz2 rfl (by decide) _ _ _ rfl (World.ownsRow_nil _ _ _ _) ⟨Wa.heap.size, 0, none⟩ 1 1 [.string ⟨#[120]⟩] rfl rfl ?a0 ?a1 ?a2 ?a3 ?a4 ?_)
  case a0 => exact CN.out
  case a1 =>
    intro u hu
    simp only [List.mem_cons, List.not_mem_nil, or_false] at hu
    subst hu
    rfl
  case a2 => unfold maxLen; omega
  case a3 => omega
  case a4 => have := HSz.out; simp only [World.size_alloc]; omega
  intro v5 W5 hown5 hg5 _ _
  refine hK _ _ ?_
  clear hK K
  obtain ⟨g5, c5, rfl, hg5l⟩ : ∃ g c, v5 = .slice (some ⟨g, 0, none⟩) 1 c ∧ w1.heap.size ≤ g := by
    rcases hown5.2 with ⟨_, h0⟩ | ⟨g, cap, cur, hv, hb, _⟩
    · omega
    · exact ⟨g, cap, hv, hb⟩
  have HSa := HS1.out.later ((Below.refl _ _).alloc (Nat.le_refl _) (.cells #[.string ⟨#[120]⟩] 9))
  have HS5 := HSa.grown hg5
  have HGl : Hid (G < w1.heap.size) := Lib.hid (blk_lt HN.out.g)
  have hs6 : SetR G (.slice A1 k cc1) (.slice (some ⟨g5, 0, none⟩) 1 c5) (.slice none 0 0) 1 w1 (W5.setCell ⟨G, 1, none⟩ (.slice (some ⟨g5, 0, none⟩) 1 c5)) := ⟨set_block HS5.g _ (o := 1), HS5.kp.setCell (p := ⟨G, 1, none⟩) (fun e => e rfl) _⟩
  have z1 : W5.frozen? ⟨G, 1, none⟩ = false := Lib.frozen_of_heap HS5.g 1
  have w1c : W5.cell? ⟨G, 1, none⟩ = some (.slice none 0 0) := Lib.cell_of_heap HS5.g 1
  have hx : W5.cell? ⟨g5, 0, none⟩ = some (.string ⟨#[120]⟩) := hown5.cellAt 0 (by omega)
  have HX6 : Hid ((W5.setCell ⟨G, 1, none⟩ (.slice (some ⟨g5, 0, none⟩) 1 c5)).cell? ⟨g5, 0, none⟩ = some (.string ⟨#[120]⟩)) := Lib.hid (by
    rw [World.cell?_setCell_other _ _ _ _ (fun e => by injection e with e _; have := HGl.out; omega)]
    exact hx)
  have HS6 := Lib.hid hs6
  have HG5 := Lib.hid hg5l
  have c2 : ∀ o, ((W5.setCell ⟨G, 1, none⟩ (.slice (some ⟨g5, 0, none⟩) 1 c5)).alloc o).cell? ⟨G, 2, none⟩ = some (.slice none 0 0) := fun o => cell_alloc_of o (Lib.cell_of_heap hs6.g 2)
  have c2b : (W5.setCell ⟨G, 1, none⟩ (.slice (some ⟨g5, 0, none⟩) 1 c5)).cell? ⟨G, 2, none⟩ = some (.slice none 0 0) := Lib.cell_of_heap hs6.g 2
  clear c1a c1b hown5 hg5 HSa HS5 hs6 hx hg5l
  have CN2 : Hid (∀ j u, [Value.string t][j]? = some u → ((W5.setCell ⟨G, 1, none⟩ (.slice (some ⟨g5, 0, none⟩) 1 c5)).alloc (.cells #[.string t] 9)).cell? ((⟨W5.heap.size, 0, none⟩ : Addr).add j) = some u) := Lib.hid (by
    have := cells_new (W5.setCell ⟨G, 1, none⟩ (.slice (some ⟨g5, 0, none⟩) 1 c5)) [.string t] 9
    rw [set_size] at this
    exact this)
  have HSz2 : Hid (w1.heap.size ≤ (W5.setCell ⟨G, 1, none⟩ (.slice (some ⟨g5, 0, none⟩) 1 c5)).heap.size) := Lib.hid HS6.out.kp.size
  go_wp2_with (at_builtin; refine wpList_plain rfl fun K hK => ?_; refine wp_append_own_at _ _ 24 rfl w1.heap.size 9 i0 (.string ⟨#[]⟩) 1 16 Tryd.underlying24 hi0 hz0 hz1 hz2 rfl (by decide) _ _ _ rfl (World.ownsRow_nil _ _ _ _) ⟨W5.heap.size, 0, none⟩ 1 1 [.string t] rfl rfl ?b0 ?b1 ?b2 ?b3 ?b4 ?_)
  case b0 => exact CN2.out
  case b1 =>
    intro u hu
    simp only [List.mem_cons, List.not_mem_nil, or_false] at hu
    subst hu
    rfl
  case b2 => unfold maxLen; omega
  case b3 => omega
  case b4 => have := HSz2.out; rw [set_size] at this; simp only [World.size_alloc, set_size]; omega
  intro v7 W7 hown7 hg7 _ _
  refine hK _ _ ?_
  clear hK K
  obtain ⟨g7, c7, rfl, hg7l⟩ : ∃ g c, v7 = .slice (some ⟨g, 0, none⟩) 1 c ∧ w1.heap.size ≤ g := by
    rcases hown7.2 with ⟨_, h0⟩ | ⟨g, cap, cur, hv, hb, _⟩
    · omega
    · exact ⟨g, cap, hv, hb⟩
  have HSa := HS6.out.later ((Below.refl _ _).alloc (Nat.le_refl _) (.cells #[.string t] 9))
  have HS7 := HSa.grown hg7
  have hs8 : SetR G (.slice A1 k cc1) (.slice (some ⟨g5, 0, none⟩) 1 c5) (.slice (some ⟨g7, 0, none⟩) 1 c7) 1 w1 (W7.setCell ⟨G, 2, none⟩ (.slice (some ⟨g7, 0, none⟩) 1 c7)) := ⟨set_block HS7.g _ (o := 2), HS7.kp.setCell (p := ⟨G, 2, none⟩) (fun e => e rfl) _⟩
  have z2 : W7.frozen? ⟨G, 2, none⟩ = false := Lib.frozen_of_heap HS7.g 2
  have w2c : W7.cell? ⟨G, 2, none⟩ = some (.slice none 0 0) := Lib.cell_of_heap HS7.g 2
  have hx7 : W7.cell? ⟨g5, 0, none⟩ = some (.string ⟨#[120]⟩) := by
    have h1 : ((W5.setCell ⟨G, 1, none⟩ (.slice (some ⟨g5, 0, none⟩) 1 c5)).alloc (.cells #[.string t] 9)).cell? ⟨g5, 0, none⟩ = some (.string ⟨#[120]⟩) := cell_alloc_of _ HX6.out
    rw [World.cell?_of_block (w := (W5.setCell ⟨G, 1, none⟩ (.slice (some ⟨g5, 0, none⟩) 1 c5)).alloc (.cells #[.string t] 9)) (hg7.block _ (World.block_lt_of_cell? _ _ h1) (by simp [Value.ownBlock]))]
    exact h1
  have ht7 : W7.cell? ⟨g7, 0, none⟩ = some (.string t) := hown7.cellAt 0 (by omega)
  have hfin : RG ⟨G, A1, cc1, g5, c5, g7, c7, rb⟩ k t (fun _ => rc0) [] (.slice none 0 0) (W7.setCell ⟨G, 2, none⟩ (.slice (some ⟨g7, 0, none⟩) 1 c7)) := by
    have hlG := HGl.out
    have hl5 := HG5.out
    have hkb : ∀ b, b < w1.heap.size → b ≠ G → (W7.setCell ⟨G, 2, none⟩ (.slice (some ⟨g7, 0, none⟩) 1 c7)).heap[b]? = w1.heap[b]? := fun b h1 h2 => hs8.kp.block b h2 h1
    have hrow := HN.out.row
    have hcv : ∀ a, A1 = some a → a.block < w1.heap.size ∧ a.block ≠ G := fun a ha => by
      have h1 := hrow.lt a.block (by rw [ha]; rfl)
      have h2 := HGG.out
      exact ⟨h1.2, by omega⟩
    have hrb : ∀ i, i < k → rb i < w1.heap.size := fun i hi => World.block_lt_of_cell? _ _ (HR.out.1 i hi 0 (by omega))
    refine ⟨hs8.g, own_keepR (own_zero hrow) fun b hb => ?_, World.ownsRow_nil _ _ _ _, ?_, ?_, fun i hi j hj => ?_, fun b hb hr => ?_, fun a ha => (hcv a ha).2, fun e => (by cases e), fun a ha e => (by cases e)⟩
    · cases hc : A1 with
      | none => rw [hc] at hb; cases hb
      | some a =>
        rw [hc] at hb
        injection hb with hb
        rw [← hb]
        exact hkb _ (hcv a hc).1 (hcv a hc).2
    · rw [World.cell?_setCell_other _ _ _ _ (fun e => by injection e with e _; have e : G = g5 := e; omega)]
      exact hx7
    · rw [World.cell?_setCell_other _ _ _ _ (fun e => by injection e with e _; have e : G = g7 := e; omega)]
      exact ht7
    · rw [World.cell?_of_block (w := w1) (hkb (rb i) (hrb i hi) (HR.out.2 i hi).1)]
      exact HR.out.1 i hi j hj
    · rcases hr with hbG | ⟨a, ha, rfl⟩ | hr
      · have hbG : b = G := hbG
        rcases hb with hb | hb | ⟨i, hi, hb⟩
        · have hb : b = g5 := hb; omega
        · have hb : b = g7 := hb; omega
        · exact (HR.out.2 i hi).1 (hb.symm.trans hbG)
      · have ha : A1 = some a := ha
        have h1 := hcv a ha
        rcases hb with hb | hb | ⟨i, hi, hb⟩
        · have hb : a.block = g5 := hb; omega
        · have hb : a.block = g7 := hb; omega
        · exact (HR.out.2 i hi).2 (by rw [ha]; exact congrArg some hb)
      · cases hr
  have HF := Lib.hid hfin
  have HKp := Lib.hid hs8.kp
  have HG7 := Lib.hid hg7l
  clear z1 w1c c2 c2b hown7 hg7 HSa HS7 hs8 hx7 ht7 hfin hg7l
  go_wp2_with fail
  go_ret
  exact ⟨rfl, HKp.out, ⟨G, A1, cc1, g5, c5, g7, c7, rb⟩, rfl, rfl, rfl, HG5.out, HG7.out, HF.out⟩
end Go.Proofs.YtjcaeoacgoklmaaDoor
