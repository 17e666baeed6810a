import Derived.Test.YtlgklkokadbpeaaDoorStBo
namespace Go.Proofs.YtlgklkokadbpeaaDoor
open Go.RowKit Go.Maps Go.ChangeMaps Go.Sort
/-- The reference's store, its number lifted. -/
def dW (W : World) (b : Nat) (n : Int) : World := W.setCell ⟨b, 1, none⟩ (.int .i64 n)
theorem dW_of {W : World} {B b : Nat} {A : Option Addr} {c : Nat} {L : List Fi} {n : Int} (h : RSt W B b A c L n) (m : Int) : RSt (dW W b m) B b A c L m ∧ Kp (fun k => k ≠ b) W (dW W b m) := by
  have k1 : Kp (fun k => k ≠ b) W (dW W b m) := (Kp.refl _ _).setCell (by simp) _
  exact ⟨⟨(World.cell?_setCell_other _ _ _ _ (by simp)).trans h.c0, World.cell?_setCell_same _ _ _ h.c1, own_kp h.own k1 (fun g hg _ => by omega), fun k => by unfold dW; rw [World.frozen?_setCell]; exact h.fz k, h.ge⟩, k1⟩
set_option maxRecDepth 100000 in
set_option maxHeartbeats 4000000 in
theorem rdrop_no {W : World} {B b : Nat} {A : Option Addr} {c : Nat} {L : List Fi} {n : Int} (h : RSt W B b A c L n) (s : ByteArray) {j : Nat} (hf : fp L s 0 = (j, false)) (hL : L.length ≤ 1000) :
    Calls Tryd.prog 41 #[.pointer (some ⟨b, 0, none⟩), .string s] W fun e w' => e = .returned (.int .i64 3) ∧ W = w' := by
  have KF := Lib.hid (rfind_any h hL s)
  rw [hf] at KF
  have c0 := h.c0
  clear h
  go_enter Tryd.func41, Tryd.ntmps41
  go_wp2_with (go_at_call 50; refine KF.out.mono ?_; rintro e w0 ⟨rfl, rfl⟩)
  go_ret
  exact ⟨rfl, rfl⟩
set_option maxRecDepth 100000 in
set_option maxHeartbeats 4000000 in
theorem rdrop_at {W : World} {B b g : Nat} {c : Nat} {L : List Fi} {n : Int} (h : RSt W B b (some ⟨g, 0, none⟩) c L n) (s : ByteArray) {j : Nat} (hjl : j < L.length) (hf : fp L s 0 = (j, true)) (hL : L.length ≤ 1000) (hn : 0 ≤ n) (hm : n ≤ 1000000000000000) :
    Calls Tryd.prog 41 #[.pointer (some ⟨b, 0, none⟩), .string s] W fun e w' => e = .returned (.int .i64 0) ∧ (∃ A' c', RSt w' B b A' c' (L.take j ++ L.drop (j + 1)) (n + 1)) ∧ Kp (fun k => k ≠ b) W w' := by
  have KF := Lib.hid (rfind_any h hL s)
  rw [hf] at KF
  have c0 := h.c0
  have hcap : L.length ≤ c ∧ c ≤ maxLen := by
    rcases h.own.2 with ⟨h1, _⟩ | ⟨g', cap, cur, h1, _, _, h2, h3, _⟩
    · cases h1
    · injection h1 with _ _ h4; subst h4; exact ⟨h2, h3⟩
  obtain ⟨hc1, hc2⟩ := hcap
  have c1 := h.c1
  have fz1 := h.fz 1
  have fz0 := h.fz 0
  have hbl : b < W.heap.size := World.block_lt_of_cell? W ⟨b, 0, none⟩ h.c0
  obtain ⟨HR2, HK2⟩ := dW_of h (n + 1)
  have HR2 := Lib.hid HR2
  have HK2 := Lib.hid HK2
  obtain ⟨i0, hi0, hz0, hz1, hz2⟩ := info_parts infoF
  have HL1 := Lib.hid (flat3_len (L.take j))
  have HL2 := Lib.hid (flat3_len (L.drop (j + 1)))
  have HO1 := Lib.hid (flat3_one (L.take j))
  have HO2 := Lib.hid (flat3_one (L.drop (j + 1)))
  have HC1 := Lib.hid hc1
  have HC2 := Lib.hid hc2
  have HjL := Lib.hid hjl
  have h3L := Lib.hid hL
  have tj1 : j ≤ c := by omega
  clear h hc1 hc2
  go_enter Tryd.func41, Tryd.ntmps41
  go_wp2_with (first | (go_at_call 50; refine KF.out.mono ?_; rintro e w0 ⟨rfl, rfl⟩) | (at_builtin; go_loud (refine wpList_append_own _ rfl _ _ 28 rfl (dW W b (n + 1)).heap.size 45 i0 (.agg #[.string ⟨#[]⟩, .string ⟨#[]⟩, .int .i64 0]) 3 40 Tryd.underlying28 hi0 hz0 hz1 hz2 rfl (by decide) _ _ _ rfl (World.ownsRow_nil _ _ _ _) ⟨g, 0, none⟩ j c (flat3 (L.take j)) rfl ?a0 ?a1 ?a2 ?a3 ?a4 ?a5 ?_)))
  case a0 => rw [HL1.out, List.length_take, Nat.min_eq_left (by have := HjL.out; omega)]
  case a1 => exact src_take HR2.out.own j (by have := HjL.out; omega)
  case a2 => exact HO1.out
  case a3 => exact Nat.le_trans (by have := HjL.out; have := h3L.out; omega : 0 + j ≤ 1000) small_max2
  case a4 => have := HjL.out; have := h3L.out; omega
  case a5 => exact Nat.le_refl _
  intro v4 w4 hown4 hgrow4 _
  obtain ⟨A4, c4, rfl⟩ := own_form3 hown4
  have hb4 : Go.RowKit.Below (dW W b (n + 1)).heap.size (dW W b (n + 1)) w4 := (Go.RowKit.Below.refl _ _).grown hgrow4 (Nat.le_refl _) (fun k hk => by simp [Value.ownBlock] at hk)
  have HB4 := Lib.hid hb4
  have HO4 := Lib.hid hown4
  have z0 := cell_later hb4 HR2.out.c0
  have HR4 := Lib.hid (HR2.out.later hb4)
  clear hown4 hgrow4 hb4
  have tl2 : j + 1 ≤ L.length := by have := HjL.out; omega
  have hlow : j + 1 ≤ c := Nat.le_trans tl2 HC1.out
  by_cases hcl : j + 1 = c
  · subst hcl
    go_wp2_with (at_builtin; go_loud (refine wpList_append_own _ rfl _ _ 28 rfl (dW W b (n + 1)).heap.size 45 i0 (.agg #[.string ⟨#[]⟩, .string ⟨#[]⟩, .int .i64 0]) 3 40 Tryd.underlying28 hi0 hz0 hz1 hz2 rfl (by decide) _ _ _ rfl HO4.out (⟨g, 0, none⟩ : Addr) (L.length - (j + 1)) 0 (flat3 (L.drop (j + 1))) rfl ?d0 ?d1 ?d2 ?d3 ?d4 ?d5 ?_))
    case d0 => rw [HL2.out, List.length_drop]
    case d1 => intro x u hx; rw [List.drop_of_length_le HC1.out] at hx; simp [flat3] at hx
    case d2 => exact HO2.out
    case d3 => exact Nat.le_trans (by have := HjL.out; have := h3L.out; omega : j + (L.length - (j + 1)) ≤ 2001) (by unfold maxLen; decide)
    case d4 => have := HjL.out; have := h3L.out; omega
    case d5 => exact HB4.out.size
    intro v5 w5 hown5 hgrow5 _
    obtain ⟨A5, c5, rfl⟩ := own_form3 hown5
    have hb5 : Go.RowKit.Below (dW W b (n + 1)).heap.size (dW W b (n + 1)) w5 := HB4.out.grown hgrow5 HB4.out.size (fun k hk => (HO4.out.lt k hk).1)
    have hR5 := HR2.out.later hb5
    have u0 := hR5.c0
    have uf := hR5.fz 0
    have HF := Lib.hid (HR2.out.set (m := j + (L.length - (j + 1))) (L' := L.take j ++ L.drop (j + 1)) hb5 (by have := HjL.out; simp; omega) (by rw [flat3_app]; exact hown5))
    clear hown5 hgrow5 hb5 hR5 z0
    go_wp2_with fail
    go_ret
    exact ⟨rfl, ⟨_, _, HF.out.1⟩, HK2.out.trans HF.out.2⟩
  · have tl3 : ¬ c = j + 1 := fun e => hcl e.symm
    go_wp2_with (at_builtin; go_loud (refine wpList_append_own _ rfl _ _ 28 rfl (dW W b (n + 1)).heap.size 45 i0 (.agg #[.string ⟨#[]⟩, .string ⟨#[]⟩, .int .i64 0]) 3 40 Tryd.underlying28 hi0 hz0 hz1 hz2 rfl (by decide) _ _ _ rfl HO4.out (⟨g, (j + 1) * 3, none⟩ : Addr) (L.length - (j + 1)) (c - (j + 1)) (flat3 (L.drop (j + 1))) rfl ?d0 ?d1 ?d2 ?d3 ?d4 ?d5 ?_))
    case d0 => rw [HL2.out, List.length_drop]
    case d1 => exact src_drop HR4.out.own _ (by have := HjL.out; omega)
    case d2 => exact HO2.out
    case d3 => exact Nat.le_trans (by have := HjL.out; have := h3L.out; omega : j + (L.length - (j + 1)) ≤ 2001) (by unfold maxLen; decide)
    case d4 => have := HjL.out; have := h3L.out; omega
    case d5 => exact HB4.out.size
    intro v5 w5 hown5 hgrow5 _
    obtain ⟨A5, c5, rfl⟩ := own_form3 hown5
    have hb5 : Go.RowKit.Below (dW W b (n + 1)).heap.size (dW W b (n + 1)) w5 := HB4.out.grown hgrow5 HB4.out.size (fun k hk => (HO4.out.lt k hk).1)
    have hR5 := HR2.out.later hb5
    have u0 := hR5.c0
    have uf := hR5.fz 0
    have HF := Lib.hid (HR2.out.set (m := j + (L.length - (j + 1))) (L' := L.take j ++ L.drop (j + 1)) hb5 (by have := HjL.out; simp; omega) (by rw [flat3_app]; exact hown5))
    clear hown5 hgrow5 hb5 hR5 z0
    go_wp2_with fail
    go_ret
    exact ⟨rfl, ⟨_, _, HF.out.1⟩, HK2.out.trans HF.out.2⟩
/-- The files and the number behind a Drop. -/
def dropL (L : List Fi) (s : ByteArray) : List Fi := if (find L s).isSome then without L s else L
def dropN (L : List Fi) (n : Int) (s : ByteArray) : Int := if (find L s).isSome then n + 1 else n
/-- The reference's Drop. -/
theorem rdrop_any {W : World} {B b : Nat} {A : Option Addr} {c : Nat} {L : List Fi} {n : Int} (h : RSt W B b A c L n) (hR : Rise L) (s : ByteArray) (hL : L.length ≤ 64) (hn : 0 ≤ n) (hm : n ≤ 1000000000000000) :
    Calls Tryd.prog 41 #[.pointer (some ⟨b, 0, none⟩), .string s] W fun e w' => e = .returned (.int .i64 (if (find L s).isSome then 0 else 3)) ∧ (∃ A' c', RSt w' B b A' c' (dropL L s) (dropN L n s)) ∧ Kp (fun k => k ≠ b) W w' := by
  unfold dropL dropN
  rcases fp_spec L s 0 hR with ⟨f, j, h1, h2, h3⟩ | ⟨h1, j, _, h3, _⟩
  · rw [Nat.zero_add] at h3
    rw [h1]
    simp only [Option.isSome_some, if_true]
    obtain ⟨g, rfl, _⟩ := h.at h2
    rw [without_there hR h2 (show nm f = s.data.toList by unfold nm; rw [find_nm h1])]
    exact rdrop_at h s (List.getElem?_eq_some_iff.1 h2).1 h3 (by omega) hn hm
  · rw [Nat.zero_add] at h3
    rw [h1]
    simp only [Option.isSome_none, Bool.false_eq_true, if_false]
    refine (rdrop_no h s h3 (by omega)).mono ?_
    rintro e w' ⟨he, rfl⟩
    exact ⟨he, ⟨A, c, h⟩, Kp.refl _ _⟩
end Go.Proofs.YtlgklkokadbpeaaDoor
