import Derived.Test.YtjcaeoacgoklmaaDoorGrX
namespace Go.Proofs.YtjcaeoacgoklmaaDoor
open Go.RowKit
def r0 : Rule := ⟨⟨#[97]⟩, 1, [⟨#[120]⟩], ⟨#[33]⟩⟩
def E0 : Env := setE (newE [r0]) ⟨#[120]⟩ ⟨#[49]⟩
theorem aw1 : setC (newE [r0]) ⟨#[120]⟩ ⟨#[49]⟩ = 0 := by decide +kernel
theorem aw2 : (askM itoaG E0 201 (setS st0) ⟨#[97]⟩).2.runs = 1 := by decide +kernel
theorem aw3 : (askM itoaG E0 201 (setS st0) ⟨#[97]⟩).1.t.data.toList = [49, 33] := by decide +kernel
theorem aw4 : (askM itoaG E0 201 (setS st0) ⟨#[97]⟩).1.e = 0 := by decide +kernel
theorem r0_good : RGood [r0] := ⟨fun r hr => by
  simp only [List.mem_cons, List.not_mem_nil, or_false] at hr
  subst hr
  exact .inl rfl, by simp [Names]⟩
theorem r0_size : RSize [r0] := ⟨by decide, fun r hr => by
  simp only [List.mem_cons, List.not_mem_nil, or_false] at hr
  subst hr
  refine ⟨by decide, by decide +kernel, by decide +kernel, fun a ha => ?_⟩
  simp only [r0, List.mem_cons, List.not_mem_nil, or_false] at ha
  subst ha
  decide +kernel⟩
theorem rules_r0 (W : World) : RulesAt ((W.alloc (.cells #[.string ⟨#[120]⟩] 9)).alloc (.cells #[.string ⟨#[97]⟩, .int .i64 1, .slice (some ⟨W.heap.size, 0, none⟩) 1 1, .string ⟨#[33]⟩] 26)) (W.heap.size + 1) 0 [r0] (fun _ => some ⟨W.heap.size, 0, none⟩) (fun _ => 1) := by
  intro i r hi
  have hi0 : i = 0 := by have := (List.getElem?_eq_some_iff.1 hi).1; simpa using this
  subst hi0
  have hr : r0 = r := by simpa using hi
  subst hr
  have h1 := heap_alloc_new (W.alloc (.cells #[.string ⟨#[120]⟩] 9)) (.cells #[.string ⟨#[97]⟩, .int .i64 1, .slice (some ⟨W.heap.size, 0, none⟩) 1 1, .string ⟨#[33]⟩] 26)
  rw [World.size_alloc] at h1
  refine ⟨Lib.cell_of_heap h1 0, Lib.cell_of_heap h1 1, Lib.cell_of_heap h1 2, Lib.cell_of_heap h1 3, fun h => (by cases h), fun _ => ⟨_, _, rfl, fun j a hj => ?_⟩⟩
  have hj0 : j = 0 := by have := (List.getElem?_eq_some_iff.1 hj).1; simpa [r0] using this
  subst hj0
  have ha : (⟨#[120]⟩ : ByteArray) = a := by simpa [r0] using hj
  subst ha
  exact cell_alloc_of _ (Lib.cell_of_heap (heap_alloc_new W _) 0)
/-- The frame, behind steps on a graph of one's own. -/
structure Own (W : World) (F : Nat → Prop) (W' : World) : Prop where
  below : Below W.heap.size W W'
  own : ∀ k, F k → W.heap.size ≤ k
theorem Own.step {W W1 W2 : World} {F F' : Nat → Prop} (h : Own W F W1) (hf : FI F F' W1 W2) : Own W F' W2 := by
  refine ⟨⟨hf.os.trans h.below.os, hf.tape.trans h.below.tape, hf.output.trans h.below.output, Nat.le_trans h.below.size hf.size, fun k hk => ?_⟩, fun k hk => ?_⟩
  · rw [(hf.block k (Nat.lt_of_lt_of_le hk h.below.size) (fun e => by have := h.own k e; omega)).1]
    exact h.below.block k hk
  · rcases Nat.lt_or_ge k W.heap.size with h1 | h1
    · exact absurd hk (hf.block k (Nat.lt_of_lt_of_le h1 h.below.size) (fun e => by have := h.own k e; omega)).2
    · exact h1
theorem Own.later {W W1 W2 : World} {F : Nat → Prop} (h : Own W F W1) (hb : Below W1.heap.size W1 W2) : Own W F W2 := ⟨below_step h.below hb, h.own⟩
theorem NewP.own {l : List Rule} {L : Lay} {W W1 W' : World} (h : NewP l L W1 W') (hb : Below W.heap.size W W1) (hb2 : Below W1.heap.size W1 W') : Own W (FootI L (newE l).rules.length avN) W' :=
  ⟨below_step hb hb2, fun k hk => by
    rcases hk with hk | hk
    · have h1 := h.foot k hk
      have := hb.size
      omega
    · rw [h.I] at hk; cases hk⟩
set_option maxRecDepth 100000 in
set_option maxHeartbeats 8000000 in
theorem awake_true (W : World) (hT : TabG W) (hTl : ∀ k, Table k → k < W.heap.size) :
    Calls Tryd.prog 4 #[] W fun e W' => e = .returned (.bool true) ∧ Below W.heap.size W W' := by
  have hb0 := ((Below.refl W.heap.size W).alloc (Nat.le_refl _) (.cells #[.string ⟨#[120]⟩] 9)).alloc (by simp) (.cells #[.string ⟨#[97]⟩, .int .i64 1, .slice (some ⟨W.heap.size, 0, none⟩) 1 1, .string ⟨#[33]⟩] 26)
  have KN := Lib.hid (new_any (cap := 1) (a0 := some ⟨W.heap.size + 1, 0, none⟩) (tab_keep hT fun g hg => hb0.block g (hTl g hg)) (fun k hk => Nat.lt_of_lt_of_le (hTl k hk) hb0.size) (fun _ => rfl) (rules_r0 W) r0_size)
  have HB0 := Lib.hid hb0
  have nn : ∀ (x : Nat) (w : World), (binOp .eql 27 (.pointer (some ⟨x, 0, none⟩)) (.pointer none)).run Tryd.prog w = .ok (.bool false) w := fun x w => by kernel_rfl
  clear hT hTl hb0
  go_enter Tryd.func4, Tryd.ntmps4
  go_wp2_with fail
  refine KN.out.mono ?_
  rintro e W1 ⟨hb1, ⟨-, L, rfl, hP⟩ | ⟨hn, -⟩⟩
  rotate_left
  · exact absurd r0_good hn
  have HO1 := Lib.hid (hP.own HB0.out hb1)
  have HP := Lib.hid hP.gr
  clear hb1 hP
  have KS := Lib.hid (Set_any HP.out (by decide) (n := ⟨#[120]⟩) (t := ⟨#[49]⟩) (by decide +kernel))
  go_wp2_with fail
  refine KS.out.mono ?_
  rintro e W2 ⟨L2, hG2, rfl, hg2, hs2⟩
  have hEe : setsE (newE [r0]) ⟨#[120]⟩ ⟨#[49]⟩ = E0 := by unfold setsE; rw [if_pos aw1]; rfl
  have hSe : setsS (newE [r0]) ⟨#[120]⟩ ⟨#[49]⟩ st0 = setS st0 := by unfold setsS; rw [if_pos aw1]
  rw [hEe, hSe] at hg2
  rw [hEe] at hs2
  rw [aw1]
  have HO2 := Lib.hid (HO1.out.step hs2.fi)
  have HG2 := Lib.hid hg2
  clear hg2 hs2
  have KA := Lib.hid (Ask_any HG2.out (by decide) (a := ⟨#[97]⟩) (by decide +kernel))
  rw [hG2] at KA
  go_wp2_with fail
  refine KA.out.mono ?_
  rintro e W3 ⟨s3, av3, rfl, hg3, hs3, hs, -⟩
  have hv := (good_ask (itoaB := itoaG) HG2.out.dist (by have := HG2.out.ok.len; omega) HG2.out.good HG2.out.runs0 (by have := HG2.out.runs; omega) (f := 201) (by have := HG2.out.ok.len; omega) ⟨#[97]⟩).1
  have v1 : (Vw itoaG E0 ⟨#[97]⟩).t = ⟨#[49, 33]⟩ := list_inj (by rw [← hv, aw3])
  have v2 : (Vw itoaG E0 ⟨#[97]⟩).e = 0 := by rw [← hv]; exact aw4
  have v3 : s3.runs = 1 := by rw [hs]; exact aw2
  rw [v1, v2]
  have HO3 := Lib.hid (HO2.out.step hs3.fi)
  have KR := Lib.hid (Runs_any hg3)
  rw [hG2, v3] at KR
  clear hg3 hs3 hs hv v1 v2 v3
  go_wp2_with fail
  refine KR.out.mono ?_
  rintro e W4 ⟨rfl, rfl⟩
  go_wp2_with fail
  go_ret
  exact ⟨rfl, HO3.out.below⟩
end Go.Proofs.YtjcaeoacgoklmaaDoor
