import Derived.Test.YtlgklkokadbpeaaDoorStK
namespace Go.Proofs.YtlgklkokadbpeaaDoor
open Go.RowKit Go.Maps Go.ChangeMaps Go.Sort
set_option maxRecDepth 100000 in
set_option maxHeartbeats 2000000 in
/-- All, where no map was made. -/
theorem all_none {W : World} {B : Nat → Prop} {b : Nat} {n : Int} (_h : St W B b [] n) (h1 : W.cell? ⟨b, 1, none⟩ = some (.map none)) :
    Calls Tryd.prog 21 #[.pointer (some ⟨b, 0, none⟩)] W fun e w' => e = .returned (.slice none 0 0) ∧ Below W.heap.size W w' := by
  have KK := Lib.hid (callsIn_wide.1 (Tryd.maps_Keys_44 none W))
  have KS := Lib.hid (callsIn_wide.1 (Tryd.slices_Sorted_keys_nil_43_44 W))
  clear _h
  go_enter Tryd.func21, Tryd.ntmps21
  go_wp2_with (first
    | (go_at_call 44; refine KK.out.mono ?_; rintro e w' ⟨rfl, rfl⟩)
    | (go_at_call 43; refine KS.out.mono ?_; rintro e w2 ⟨v, ss, rfl, hS, hrow, hnil, hb⟩; obtain rfl := hnil.2 hS; have HB2 := Lib.hid (((Below.refl W.heap.size W).alloc (Nat.le_refl _) _).trans (hb.mono (by simp))); clear hS hrow hnil hb))
  refine wp_loop_rounds 1 ?_
  rw [rounds_succ]
  go_wp2_with fail
  go_ret
  exact ⟨rfl, HB2.out⟩
/-- All: the files, as they rise. -/
theorem all_any {W : World} {B : Nat → Prop} {b : Nat} {L : List Fi} {n : Int} (h : St W B b L n) (hR : Rise L) (hlen : L.length ≤ 1000) (hnm : ∀ f ∈ L, f.n.size ≤ maxLen) :
    Calls Tryd.prog 21 #[.pointer (some ⟨b, 0, none⟩)] W fun e w' => ∃ A c, e = .returned (.slice A L.length c) ∧ w'.ownsRow W.heap.size 45 3 (.slice A L.length c) L.length (flat3 L) ∧ Go.RowKit.Below W.heap.size W w' := by
  rcases h.c1 with ⟨h1, rfl⟩ | ⟨R, h1, h2, h3, h4⟩
  · refine (all_none h h1).mono ?_
    rintro e w' ⟨rfl, hb⟩
    exact ⟨none, 0, rfl, World.ownsRow_nil _ _ _ _, hb⟩
  · exact all_some (R := R) ⟨h.c0, h1, h2, h.fz, h.ge, h3, h4⟩ hR hlen hnm
end Go.Proofs.YtlgklkokadbpeaaDoor
