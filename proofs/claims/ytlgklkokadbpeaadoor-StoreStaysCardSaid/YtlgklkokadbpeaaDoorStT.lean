import Derived.Test.YtlgklkokadbpeaaDoorStQ
namespace Go.Proofs.YtlgklkokadbpeaaDoor
open Go.RowKit Go.Maps Go.ChangeMaps Go.Sort
theorem own_later3 {w w' : World} {base : Nat} {e : TypeId} {size n : Nat} {v : Value} {xs : List Value} (h : w.ownsRow base e size v n xs) (hb : Go.RowKit.Below w.heap.size w w') : w'.ownsRow base e size v n xs := by
  refine ⟨h.1, ?_⟩
  rcases h.2 with h0 | ⟨g, cap, cur, hv, hbg, hg, h1, h2, h3, h4⟩
  · exact .inl h0
  · have hlt : g < w.heap.size := by
      rcases Nat.lt_or_ge g w.heap.size with hh | hh
      · exact hh
      · rw [Array.getElem?_eq_none hh] at hg; cases hg
    exact .inr ⟨g, cap, cur, hv, hbg, (hb.block g hlt).trans hg, h1, h2, h3, h4⟩
theorem RSt.later {W W' : World} {B b : Nat} {A : Option Addr} {c : Nat} {L : List Fi} {n : Int} (h : RSt W B b A c L n) (hb : Go.RowKit.Below W.heap.size W W') : RSt W' B b A c L n := by
  have hl : b < W.heap.size := World.block_lt_of_cell? W ⟨b, 0, none⟩ h.c0
  exact ⟨cell_later hb h.c0, cell_later hb h.c1, own_later3 h.own hb, fun k => (hb.frozen (p := ⟨b, k, none⟩) hl).trans (h.fz k), h.ge⟩
theorem RSt.add3 {W : World} {B b : Nat} {A : Option Addr} {c : Nat} {L : List Fi} {n : Int} (h : RSt W B b A c L n) {j : Nat} {f : Fi} (hj : L[j]? = some f) : ∃ ad : Addr, A = some ad ∧ W.cell? (ad.add (j * 3)) = some (.string f.n) ∧ W.cell? ⟨(ad.add (j * 3)).block, (ad.add (j * 3)).off + 1, none⟩ = some (.string f.t) ∧ W.cell? ⟨(ad.add (j * 3)).block, (ad.add (j * 3)).off + 2, none⟩ = some (.int .i64 f.v) := by
  obtain ⟨g, rfl, _, h0, h1, h2⟩ := h.at hj
  have e : ((⟨g, 0, none⟩ : Addr).add (j * 3)) = ⟨g, j * 3, none⟩ := by unfold Addr.add; by_cases h : j * 3 = 0 <;> simp [h]
  refine ⟨⟨g, 0, none⟩, rfl, ?_, ?_, ?_⟩ <;> rw [e]
  · exact h0
  · exact h1
  · exact h2
set_option maxRecDepth 100000 in
set_option maxHeartbeats 2000000 in
/-- The reference's Get. -/
theorem rget_any {W : World} {B b : Nat} {A : Option Addr} {c : Nat} {L : List Fi} {n : Int} (h : RSt W B b A c L n) (hR : Rise L) (hL : L.length ≤ 1000) (s : ByteArray) :
    Calls Tryd.prog 42 #[.pointer (some ⟨b, 0, none⟩), .string s] W fun e w' => e = .returned (.tuple #[((find L s).getD zeroF).val, .int .i64 (if (find L s).isSome then 0 else 3)]) ∧ Below W.heap.size W w' := by
  have hb : Below W.heap.size W (W.alloc fileO) := (Below.refl _ _).alloc (Nat.le_refl _) fileO
  have hX := h.later hb
  have KF := Lib.hid (rfind_any hX hL s)
  unfold fileO at KF hX
  have c0 := hX.c0
  rcases fp_spec L s 0 hR with ⟨f, j, h1, h2, h3⟩ | ⟨h1, j, h2, h3, _⟩
  · rw [h3] at KF
    rw [h1]
    obtain ⟨ad, rfl, g0, g1, g2⟩ := hX.add3 h2
    have hj : j < L.length := (List.getElem?_eq_some_iff.1 h2).1
    obtain ⟨fn, ft, fv⟩ := f
    simp only [Option.getD_some, Option.isSome_some, Fi.val, if_true, Nat.zero_add] at KF g0 g1 g2 ⊢
    clear h hX hb h1 h2 h3
    go_enter Tryd.func42, Tryd.ntmps42
    go_wp2_with (go_at_call 50; refine KF.out.mono ?_; rintro e w1 ⟨rfl, rfl⟩)
    exact bodyPost_ret (v := .tuple #[.agg #[.string fn, .string ft, .int .i64 fv], .int .i64 0]) (by simp [results, Tryd.results42, go_sem]) rfl ⟨rfl, (Below.refl W.heap.size W).alloc (Nat.le_refl _) _⟩
  · rw [h3] at KF
    rw [h1]
    simp only [Option.getD_none, Option.isSome_none, zeroF, Fi.val, Bool.false_eq_true, if_false, Nat.zero_add] at KF ⊢
    clear h hX hb h1 h2 h3
    go_enter Tryd.func42, Tryd.ntmps42
    go_wp2_with (go_at_call 50; refine KF.out.mono ?_; rintro e w1 ⟨rfl, rfl⟩)
    exact bodyPost_ret (v := .tuple #[.agg #[.string ⟨#[]⟩, .string ⟨#[]⟩, .int .i64 0], .int .i64 3]) (by simp [results, Tryd.results42, go_sem]) rfl ⟨rfl, (Below.refl W.heap.size W).alloc (Nat.le_refl _) _⟩
end Go.Proofs.YtlgklkokadbpeaaDoor
