import Derived.Test.YteghbblbkljdhaaDoorSoL
namespace Go.Proofs.YteghbblbkljdhaaDoor
open Go.RowKit
set_option maxRecDepth 100000 in
set_option maxHeartbeats 2000000 in
theorem insertion_nil (cv : Value) (w : World) :
    Calls Tryd.prog 72 #[.slice none 0 0, .int .i64 0, .int .i64 0, cv] w fun e w' => e = .returned (.tuple #[]) ∧ w = w' := by
  go_enter Tryd.func72, Tryd.ntmps72
  go_wp2
  go_rounds 1
  exact bodyPost_end (v := .tuple #[]) (by simp [results, Tryd.results72, go_sem]) rfl ⟨rfl, rfl⟩
set_option maxRecDepth 100000 in
set_option maxHeartbeats 2000000 in
theorem stable_nil (cv : Value) (w : World) :
    Calls Tryd.prog 61 #[.slice none 0 0, .int .i64 0, cv] w fun e w' => e = .returned (.tuple #[]) ∧ w = w' := by
  go_enter Tryd.func61, Tryd.ntmps61
  go_wp2
  refine wp_loop_rounds 1 ?_
  rw [rounds_succ]
  go_wp2_with (go_at_call 72; refine (insertion_nil cv _).mono ?_; rintro e w2 ⟨rfl, rfl⟩)
  refine wp_loop_rounds 1 ?_
  rw [rounds_succ]
  go_wp2_with fail
  exact bodyPost_end (v := .tuple #[]) (by simp [results, Tryd.results61, go_sem]) rfl ⟨rfl, rfl⟩
set_option maxRecDepth 100000 in
set_option maxHeartbeats 2000000 in
theorem ssf_nil (w : World) :
    Calls Tryd.prog 46 #[.slice none 0 0, cmpV] w fun e w' => e = .returned (.tuple #[]) ∧ w = w' := by
  unfold cmpV
  go_enter Tryd.func46, Tryd.ntmps46
  go_wp2_with (go_at_call 61; refine (stable_nil _ _).mono ?_; rintro e w2 ⟨rfl, rfl⟩)
  exact bodyPost_end (v := .tuple #[]) (by simp [results, Tryd.results46, go_sem]) rfl ⟨rfl, rfl⟩
set_option maxRecDepth 100000 in
set_option maxHeartbeats 2000000 in
theorem ssf_some (g N c : Nat) (f : Nat → DiagD) (w : World) (h : Row w g N f) (hg : g < w.heap.size) (hN : N ≤ 1000000) (hc : N ≤ c) :
    Calls Tryd.prog 46 #[.slice (some ⟨g, 0, none⟩) N c, cmpV] w fun e w' => e = .returned (.tuple #[]) ∧ ∃ f', Row w' g N f' ∧ Seg N 0 N f f' ∧ Srt ltD f' 0 N ∧ Kp (fun k => k ≠ g) w w' := by
  have K := Lib.hid (stable_ok g N c f w h hg hN hc)
  clear h hg
  unfold cmpV at K ⊢
  go_enter Tryd.func46, Tryd.ntmps46
  go_wp2_with (go_at_call 61; refine K.out.mono ?_; rintro e w2 ⟨rfl, hx⟩; have HX := Lib.hid hx; clear hx)
  exact bodyPost_end (v := .tuple #[]) (by simp [results, Tryd.results46, go_sem]) rfl ⟨rfl, HX.out⟩
/-- A nil slice is empty. -/
def NilOk (A : Option Addr) (n c : Nat) : Prop := A = none → n = 0 ∧ c = 0
theorem kp_below {g : Nat} {w w' w'' : World} (h : Below w.heap.size w w') (hk : Kp (fun k => k ≠ g) w' w'') (hg : w.heap.size ≤ g) : Below w.heap.size w w'' :=
  h.trans ⟨hk.os, hk.tape, hk.output, hk.size, fun k hk1 => hk.block k (by omega) (Nat.lt_of_lt_of_le hk1 h.size)⟩
set_option maxRecDepth 100000 in
set_option maxHeartbeats 2000000 in
/-- Sort: the Diags in order. -/
theorem sort_prog (A : Option Addr) (n c : Nat) (f : Nat → DiagD) (w : World) (hn : n ≤ 1000000) (hA : NilOk A n c) (h : Src w A n f) :
    Calls Tryd.prog 29 #[.slice A n c] w fun e w' => ∃ A' c' f', e = .returned (.slice A' n c') ∧ NilOk A' n c' ∧ Src w' A' n f' ∧ Srt ltD f' 0 n ∧ (∀ p, cnt p f' n = cnt p f n) ∧ Below w.heap.size w w' := by
  cases A with
  | none =>
    obtain ⟨rfl, rfl⟩ := hA rfl
    clear h hA
    go_enter Tryd.func29, Tryd.ntmps29
    go_wp2_with fail
    refine (clone_nil _).mono ?_
    rintro e w2 ⟨rfl, rfl⟩
    go_wp2_with fail
    refine (ssf_nil _).mono ?_
    rintro e w2 ⟨rfl, rfl⟩
    go_wp2_with fail
    go_ret
    exact ⟨none, 0, f, rfl, fun _ => ⟨rfl, rfl⟩, .inl rfl, Srt.one (by omega), fun _ => rfl, Below.refl _ _⟩
  | some ad =>
    have hcl : ∀ j u, (flat4 f n)[j]? = some u → w.cell? (ad.add j) = some u := by
      rcases h with h | ⟨b, off, hA, _, hc⟩
      · subst h; intro j u hj; simp [flat4] at hj
      · injection hA with hA; subst hA; exact src_add hc
    have K := Lib.hid (clone_some ad n c f w hn hcl)
    have HN := Lib.hid hn
    clear h hA hcl hn
    go_enter Tryd.func29, Tryd.ntmps29
    go_wp2_with fail
    refine K.out.mono ?_
    rintro e w2 ⟨g, c', rfl, hg1, hg2, hnc, hrow, hb2⟩
    have HB2 := Lib.hid hb2
    have HG1 := Lib.hid hg1
    have K2 := Lib.hid (ssf_some g n c' f w2 hrow hg2 HN.out hnc)
    clear hg1 hg2 hnc hrow hb2
    go_wp2_with fail
    refine K2.out.mono ?_
    rintro e w3 ⟨rfl, f', hr3, hs3, ht3, hk3⟩
    have HR3 := Lib.hid hr3
    have HS3 := Lib.hid hs3
    have HT3 := Lib.hid ht3
    have HK3 := Lib.hid hk3
    clear hr3 hs3 ht3 hk3
    go_wp2_with fail
    go_ret
    refine ⟨_, c', f', rfl, (fun h => by cases h), ?_, HT3.out, HS3.out.same, kp_below HB2.out HK3.out HG1.out⟩
    rcases Nat.eq_zero_or_pos n with h0 | h0
    · exact .inl h0
    · exact src_of_row HR3.out (HR3.out.lt h0)
end Go.Proofs.YteghbblbkljdhaaDoor
