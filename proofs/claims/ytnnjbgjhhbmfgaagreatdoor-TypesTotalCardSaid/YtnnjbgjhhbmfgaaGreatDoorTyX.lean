import Derived.Test.YtnnjbgjhhbmfgaaGreatDoorTyW
namespace Go.Proofs.YtnnjbgjhhbmfgaaGreatDoor
open Go.RowKit
set_option maxRecDepth 100000 in
set_option maxHeartbeats 2000000 in
theorem eqf_any {K K' : Nat → Prop} {w : World} {t t' : Ty} {cs cs' : List Value} (h : RepT K w t cs) (h' : RepT K' w t' cs') :
    Calls Tryz.prog 16 #[.agg cs.toArray, .agg cs'.toArray] w fun e w' => e = .returned (.bool (ordT t t' == 0)) ∧ Gw w w' := by
  have hb1 : Gw w (w.alloc (.cells cs.toArray 26)) := (Gw.refl w).alloc _
  have hb2 : Gw w ((w.alloc (.cells cs.toArray 26)).alloc (.cells cs'.toArray 26)) := hb1.alloc _
  have a1 : AtT K ((w.alloc (.cells cs.toArray 26)).alloc (.cells cs'.toArray 26)) t w.heap.size 0 := (AtT.box _ h).later ((Below.refl _ _).alloc (Nat.le_refl _) _)
  have a2 : AtT K' ((w.alloc (.cells cs.toArray 26)).alloc (.cells cs'.toArray 26)) t' (w.heap.size + 1) 0 := by
    have := AtT.box (w := w.alloc (.cells cs.toArray 26)) 26 (h'.later hb1.below)
    rw [World.size_alloc] at this
    exact this
  have KO := Lib.hid ((order_any t K K' t').ok _ _ _ _ _ a1 a2)
  have HB := Lib.hid hb2
  obtain ⟨k, s, n, ps, fs, vs⟩ := t
  obtain ⟨k', s', n', ps', fs', vs'⟩ := t'
  obtain ⟨A, c, A', c', A'', c'', rfl, _⟩ := h.inv
  obtain ⟨B, d, B', d', B'', d'', rfl, _⟩ := h'.inv
  clear a1 a2 hb1 hb2 h h'
  generalize ordT (.mk k s n ps fs vs) (.mk k' s' n' ps' fs' vs') = r at KO ⊢
  simp only [cells6T] at KO HB ⊢
  go_enter Tryz.func16, Tryz.ntmps16
  go_wp2_with fail
  refine KO.out.mono ?_
  rintro e w1 ⟨rfl, hb⟩
  have HB1 := Lib.hid (HB.out.trans hb)
  clear hb
  go_wp2_with fail
  go_ret
  exact ⟨rfl, HB1.out⟩
theorem comp_nil : CompN := by
  intro w
  go_enter Tryz.func15, Tryz.ntmps15
  go_wp2_with fail
  go_ret
  exact ⟨rfl, Below.refl _ _⟩
theorem comp_short {K : Nat → Prop} {w0 w : World} {g c : Nat} {s : List Ty} (h : InT K w0 w g c s) (hb : Below w0.heap.size w0 w) (hs : s.length < 2) :
    Calls Tryz.prog 15 #[.slice (some ⟨g, 0, none⟩) s.length c, .func (.func 16) #[] #[]] w fun e w' => e = .returned (.slice (some ⟨g, 0, none⟩) (dedupT s).length c) ∧ Below w0.heap.size w0 w' ∧ InT K w0 w' g c (dedupT s) := by
  have hd : dedupT s = s := by
    match s, hs with
    | [], _ => rfl
    | [_], _ => rfl
    | _ :: _ :: _, hs => exact absurd hs (by simp)
  rw [hd]
  have H := Lib.hid (And.intro h hb)
  clear h hb hd
  have t2 : decide ((s.length : Int) < 2) = true := by simp; omega
  go_enter Tryz.func15, Tryz.ntmps15
  go_wp2_with fail
  go_ret
  exact ⟨rfl, H.out.2, H.out.1⟩
end Go.Proofs.YtnnjbgjhhbmfgaaGreatDoor
