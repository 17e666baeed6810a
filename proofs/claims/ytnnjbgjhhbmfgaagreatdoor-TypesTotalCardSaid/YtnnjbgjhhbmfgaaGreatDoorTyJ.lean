import Derived.Test.YtnnjbgjhhbmfgaaGreatDoorTyI
import Derived.Test.YtnnjbgjhhbmfgaaGreatDoorTyD
namespace Go.Proofs.YtnnjbgjhhbmfgaaGreatDoor
open Go.RowKit
set_option maxRecDepth 100000 in
set_option maxHeartbeats 2000000 in
theorem Order_any {K K' : Nat → Prop} {w : World} {t t' : Ty} {cs cs' : List Value} (h : RepT K w t cs) (h' : RepT K' w t' cs') :
    Calls Tryz.prog 6 #[.agg cs.toArray, .agg cs'.toArray] w fun e w' => e = .returned (.int .i64 (ordT t t')) ∧ Gw w w' := by
  have hb1 : Gw w (w.alloc (.cells cs.toArray 26)) := (Gw.refl w).alloc _
  have hb2 : Gw w ((w.alloc (.cells cs.toArray 26)).alloc (.cells cs'.toArray 26)) := hb1.alloc _
  have a1 : AtT K ((w.alloc (.cells cs.toArray 26)).alloc (.cells cs'.toArray 26)) t w.heap.size 0 := (AtT.box _ h).later ((Below.refl _ _).alloc (Nat.le_refl _) _)
  have a2 : AtT K' ((w.alloc (.cells cs.toArray 26)).alloc (.cells cs'.toArray 26)) t' (w.heap.size + 1) 0 := by
    have := AtT.box (w := w.alloc (.cells cs.toArray 26)) 26 (h'.later hb1.below)
    rw [World.size_alloc] at this
    exact this
  have KO := Lib.hid ((order_any t K K' t').ok _ _ _ _ _ a1 a2)
  have HB := Lib.hid hb2
  obtain ⟨k, s, n, ps, fs, vs⟩ := t
  obtain ⟨k', s', n', ps', fs', vs'⟩ := t'
  obtain ⟨A, c, A', c', A'', c'', rfl, _⟩ := h.inv
  obtain ⟨B, d, B', d', B'', d'', rfl, _⟩ := h'.inv
  clear a1 a2 hb1 hb2 h h'
  generalize ordT (.mk k s n ps fs vs) (.mk k' s' n' ps' fs' vs') = r at KO ⊢
  simp only [cells6T] at KO HB ⊢
  go_enter Tryz.func6, Tryz.ntmps6
  go_wp2_with fail
  refine KO.out.mono ?_
  rintro e w1 ⟨rfl, hb⟩
  have HB1 := Lib.hid (HB.out.trans hb)
  clear hb
  go_wp2_with fail
  go_ret
  exact ⟨rfl, HB1.out⟩
/-- How many nodes a type has. -/
def cntT : Ty → Nat
  | .mk _ _ _ ps fs vs => 1 + ((ps.attach.map fun ⟨p, _⟩ => cntT p).sum + ((fs.attach.map fun ⟨f, _⟩ => cntT f.2.2).sum + (vs.attach.map fun ⟨v, _⟩ => (v.2.attach.map fun ⟨b, _⟩ => cntT b).sum).sum))
termination_by t => SizeOf.sizeOf t
decreasing_by
  · exact ty_lt_p ‹_›
  · exact ty_lt_f ‹_›
  · exact ty_lt_v ‹_› ‹_›
def cntL (l : List Ty) : Nat := (l.map cntT).sum
def cntF (l : List (ByteArray × Int × Ty)) : Nat := (l.map fun f => cntT f.2.2).sum
def cntV (l : List (ByteArray × List Ty)) : Nat := (l.map fun v => cntL v.2).sum
theorem cntT_mk (k t n ps fs vs) : cntT (.mk k t n ps fs vs) = 1 + (cntL ps + (cntF fs + cntV vs)) := by
  rw [cntT]
  unfold cntL cntF cntV cntL
  simp only [List.map_attach_eq_pmap, List.pmap_eq_map]
def capN (n : Nat) : Nat := min n 4097
/-- n is told as S, as far as the limit goes. -/
def Told (n S : Nat) : Prop := capN n = capN S ∧ n ≤ 8193
theorem Told.more {n S x : Nat} (h : Told n S) (hn : n ≤ 4096) : Told (n + capN x) (S + x) := by
  unfold Told capN at *
  omega
theorem Told.full {n S x : Nat} (h : Told n S) (hn : ¬ n ≤ 4096) : Told n (S + x) := by
  unfold Told capN at *
  omega
theorem take_end {α : Type} {l : List α} {i : Nat} (h : i < l.length) : l.take (i + 1) = l.take i ++ [l[i]] := by
  rw [List.take_add_one, List.getElem?_eq_getElem h]
  rfl
theorem cntL_take {l : List Ty} {i : Nat} (h : i < l.length) : cntL (l.take (i + 1)) = cntL (l.take i) + cntT l[i] := by
  unfold cntL
  rw [take_end h, List.map_append, List.sum_append]
  simp only [List.map_cons, List.map_nil, List.sum_cons, List.sum_nil, Nat.add_zero]
theorem cntF_take {l : List (ByteArray × Int × Ty)} {i : Nat} (h : i < l.length) : cntF (l.take (i + 1)) = cntF (l.take i) + cntT l[i].2.2 := by
  unfold cntF
  rw [take_end h, List.map_append, List.sum_append]
  simp only [List.map_cons, List.map_nil, List.sum_cons, List.sum_nil, Nat.add_zero]
theorem cntV_take {l : List (ByteArray × List Ty)} {i : Nat} (h : i < l.length) : cntV (l.take (i + 1)) = cntV (l.take i) + cntL l[i].2 := by
  unfold cntV
  rw [take_end h, List.map_append, List.sum_append]
  simp only [List.map_cons, List.map_nil, List.sum_cons, List.sum_nil, Nat.add_zero]
theorem cntL_split (l : List Ty) (i : Nat) : ∃ x, cntL l = cntL (l.take i) + x := ⟨cntL (l.drop i), by unfold cntL; rw [← List.sum_append, ← List.map_append, List.take_append_drop]⟩
theorem cntF_split (l : List (ByteArray × Int × Ty)) (i : Nat) : ∃ x, cntF l = cntF (l.take i) + x := ⟨cntF (l.drop i), by unfold cntF; rw [← List.sum_append, ← List.map_append, List.take_append_drop]⟩
theorem cntV_split (l : List (ByteArray × List Ty)) (i : Nat) : ∃ x, cntV l = cntV (l.take i) + x := ⟨cntV (l.drop i), by unfold cntV; rw [← List.sum_append, ← List.map_append, List.take_append_drop]⟩
end Go.Proofs.YtnnjbgjhhbmfgaaGreatDoor
