import Derived.Test.YtogoolpgajopcaaTrFx
import Derived.Test.YtogoolpgajopcaaTrGa
namespace Go.Proofs.Ytogoolpgajopcaa
open Go.RowKit
theorem allrPa (P : Fo) : AllC (FunP 72 (·.par)) P := AllC.of (fun Q => (rtype_prog Q).2.1) P
theorem allrH (P : Fo) : AllC (FunP 97 (·.hold)) P := AllC.of rholds_any P
theorem allrMe (P : Fo) : AllC (FunP 98 (·.meth)) P := AllC.of rmethod_any P
/-- What is still asked of a class's parts from p on, with s kinds done. -/
def restS (l : List Inf) (s p : Nat) : Bool := match s with
  | 0 => classT l p
  | 1 => runB 78 (·.hold) (l.drop p) && (runB 79 (·.meth) (l.drop (p + runN 78 (l.drop p))) && decide (p + runN 78 (l.drop p) + runN 79 (l.drop (p + runN 78 (l.drop p))) = l.length))
  | 2 => runB 79 (·.meth) (l.drop p) && decide (p + runN 79 (l.drop p) = l.length)
  | _ => decide (p = l.length)
theorem restS_0 (l : List Inf) (p : Nat) : restS l 0 p = (runB 77 (·.refs) (l.drop p) && restS l 1 (p + runN 77 (l.drop p))) := rfl
theorem restS_1 (l : List Inf) (p : Nat) : restS l 1 p = (runB 78 (·.hold) (l.drop p) && restS l 2 (p + runN 78 (l.drop p))) := rfl
theorem restS_2 (l : List Inf) (p : Nat) : restS l 2 p = (runB 79 (·.meth) (l.drop p) && restS l 3 (p + runN 79 (l.drop p))) := rfl
/-- The three kinds lie in block g. -/
structure Kin (g : Nat) (W : World) : Prop where
  k0 : W.cell? ⟨g, 0, none⟩ = some (.int .i64 77)
  k1 : W.cell? ⟨g, 1, none⟩ = some (.int .i64 78)
  k2 : W.cell? ⟨g, 2, none⟩ = some (.int .i64 79)
  lt : g < W.heap.size
theorem Kin.later {g : Nat} {W W' : World} (h : Kin g W) (hb : Below W.heap.size W W') : Kin g W' :=
  ⟨(hb.cell (p := ⟨g, 0, none⟩) h.lt).trans h.k0, (hb.cell (p := ⟨g, 1, none⟩) h.lt).trans h.k1, (hb.cell (p := ⟨g, 2, none⟩) h.lt).trans h.k2, by have := hb.size; have := h.lt; omega⟩
theorem Kin.new (w : World) (T : TypeId) : Kin w.heap.size (w.alloc (.cells #[.int .i64 77, .int .i64 78, .int .i64 79] T)) := by
  have key : ∀ i : Nat, (w.alloc (.cells #[.int .i64 77, .int .i64 78, .int .i64 79] T)).cell? ⟨w.heap.size, i, none⟩ = (#[.int .i64 77, .int .i64 78, .int .i64 79] : Array Value)[i]? := fun i => cell_of_row _ _ _ _ _ _ (heap_alloc_new w _)
  exact ⟨key 0, key 1, key 2, by simp⟩
theorem base_parts (k : Int) (t : ByteArray) (n m : Int) (k2 : Int) (t2 : ByteArray) (n2 m2 : Int) (l2 R : List Inf) :
    (mk k t n m (mk k2 t2 n2 m2 l2 :: R)).base = (bareB t n m && (decide (l2.length = 0) && (((k2 == 1) && ((mk k2 t2 n2 m2 l2).ty && !wordB t2)) && R.all (·.ex)))) := by
  have e : (mk k2 t2 n2 m2 l2).ref = ((k2 == 1) && ((mk k2 t2 n2 m2 l2).ty && !wordB t2)) := ref_ty k2 t2 n2 m2 l2
  rw [← e]
  show baseB t n m (mk k2 t2 n2 m2 l2 :: R) = _
  unfold baseB
  simp only [List.length_cons, List.take_succ_cons, List.take_zero, List.all_cons, List.all_nil, List.drop_succ_cons, List.drop_zero, Bool.and_true]
  rw [decide_eq_true (by omega : 1 ≤ R.length + 1), Bool.and_true]
  rfl
set_option maxRecDepth 100000 in
set_option maxHeartbeats 8000000 in
theorem rclass_no1 (P : Fo) (t : ByteArray) (n m a : Int) (A : Option Addr) (c : Nat) (w : World) (hH : Holds w w.heap.size P A 0) (hlc : P.len ≤ c) (hcc : c ≤ 1000000000000000) (hp : timesB (·.par) P.inf n = false) :
    Calls Try.prog 85 #[.agg #[.int .i64 76, .string t, .int .i64 n, .int .i64 m, .int .i64 a, .slice A P.len c]] w fun e w' => e = .returned (.bool (false)) ∧ Below w.heap.size w w' := by
  have hl : P.len ≤ 1000000000000000 := by omega
  go_enter Try.func85, Try.ntmps85
  go_wp2_with fail
  generalize hW1 : World.alloc w _ = W1
  have hB1 : Below w.heap.size w W1 := by rw [← hW1]; exact (Below.refl _ _).alloc (Nat.le_refl _) _
  have hX1 : Box w w.heap.size 76 t n m a P.len A c W1 := by rw [← hW1]; exact Box.new _ _ _ _ _ _ _ _ _
  have HB1 := Lib.hid hB1
  have KP := Lib.hid (fun w' (h : BD W1 w') => rpars_any P (allrPa P) n A c w' ((hH.below (below_step hB1 h)).more (below_step hB1 h).size) hl)
  rw [show parsB P.inf n = false from hp] at KP
  have MK := Lib.hid (show ∀ w', BD W1 w' → (fun w' => BD W1 w' ∧ w'.cell? ⟨w.heap.size, 0, none⟩ = some (.int .i64 76) ∧ w'.cell? ⟨w.heap.size, 1, none⟩ = some (.string t) ∧ w'.cell? ⟨w.heap.size, 2, none⟩ = some (.int .i64 n) ∧ w'.cell? ⟨w.heap.size, 3, none⟩ = some (.int .i64 m) ∧ w'.cell? ⟨w.heap.size, 4, none⟩ = some (.int .i64 a) ∧ w'.cell? ⟨w.heap.size, 5, none⟩ = some (.slice A P.len c)) w' from fun w' h => ⟨h, (hX1.later h).c0, (hX1.later h).c1, (hX1.later h).c2, (hX1.later h).c3, (hX1.later h).c4, (hX1.later h).c5⟩)
  have B0 := MK.out _ (Below.drew (Below.refl _ _))
  have HH := Lib.hid hH
  clear hB1 hX1 hW1 hH hp
  refine wp_region_held_drew (S := (fun w' => BD W1 w' ∧ w'.cell? ⟨w.heap.size, 0, none⟩ = some (.int .i64 76) ∧ w'.cell? ⟨w.heap.size, 1, none⟩ = some (.string t) ∧ w'.cell? ⟨w.heap.size, 2, none⟩ = some (.int .i64 n) ∧ w'.cell? ⟨w.heap.size, 3, none⟩ = some (.int .i64 m) ∧ w'.cell? ⟨w.heap.size, 4, none⟩ = some (.int .i64 a) ∧ w'.cell? ⟨w.heap.size, 5, none⟩ = some (.slice A P.len c))) (by kernel_rfl) B0 (fun hHeld => ?_)
  refine wpAnyH_take (i := 0) (v := ?_) (show _ = some { dst := some 13, op := _, type := _, pos := _, after := _, guard := _ } from rfl) (by kernel_rfl) (by kernel_rfl) (by kernel_rfl) (fun _ _ _ h => h) (Or.inl ⟨by rfl, ?_⟩) hHeld ?_
  rotate_left
  · intro w' hSw
    (try dsimp only at hSw)
    go_simp
    try with_reducible rfl
  try simp only [Act.put, List.setIfInBounds_toArray, List.set_cons_zero, List.set_cons_succ]
  refine wpAnyH_take (i := 1) (v := ?_) (show _ = some { dst := some 14, op := _, type := _, pos := _, after := _, guard := _ } from rfl) (by kernel_rfl) (by kernel_rfl) (by kernel_rfl) (fun _ _ _ h => h) (Or.inl ⟨by rfl, ?_⟩) hHeld ?_
  rotate_left
  · intro w' hSw
    (try dsimp only at hSw)
    go_simp
    try with_reducible rfl
  try simp only [Act.put, List.setIfInBounds_toArray, List.set_cons_zero, List.set_cons_succ]
  refine wpAnyH_take (i := 2) (v := ?_) (show _ = some { dst := some 15, op := _, type := _, pos := _, after := _, guard := _ } from rfl) (by kernel_rfl) (by kernel_rfl) (by kernel_rfl) (fun _ _ _ h => h) (Or.inl ⟨by rfl, ?_⟩) hHeld ?_
  rotate_left
  · intro w' hSw
    (try dsimp only at hSw)
    go_simp
    try with_reducible rfl
  try simp only [Act.put, List.setIfInBounds_toArray, List.set_cons_zero, List.set_cons_succ]
  refine wpAnyH_ready (rs := [3]) (by kernel_rfl) (by simp) ?_
  refine AllReadyH.cons (show _ = some { dst := some 16, op := _, type := _, pos := _, after := _, guard := _ } from rfl) (fun K hK => ?_) AllReadyH.nil
  go_simp
  refine (KP.out _ hHeld.1).mono ?_
  rintro e w5 ⟨rfl, hb⟩
  go_wp2_with fail
  refine hK.out _ _ (MK.out _ (below_step hHeld.1 hb)) (fun hHeld => ?_)
  clear hK K
  try simp only [Act.put, List.setIfInBounds_toArray, List.set_cons_zero, List.set_cons_succ]
  refine wpAnyH_take (i := 4) (v := ?_) (show _ = some { dst := some 17, op := _, type := _, pos := _, after := _, guard := _ } from rfl) (by kernel_rfl) (by kernel_rfl) (by kernel_rfl) (fun _ _ _ h => h) (Or.inl ⟨by rfl, ?_⟩) hHeld ?_
  rotate_left
  · intro w' hSw
    (try dsimp only at hSw)
    go_simp
    try with_reducible rfl
  try simp only [Act.put, List.setIfInBounds_toArray, List.set_cons_zero, List.set_cons_succ]
  refine wpAnyH_take (i := 5) (v := ?_) (show _ = some { dst := some 18, op := _, type := _, pos := _, after := _, guard := _ } from rfl) (by kernel_rfl) (by kernel_rfl) (by kernel_rfl) (fun _ _ _ h => h) (Or.inl ⟨by rfl, ?_⟩) hHeld ?_
  rotate_left
  · intro w' hSw
    (try dsimp only at hSw)
    go_simp
    try with_reducible rfl
  try simp only [Act.put, List.setIfInBounds_toArray, List.set_cons_zero, List.set_cons_succ]
  refine wpAnyH_take (i := 6) (v := undef) (show _ = some { dst := some 19, op := _, type := _, pos := _, after := _, guard := _ } from rfl) (by kernel_rfl) (by kernel_rfl) (by kernel_rfl) (fun _ _ _ h => h) (Or.inr ⟨by rfl, rfl⟩) hHeld ?_
  try simp only [Act.put, List.setIfInBounds_toArray, List.set_cons_zero, List.set_cons_succ]
  refine wpAnyH_take (i := 7) (v := undef) (show _ = some { dst := some 20, op := _, type := _, pos := _, after := _, guard := _ } from rfl) (by kernel_rfl) (by kernel_rfl) (by kernel_rfl) (fun _ _ _ h => h) (Or.inr ⟨by rfl, rfl⟩) hHeld ?_
  try simp only [Act.put, List.setIfInBounds_toArray, List.set_cons_zero, List.set_cons_succ]
  refine wpAnyH_take (i := 8) (v := undef) (show _ = some { dst := some 21, op := _, type := _, pos := _, after := _, guard := _ } from rfl) (by kernel_rfl) (by kernel_rfl) (by kernel_rfl) (fun _ _ _ h => h) (Or.inr ⟨by rfl, rfl⟩) hHeld ?_
  try simp only [Act.put, List.setIfInBounds_toArray, List.set_cons_zero, List.set_cons_succ]
  refine wpAnyH_take (i := 9) (v := undef) (show _ = some { dst := some 22, op := _, type := _, pos := _, after := _, guard := _ } from rfl) (by kernel_rfl) (by kernel_rfl) (by kernel_rfl) (fun _ _ _ h => h) (Or.inr ⟨by rfl, rfl⟩) hHeld ?_
  try simp only [Act.put, List.setIfInBounds_toArray, List.set_cons_zero, List.set_cons_succ]
  refine wpAnyH_take (i := 10) (v := undef) (show _ = some { dst := some 23, op := _, type := _, pos := _, after := _, guard := _ } from rfl) (by kernel_rfl) (by kernel_rfl) (by kernel_rfl) (fun _ _ _ h => h) (Or.inr ⟨by rfl, rfl⟩) hHeld ?_
  try simp only [Act.put, List.setIfInBounds_toArray, List.set_cons_zero, List.set_cons_succ]
  refine wpAnyH_take (i := 11) (v := ?_) (show _ = some { dst := some 24, op := _, type := _, pos := _, after := _, guard := _ } from rfl) (by kernel_rfl) (by kernel_rfl) (by kernel_rfl) (fun _ _ _ h => h) (Or.inl ⟨by rfl, ?_⟩) hHeld ?_
  rotate_left
  · intro w' hSw
    (try dsimp only at hSw)
    go_simp
    try with_reducible rfl
  try simp only [Act.put, List.setIfInBounds_toArray, List.set_cons_zero, List.set_cons_succ]
  refine wpAnyH_done (by kernel_rfl) ?_ _
  have hS5 := hHeld
  clear hHeld
  have HB5 := Lib.hid (below_step HB1.out hS5.1)
  clear hS5
  go_wp2_with fail
  go_ret
  exact ⟨rfl, HB5.out⟩
set_option maxRecDepth 100000 in
set_option maxHeartbeats 8000000 in
theorem rclass_no2 (P : Fo) (t : ByteArray) (n m a : Int) (A : Option Addr) (c : Nat) (w : World) (hH : Holds w w.heap.size P A 0) (hlc : P.len ≤ c) (hcc : c ≤ 1000000000000000) (hp : timesB (·.par) P.inf n = true) (x : Nat) (hx : runN 16 P.inf = x) (hq : (x : Int) ≠ n) :
    Calls Try.prog 85 #[.agg #[.int .i64 76, .string t, .int .i64 n, .int .i64 m, .int .i64 a, .slice A P.len c]] w fun e w' => e = .returned (.bool (false)) ∧ Below w.heap.size w w' := by
  have hl : P.len ≤ 1000000000000000 := by omega
  have tq : (((x : Nat) : Int) != n) = true := by simpa using hq
  go_enter Try.func85, Try.ntmps85
  go_wp2_with fail
  generalize hW1 : World.alloc w _ = W1
  have hB1 : Below w.heap.size w W1 := by rw [← hW1]; exact (Below.refl _ _).alloc (Nat.le_refl _) _
  have hX1 : Box w w.heap.size 76 t n m a P.len A c W1 := by rw [← hW1]; exact Box.new _ _ _ _ _ _ _ _ _
  have HB1 := Lib.hid hB1
  have KP := Lib.hid (fun w' (h : BD W1 w') => rpars_any P (allrPa P) n A c w' ((hH.below (below_step hB1 h)).more (below_step hB1 h).size) hl)
  rw [show parsB P.inf n = true from hp] at KP
  have KR := Lib.hid (fun w' (h : BD W1 w') => run_any P 16 0 A c w' ((hH.below (below_step hB1 h)).more (below_step hB1 h).size) (Nat.zero_le _) hl)
  rw [List.drop_zero, hx] at KR
  have MK := Lib.hid (show ∀ w', BD W1 w' → (fun w' => BD W1 w' ∧ w'.cell? ⟨w.heap.size, 0, none⟩ = some (.int .i64 76) ∧ w'.cell? ⟨w.heap.size, 1, none⟩ = some (.string t) ∧ w'.cell? ⟨w.heap.size, 2, none⟩ = some (.int .i64 n) ∧ w'.cell? ⟨w.heap.size, 3, none⟩ = some (.int .i64 m) ∧ w'.cell? ⟨w.heap.size, 4, none⟩ = some (.int .i64 a) ∧ w'.cell? ⟨w.heap.size, 5, none⟩ = some (.slice A P.len c)) w' from fun w' h => ⟨h, (hX1.later h).c0, (hX1.later h).c1, (hX1.later h).c2, (hX1.later h).c3, (hX1.later h).c4, (hX1.later h).c5⟩)
  have B0 := MK.out _ (Below.drew (Below.refl _ _))
  have HH := Lib.hid hH
  clear hB1 hX1 hW1 hH hp
  refine wp_region_held_drew (S := (fun w' => BD W1 w' ∧ w'.cell? ⟨w.heap.size, 0, none⟩ = some (.int .i64 76) ∧ w'.cell? ⟨w.heap.size, 1, none⟩ = some (.string t) ∧ w'.cell? ⟨w.heap.size, 2, none⟩ = some (.int .i64 n) ∧ w'.cell? ⟨w.heap.size, 3, none⟩ = some (.int .i64 m) ∧ w'.cell? ⟨w.heap.size, 4, none⟩ = some (.int .i64 a) ∧ w'.cell? ⟨w.heap.size, 5, none⟩ = some (.slice A P.len c))) (by kernel_rfl) B0 (fun hHeld => ?_)
  refine wpAnyH_take (i := 0) (v := ?_) (show _ = some { dst := some 13, op := _, type := _, pos := _, after := _, guard := _ } from rfl) (by kernel_rfl) (by kernel_rfl) (by kernel_rfl) (fun _ _ _ h => h) (Or.inl ⟨by rfl, ?_⟩) hHeld ?_
  rotate_left
  · intro w' hSw
    (try dsimp only at hSw)
    go_simp
    try with_reducible rfl
  try simp only [Act.put, List.setIfInBounds_toArray, List.set_cons_zero, List.set_cons_succ]
  refine wpAnyH_take (i := 1) (v := ?_) (show _ = some { dst := some 14, op := _, type := _, pos := _, after := _, guard := _ } from rfl) (by kernel_rfl) (by kernel_rfl) (by kernel_rfl) (fun _ _ _ h => h) (Or.inl ⟨by rfl, ?_⟩) hHeld ?_
  rotate_left
  · intro w' hSw
    (try dsimp only at hSw)
    go_simp
    try with_reducible rfl
  try simp only [Act.put, List.setIfInBounds_toArray, List.set_cons_zero, List.set_cons_succ]
  refine wpAnyH_take (i := 2) (v := ?_) (show _ = some { dst := some 15, op := _, type := _, pos := _, after := _, guard := _ } from rfl) (by kernel_rfl) (by kernel_rfl) (by kernel_rfl) (fun _ _ _ h => h) (Or.inl ⟨by rfl, ?_⟩) hHeld ?_
  rotate_left
  · intro w' hSw
    (try dsimp only at hSw)
    go_simp
    try with_reducible rfl
  try simp only [Act.put, List.setIfInBounds_toArray, List.set_cons_zero, List.set_cons_succ]
  refine wpAnyH_ready (rs := [3]) (by kernel_rfl) (by simp) ?_
  refine AllReadyH.cons (show _ = some { dst := some 16, op := _, type := _, pos := _, after := _, guard := _ } from rfl) (fun K hK => ?_) AllReadyH.nil
  go_simp
  refine (KP.out _ hHeld.1).mono ?_
  rintro e w5 ⟨rfl, hb⟩
  go_wp2_with fail
  refine hK.out _ _ (MK.out _ (below_step hHeld.1 hb)) (fun hHeld => ?_)
  clear hK K
  try simp only [Act.put, List.setIfInBounds_toArray, List.set_cons_zero, List.set_cons_succ]
  refine wpAnyH_take (i := 4) (v := ?_) (show _ = some { dst := some 17, op := _, type := _, pos := _, after := _, guard := _ } from rfl) (by kernel_rfl) (by kernel_rfl) (by kernel_rfl) (fun _ _ _ h => h) (Or.inl ⟨by rfl, ?_⟩) hHeld ?_
  rotate_left
  · intro w' hSw
    (try dsimp only at hSw)
    go_simp
    try with_reducible rfl
  try simp only [Act.put, List.setIfInBounds_toArray, List.set_cons_zero, List.set_cons_succ]
  refine wpAnyH_take (i := 5) (v := ?_) (show _ = some { dst := some 18, op := _, type := _, pos := _, after := _, guard := _ } from rfl) (by kernel_rfl) (by kernel_rfl) (by kernel_rfl) (fun _ _ _ h => h) (Or.inl ⟨by rfl, ?_⟩) hHeld ?_
  rotate_left
  · intro w' hSw
    (try dsimp only at hSw)
    go_simp
    try with_reducible rfl
  try simp only [Act.put, List.setIfInBounds_toArray, List.set_cons_zero, List.set_cons_succ]
  refine wpAnyH_take (i := 6) (v := ?_) (show _ = some { dst := some 19, op := _, type := _, pos := _, after := _, guard := _ } from rfl) (by kernel_rfl) (by kernel_rfl) (by kernel_rfl) (fun _ _ _ h => h) (Or.inl ⟨by rfl, ?_⟩) hHeld ?_
  rotate_left
  · intro w' hSw
    (try dsimp only at hSw)
    go_simp
    try with_reducible rfl
  try simp only [Act.put, List.setIfInBounds_toArray, List.set_cons_zero, List.set_cons_succ]
  refine wpAnyH_take (i := 8) (v := ?_) (show _ = some { dst := some 21, op := _, type := _, pos := _, after := _, guard := _ } from rfl) (by kernel_rfl) (by kernel_rfl) (by kernel_rfl) (fun _ _ _ h => h) (Or.inl ⟨by rfl, ?_⟩) hHeld ?_
  rotate_left
  · intro w' hSw
    (try dsimp only at hSw)
    go_simp
    try with_reducible rfl
  try simp only [Act.put, List.setIfInBounds_toArray, List.set_cons_zero, List.set_cons_succ]
  refine wpAnyH_take (i := 9) (v := ?_) (show _ = some { dst := some 22, op := _, type := _, pos := _, after := _, guard := _ } from rfl) (by kernel_rfl) (by kernel_rfl) (by kernel_rfl) (fun _ _ _ h => h) (Or.inl ⟨by rfl, ?_⟩) hHeld ?_
  rotate_left
  · intro w' hSw
    (try dsimp only at hSw)
    go_simp
    try with_reducible rfl
  try simp only [Act.put, List.setIfInBounds_toArray, List.set_cons_zero, List.set_cons_succ]
  refine wpAnyH_ready (rs := [7]) (by kernel_rfl) (by simp) ?_
  refine AllReadyH.cons (show _ = some { dst := some 20, op := _, type := _, pos := _, after := _, guard := _ } from rfl) (fun K hK => ?_) AllReadyH.nil
  go_simp
  refine (KR.out _ hHeld.1).mono ?_
  rintro e w6 ⟨rfl, rfl⟩
  go_wp2_with fail
  refine hK.out _ _ (hHeld) (fun hHeld => ?_)
  clear hK K
  try simp only [Act.put, List.setIfInBounds_toArray, List.set_cons_zero, List.set_cons_succ]
  refine wpAnyH_take (i := 10) (v := ?_) (show _ = some { dst := some 23, op := _, type := _, pos := _, after := _, guard := _ } from rfl) (by kernel_rfl) (by kernel_rfl) (by kernel_rfl) (fun _ _ _ h => h) (Or.inl ⟨by rfl, ?_⟩) hHeld ?_
  rotate_left
  · intro w' hSw
    (try dsimp only at hSw)
    go_simp
    try with_reducible rfl
  try simp only [Act.put, List.setIfInBounds_toArray, List.set_cons_zero, List.set_cons_succ]
  refine wpAnyH_take (i := 11) (v := ?_) (show _ = some { dst := some 24, op := _, type := _, pos := _, after := _, guard := _ } from rfl) (by kernel_rfl) (by kernel_rfl) (by kernel_rfl) (fun _ _ _ h => h) (Or.inl ⟨by rfl, ?_⟩) hHeld ?_
  rotate_left
  · intro w' hSw
    (try dsimp only at hSw)
    go_simp
    try with_reducible rfl
  try simp only [Act.put, List.setIfInBounds_toArray, List.set_cons_zero, List.set_cons_succ]
  refine wpAnyH_done (by kernel_rfl) ?_ _
  have hS5 := hHeld
  clear hHeld
  have HB5 := Lib.hid (below_step HB1.out hS5.1)
  clear hS5
  go_wp2_with fail
  go_ret
  exact ⟨rfl, HB5.out⟩
end Go.Proofs.Ytogoolpgajopcaa
