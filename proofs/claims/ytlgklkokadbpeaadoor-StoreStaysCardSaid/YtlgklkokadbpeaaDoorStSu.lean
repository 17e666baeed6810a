import Derived.Test.YtlgklkokadbpeaaDoorStSt
namespace Go.Proofs.YtlgklkokadbpeaaDoor
open Go.RowKit Go.Maps Go.ChangeMaps Go.Sort
theorem three_new (w : World) (v0 v1 v2 : Value) (ty : TypeId) : (w.alloc (.cells #[v0, v1, v2] ty)).cell? ⟨w.heap.size, 0, none⟩ = some v0 ∧ (w.alloc (.cells #[v0, v1, v2] ty)).cell? ⟨w.heap.size, 1, none⟩ = some v1 ∧ (w.alloc (.cells #[v0, v1, v2] ty)).cell? ⟨w.heap.size, 2, none⟩ = some v2 :=
  ⟨World.cell?_alloc_at _ _ _ _ rfl, World.cell?_alloc_at _ _ _ _ rfl, World.cell?_alloc_at _ _ _ _ rfl⟩
theorem three_kept {w w' : World} {v0 v1 v2 : Value} {ty : TypeId} (h : Go.RowKit.Below (w.alloc (.cells #[v0, v1, v2] ty)).heap.size (w.alloc (.cells #[v0, v1, v2] ty)) w') (o : Obj) : (w'.alloc o).cell? ⟨w.heap.size, 0, none⟩ = some v0 ∧ (w'.alloc o).cell? ⟨w.heap.size, 1, none⟩ = some v1 ∧ (w'.alloc o).cell? ⟨w.heap.size, 2, none⟩ = some v2 := by
  obtain ⟨h0, h1, h2⟩ := three_new w v0 v1 v2 ty
  have hb := h.trans (((Go.RowKit.Below.refl w'.heap.size w').alloc (Nat.le_refl _) o).mono h.size)
  exact ⟨cell_later hb h0, cell_later hb h1, cell_later hb h2⟩
set_option maxRecDepth 100000 in
set_option maxHeartbeats 4000000 in
theorem step_get {W0 W : World} {b b' : Nat} {L : List Fi} {n : Int} (h : Both W0 W b b' L n L n) (hg : Good L) (_hn : 0 ≤ n) (_hm : n ≤ 1000000000000) (s t : ByteArray) (hs : s.size ≤ 1000000000000000) (A : Option Addr) (m d : Nat) :
    Calls Tryd.prog 18 #[.pointer (some ⟨b, 0, none⟩), .pointer (some ⟨b', 0, none⟩), .agg #[.int .i64 4, .string s, .string t, .slice A m d]] W fun e w' => e = .returned (.bool true) ∧ Both W0 w' b b' (L) (n) (L) (n) := by
  have KG : ∀ W', Both W0 W' b b' L n L n → Calls Tryd.prog 28 #[.pointer (some ⟨b, 0, none⟩), .string s] W' fun e w' => e = .returned (.tuple #[((find L s).getD zeroF).val, .int .i64 (if (find L s).isSome then 0 else 3)]) ∧ Below W'.heap.size W' w' := fun W' h' => get_any h'.st s (Nat.le_trans hs (by unfold maxLen; decide))
  have KR : ∀ W', Both W0 W' b b' L n L n → Calls Tryd.prog 42 #[.pointer (some ⟨b', 0, none⟩), .string s] W' fun e w' => e = .returned (.tuple #[((find L s).getD zeroF).val, .int .i64 (if (find L s).isSome then 0 else 3)]) ∧ Below W'.heap.size W' w' := fun W' h' => by
    obtain ⟨A0, c0, hr⟩ := h'.rs
    have := hg.len
    exact rget_any hr hg.rise (by omega) s
  generalize (if (find L s).isSome = true then (0 : Int) else 3) = q at KG KR
  generalize (find L s).getD zeroF = f at KG KR
  obtain ⟨fa, fb, fc⟩ := f
  simp only [Fi.val] at KG KR
  have hbx := (box4 W (.int .i64 4) (.string s) (.string t) (.slice A m d) 34).2.1
  have KG := Lib.hid KG
  have KR := Lib.hid KR
  have HB := Lib.hid (h.later ((Below.refl W.heap.size W).alloc (Nat.le_refl _) (.cells #[.int .i64 4, .string s, .string t, .slice A m d] 34)))
  clear h hg
  go_enter Tryd.func18, Tryd.ntmps18
  go_wp2_with (first
    | (go_at_call 28; refine (KG.out _ HB.out).mono ?_; rintro e w2 ⟨rfl, hb2⟩; have H2 := Lib.hid (HB.out.later hb2); have x1 := cell_later hb2 hbx; have x2 := fun o => cell_later ((Below.refl w2.heap.size w2).alloc (Nat.le_refl _) o) x1)
    | (go_at_call 42; refine (KR.out _ (H2.out.later ((Below.refl _ _).alloc (Nat.le_refl _) _))).mono ?_; rintro e w3 ⟨rfl, hb3⟩; have H3 := Lib.hid ((H2.out.later ((Below.refl _ _).alloc (Nat.le_refl _) _)).later hb3); have z1 := fun o => three_kept hb3 o))
  go_ret
  exact ⟨rfl, H3.out.later ((Below.refl _ _).alloc (Nat.le_refl _) _)⟩
set_option maxRecDepth 100000 in
set_option maxHeartbeats 4000000 in
theorem step_all {W0 W : World} {b b' : Nat} {L : List Fi} {n : Int} (h : Both W0 W b b' L n L n) (hg : Good L) (_hn : 0 ≤ n) (_hm : n ≤ 1000000000000) (s t : ByteArray) (_hs : s.size ≤ 1000000000000000) (A : Option Addr) (m d : Nat) :
    Calls Tryd.prog 18 #[.pointer (some ⟨b, 0, none⟩), .pointer (some ⟨b', 0, none⟩), .agg #[.int .i64 5, .string s, .string t, .slice A m d]] W fun e w' => e = .returned (.bool true) ∧ Both W0 w' b b' (L) (n) (L) (n) := by
  have hB := h.later ((Below.refl W.heap.size W).alloc (Nat.le_refl _) (.cells #[.int .i64 5, .string s, .string t, .slice A m d] 34))
  have hBd := hB.later (Below.drew (Below.refl _ _))
  obtain ⟨A0, c0, hr⟩ := hBd.rs
  have HR := Lib.hid hr
  have r0 := hr.c0
  have HBd := Lib.hid hBd
  have HG := Lib.hid hg
  clear h hg hB hBd hr
  go_enter Tryd.func18, Tryd.ntmps18
  go_wp2_with fail
  refine wp_region_held_drew (S := (fun _ => True)) (by kernel_rfl) trivial (fun hHeld => ?_)
  refine wpAnyH_take (i := 0) (v := ?_) (show _ = some { dst := some 80, op := _, type := _, pos := _, after := _, guard := _ } from rfl) (by kernel_rfl) (by kernel_rfl) (by kernel_rfl) (fun _ _ _ h => h) (Or.inl ⟨by rfl, ?_⟩) hHeld ?_
  rotate_left
  · intro w' hSw
    (try dsimp only at hSw)
    go_simp
    try with_reducible rfl
  try simp only [Act.put, List.setIfInBounds_toArray, List.set_cons_zero, List.set_cons_succ]
  refine wpAnyH_take (i := 2) (v := ?_) (show _ = some { dst := some 82, op := _, type := _, pos := _, after := _, guard := _ } from rfl) (by kernel_rfl) (by kernel_rfl) (by kernel_rfl) (fun _ _ _ h => h) (Or.inl ⟨by rfl, ?_⟩) hHeld ?_
  rotate_left
  · intro w' hSw
    (try dsimp only at hSw)
    go_simp
    try with_reducible rfl
  try simp only [Act.put, List.setIfInBounds_toArray, List.set_cons_zero, List.set_cons_succ]
  refine wpAnyH_take (i := 3) (v := ?_) (show _ = some { dst := some 83, op := _, type := _, pos := _, after := _, guard := _ } from rfl) (by kernel_rfl) (by kernel_rfl) (by kernel_rfl) (fun _ _ _ h => h) (Or.inl ⟨by rfl, ?_⟩) hHeld ?_
  rotate_left
  · intro w' hSw
    (try dsimp only at hSw)
    go_simp
    try with_reducible rfl
  try simp only [Act.put, List.setIfInBounds_toArray, List.set_cons_zero, List.set_cons_succ]
  refine wpAnyH_take (i := 4) (v := ?_) (show _ = some { dst := some 84, op := _, type := _, pos := _, after := _, guard := _ } from rfl) (by kernel_rfl) (by kernel_rfl) (by kernel_rfl) (fun _ _ _ h => h) (Or.inl ⟨by rfl, ?_⟩) hHeld ?_
  rotate_left
  · intro w' hSw
    (try dsimp only at hSw)
    go_simp
    try with_reducible rfl
  try simp only [Act.put, List.setIfInBounds_toArray, List.set_cons_zero, List.set_cons_succ]
  refine wpAnyH_ready (rs := [1, 5]) (by kernel_rfl) (by simp) ?_
  refine AllReadyH.cons (show _ = some { dst := some 81, op := _, type := _, pos := _, after := _, guard := _ } from rfl) (fun K hK => ?_) (AllReadyH.cons (show _ = some { dst := some 85, op := _, type := _, pos := _, after := _, guard := _ } from rfl) (fun K hK => ?_) AllReadyH.nil)
  · go_simp
    refine (HBd.out.all HG.out).mono ?_
    rintro e w12 ⟨A', c, rfl, hrow, hb12⟩
    have HRow := Lib.hid hrow
    have H12 := Lib.hid (HBd.out.later hb12)
    have HR2 := Lib.hid (HR.out.later hb12)
    have r0' := HR2.out.c0
    clear hrow hb12
    go_wp2_with fail
    refine hK.out _ _ (trivial) (fun hHeld => ?_)
    clear hK K
    try simp only [Act.put, List.setIfInBounds_toArray, List.set_cons_zero, List.set_cons_succ]
    refine wpAnyH_ready (rs := [5]) (by kernel_rfl) (by simp) ?_
    refine AllReadyH.cons (show _ = some { dst := some 85, op := _, type := _, pos := _, after := _, guard := _ } from rfl) (fun K hK => ?_) AllReadyH.nil
    go_simp
    refine hK.out _ _ (trivial) (fun hHeld => ?_)
    clear hK K
    try simp only [Act.put, List.setIfInBounds_toArray, List.set_cons_zero, List.set_cons_succ]
    refine wpAnyH_ready (rs := [6]) (by kernel_rfl) (by simp) ?_
    refine AllReadyH.cons (show _ = some { dst := some 86, op := _, type := _, pos := _, after := _, guard := _ } from rfl) (fun K hK => ?_) AllReadyH.nil
    go_simp
    refine (same_any (show L.length ≤ 1000 by have := HG.out.len; omega) HRow.out HR2.out.own).mono ?_
    rintro e w13 ⟨rfl, hb13⟩
    have H13 := Lib.hid (H12.out.later hb13)
    clear hb13
    go_wp2_with fail
    refine hK.out _ _ (trivial) (fun hHeld => ?_)
    clear hK K
    try simp only [Act.put, List.setIfInBounds_toArray, List.set_cons_zero, List.set_cons_succ]
    refine wpAnyH_take (i := 7) (v := ?_) (show _ = some { dst := some 6, op := _, type := _, pos := _, after := _, guard := _ } from rfl) (by kernel_rfl) (by kernel_rfl) (by kernel_rfl) (fun _ _ _ h => h) (Or.inl ⟨by rfl, ?_⟩) hHeld ?_
    rotate_left
    · intro w' hSw
      (try dsimp only at hSw)
      go_simp
      try with_reducible rfl
    try simp only [Act.put, List.setIfInBounds_toArray, List.set_cons_zero, List.set_cons_succ]
    refine wpAnyH_done (by kernel_rfl) ?_ _
    clear hHeld
    go_wp2_with fail
    go_ret
    exact ⟨rfl, H13.out⟩
  · go_simp
    refine hK.out _ _ (trivial) (fun hHeld => ?_)
    clear hK K
    try simp only [Act.put, List.setIfInBounds_toArray, List.set_cons_zero, List.set_cons_succ]
    refine wpAnyH_ready (rs := [1]) (by kernel_rfl) (by simp) ?_
    refine AllReadyH.cons (show _ = some { dst := some 81, op := _, type := _, pos := _, after := _, guard := _ } from rfl) (fun K hK => ?_) AllReadyH.nil
    go_simp
    refine (HBd.out.all HG.out).mono ?_
    rintro e w12 ⟨A', c, rfl, hrow, hb12⟩
    have HRow := Lib.hid hrow
    have H12 := Lib.hid (HBd.out.later hb12)
    have HR2 := Lib.hid (HR.out.later hb12)
    have r0' := HR2.out.c0
    clear hrow hb12
    go_wp2_with fail
    refine hK.out _ _ (trivial) (fun hHeld => ?_)
    clear hK K
    try simp only [Act.put, List.setIfInBounds_toArray, List.set_cons_zero, List.set_cons_succ]
    refine wpAnyH_ready (rs := [6]) (by kernel_rfl) (by simp) ?_
    refine AllReadyH.cons (show _ = some { dst := some 86, op := _, type := _, pos := _, after := _, guard := _ } from rfl) (fun K hK => ?_) AllReadyH.nil
    go_simp
    refine (same_any (show L.length ≤ 1000 by have := HG.out.len; omega) HRow.out HR2.out.own).mono ?_
    rintro e w13 ⟨rfl, hb13⟩
    have H13 := Lib.hid (H12.out.later hb13)
    clear hb13
    go_wp2_with fail
    refine hK.out _ _ (trivial) (fun hHeld => ?_)
    clear hK K
    try simp only [Act.put, List.setIfInBounds_toArray, List.set_cons_zero, List.set_cons_succ]
    refine wpAnyH_take (i := 7) (v := ?_) (show _ = some { dst := some 6, op := _, type := _, pos := _, after := _, guard := _ } from rfl) (by kernel_rfl) (by kernel_rfl) (by kernel_rfl) (fun _ _ _ h => h) (Or.inl ⟨by rfl, ?_⟩) hHeld ?_
    rotate_left
    · intro w' hSw
      (try dsimp only at hSw)
      go_simp
      try with_reducible rfl
    try simp only [Act.put, List.setIfInBounds_toArray, List.set_cons_zero, List.set_cons_succ]
    refine wpAnyH_done (by kernel_rfl) ?_ _
    clear hHeld
    go_wp2_with fail
    go_ret
    exact ⟨rfl, H13.out⟩
set_option maxRecDepth 100000 in
set_option maxHeartbeats 4000000 in
theorem step_no {W0 W : World} {b b' : Nat} {L : List Fi} {n : Int} (h : Both W0 W b b' L n L n) (k : Int) (hk1 : k ≠ 1) (hk2 : k ≠ 2) (hk3 : k ≠ 3) (hk4 : k ≠ 4) (hk5 : k ≠ 5) (s t : ByteArray) (A : Option Addr) (m d : Nat) :
    Calls Tryd.prog 18 #[.pointer (some ⟨b, 0, none⟩), .pointer (some ⟨b', 0, none⟩), .agg #[.int .i64 k, .string s, .string t, .slice A m d]] W fun e w' => e = .returned (.bool true) ∧ Both W0 w' b b' L n L n := by
  have HB := Lib.hid (h.later ((Below.refl W.heap.size W).alloc (Nat.le_refl _) (.cells #[.int .i64 k, .string s, .string t, .slice A m d] 34)))
  have t1 : (k == 1) = false := by simpa using hk1
  have t2 : (k == 2) = false := by simpa using hk2
  have t3 : (k == 3) = false := by simpa using hk3
  have t4 : (k == 4) = false := by simpa using hk4
  have t5 : (k == 5) = false := by simpa using hk5
  clear h hk1 hk2 hk3 hk4 hk5
  go_enter Tryd.func18, Tryd.ntmps18
  go_wp2_with fail
  go_ret
  exact ⟨rfl, HB.out⟩
end Go.Proofs.YtlgklkokadbpeaaDoor
