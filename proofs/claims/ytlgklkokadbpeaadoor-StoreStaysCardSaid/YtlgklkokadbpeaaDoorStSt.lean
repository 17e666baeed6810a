import Derived.Test.YtlgklkokadbpeaaDoorStOp
import Derived.Test.YtlgklkokadbpeaaDoorStBq
namespace Go.Proofs.YtlgklkokadbpeaaDoor
open Go.RowKit Go.Maps Go.ChangeMaps Go.Sort
def opV (k : Int) (s t : ByteArray) (A : Option Addr) (m d : Nat) : Value := .agg #[.int .i64 k, .string s, .string t, .slice A m d]
theorem Both.blt {W0 W : World} {b b' : Nat} {L L' : List Fi} {n n' : Int} (h : Both W0 W b b' L n L' n') : b < W.heap.size ∧ b' < W.heap.size := by
  obtain ⟨A, c, hr⟩ := h.rs
  exact ⟨h.st.lt, World.block_lt_of_cell? W ⟨b', 0, none⟩ hr.c0⟩
theorem drew_cell {w : World} {p : Addr} {v : Value} (h : w.cell? p = some v) : w.drew.cell? p = some v := h
theorem box4 (W : World) (v0 v1 v2 v3 : Value) (ty : TypeId) : (W.alloc (.cells #[v0, v1, v2, v3] ty)).cell? ⟨W.heap.size, 0, none⟩ = some v0 ∧ (W.alloc (.cells #[v0, v1, v2, v3] ty)).cell? ⟨W.heap.size, 1, none⟩ = some v1 ∧ (W.alloc (.cells #[v0, v1, v2, v3] ty)).cell? ⟨W.heap.size, 2, none⟩ = some v2 ∧ (W.alloc (.cells #[v0, v1, v2, v3] ty)).cell? ⟨W.heap.size, 3, none⟩ = some v3 :=
  ⟨World.cell?_alloc_at _ _ _ _ rfl, World.cell?_alloc_at _ _ _ _ rfl, World.cell?_alloc_at _ _ _ _ rfl, World.cell?_alloc_at _ _ _ _ rfl⟩
def dropE (L : List Fi) (s : ByteArray) : Int := if (find L s).isSome then 0 else 3
theorem Both.drop3 {W0 W : World} {b b' : Nat} {L L' : List Fi} {n n' : Int} (h : Both W0 W b b' L n L' n') (s : ByteArray) (hs : s.size ≤ 1000000000000000) (hn : 0 ≤ n) (hm : n ≤ 1000000000000000) :
    Calls Tryd.prog 27 #[.pointer (some ⟨b, 0, none⟩), .string s] W fun e w' => e = .returned (.int .i64 (dropE L s)) ∧ Both W0 w' b b' (dropL L s) (dropN L n s) L' n' ∧ Kp (kB W W0.heap.size b b') W w' := h.drop2 s hs hn hm
theorem Both.rdrop3 {W0 W : World} {b b' : Nat} {L L' : List Fi} {n n' : Int} (h : Both W0 W b b' L n L' n') (hg : Good L') (s : ByteArray) (hn : 0 ≤ n') (hm : n' ≤ 1000000000000000) :
    Calls Tryd.prog 41 #[.pointer (some ⟨b', 0, none⟩), .string s] W fun e w' => e = .returned (.int .i64 (dropE L' s)) ∧ Both W0 w' b b' L n (dropL L' s) (dropN L' n' s) ∧ Kp (kB W W0.heap.size b b') W w' := h.rdrop2 hg s hn hm
set_option maxRecDepth 100000 in
set_option maxHeartbeats 4000000 in
theorem step_put {W0 W : World} {b b' : Nat} {L : List Fi} {n : Int} (h : Both W0 W b b' L n L n) (hg : Good L) (hn : 0 ≤ n) (hm : n ≤ 1000000000000) (s t : ByteArray) (hs : s.size ≤ 1000000000000000) (A : Option Addr) (m d : Nat) :
    Calls Tryd.prog 18 #[.pointer (some ⟨b, 0, none⟩), .pointer (some ⟨b', 0, none⟩), .agg #[.int .i64 1, .string s, .string t, .slice A m d]] W fun e w' => e = .returned (.bool true) ∧ Both W0 w' b b' (afterL L n s t) (afterN L n s t) (afterL L n s t) (afterN L n s t) := by
  have HB := Lib.hid (h.later ((Below.refl W.heap.size W).alloc (Nat.le_refl _) (.cells #[.int .i64 1, .string s, .string t, .slice A m d] 34)))
  have HBd := Lib.hid (HB.out.later (Below.drew (Below.refl _ _)))
  have hbx := box4 W (.int .i64 1) (.string s) (.string t) (.slice A m d) 34
  have hbl := h.blt
  have HL := Lib.hid hbl
  have HX := Lib.hid hbx
  have HG := Lib.hid hg
  have HN := Lib.hid (And.intro hn hm)
  clear h hg hn hm hbl
  go_enter Tryd.func18, Tryd.ntmps18
  go_wp2_with fail
  refine wp_region_held_drew (S := (fun w' => w'.cell? ⟨W.heap.size, 1, none⟩ = some (.string s) ∧ w'.cell? ⟨W.heap.size, 2, none⟩ = some (.string t))) (by kernel_rfl) ⟨drew_cell HX.out.2.1, drew_cell HX.out.2.2.1⟩ (fun hHeld => ?_)
  refine wpAnyH_take (i := 0) (v := ?_) (show _ = some { dst := some 15, op := _, type := _, pos := _, after := _, guard := _ } from rfl) (by kernel_rfl) (by kernel_rfl) (by kernel_rfl) (fun _ _ _ h => h) (Or.inl ⟨by rfl, ?_⟩) hHeld ?_
  rotate_left
  · intro w' hSw
    (try dsimp only at hSw)
    go_simp
    try with_reducible rfl
  try simp only [Act.put, List.setIfInBounds_toArray, List.set_cons_zero, List.set_cons_succ]
  refine wpAnyH_take (i := 1) (v := ?_) (show _ = some { dst := some 16, op := _, type := _, pos := _, after := _, guard := _ } from rfl) (by kernel_rfl) (by kernel_rfl) (by kernel_rfl) (fun _ _ _ h => h) (Or.inl ⟨by rfl, ?_⟩) hHeld ?_
  rotate_left
  · intro w' hSw
    (try dsimp only at hSw)
    go_simp
    try with_reducible rfl
  try simp only [Act.put, List.setIfInBounds_toArray, List.set_cons_zero, List.set_cons_succ]
  refine wpAnyH_take (i := 2) (v := ?_) (show _ = some { dst := some 17, op := _, type := _, pos := _, after := _, guard := _ } from rfl) (by kernel_rfl) (by kernel_rfl) (by kernel_rfl) (fun _ _ _ h => h) (Or.inl ⟨by rfl, ?_⟩) hHeld ?_
  rotate_left
  · intro w' hSw
    (try dsimp only at hSw)
    go_simp
    try with_reducible rfl
  try simp only [Act.put, List.setIfInBounds_toArray, List.set_cons_zero, List.set_cons_succ]
  refine wpAnyH_take (i := 3) (v := ?_) (show _ = some { dst := some 18, op := _, type := _, pos := _, after := _, guard := _ } from rfl) (by kernel_rfl) (by kernel_rfl) (by kernel_rfl) (fun _ _ _ h => h) (Or.inl ⟨by rfl, ?_⟩) hHeld ?_
  rotate_left
  · intro w' hSw
    (try dsimp only at hSw)
    go_simp
    try with_reducible rfl
  try simp only [Act.put, List.setIfInBounds_toArray, List.set_cons_zero, List.set_cons_succ]
  refine wpAnyH_take (i := 4) (v := ?_) (show _ = some { dst := some 19, op := _, type := _, pos := _, after := _, guard := _ } from rfl) (by kernel_rfl) (by kernel_rfl) (by kernel_rfl) (fun _ _ _ h => h) (Or.inl ⟨by rfl, ?_⟩) hHeld ?_
  rotate_left
  · intro w' hSw
    (try dsimp only at hSw)
    go_simp
    try with_reducible rfl
  try simp only [Act.put, List.setIfInBounds_toArray, List.set_cons_zero, List.set_cons_succ]
  refine wpAnyH_take (i := 6) (v := ?_) (show _ = some { dst := some 21, op := _, type := _, pos := _, after := _, guard := _ } from rfl) (by kernel_rfl) (by kernel_rfl) (by kernel_rfl) (fun _ _ _ h => h) (Or.inl ⟨by rfl, ?_⟩) hHeld ?_
  rotate_left
  · intro w' hSw
    (try dsimp only at hSw)
    go_simp
    try with_reducible rfl
  try simp only [Act.put, List.setIfInBounds_toArray, List.set_cons_zero, List.set_cons_succ]
  refine wpAnyH_take (i := 7) (v := ?_) (show _ = some { dst := some 22, op := _, type := _, pos := _, after := _, guard := _ } from rfl) (by kernel_rfl) (by kernel_rfl) (by kernel_rfl) (fun _ _ _ h => h) (Or.inl ⟨by rfl, ?_⟩) hHeld ?_
  rotate_left
  · intro w' hSw
    (try dsimp only at hSw)
    go_simp
    try with_reducible rfl
  try simp only [Act.put, List.setIfInBounds_toArray, List.set_cons_zero, List.set_cons_succ]
  refine wpAnyH_take (i := 8) (v := ?_) (show _ = some { dst := some 23, op := _, type := _, pos := _, after := _, guard := _ } from rfl) (by kernel_rfl) (by kernel_rfl) (by kernel_rfl) (fun _ _ _ h => h) (Or.inl ⟨by rfl, ?_⟩) hHeld ?_
  rotate_left
  · intro w' hSw
    (try dsimp only at hSw)
    go_simp
    try with_reducible rfl
  try simp only [Act.put, List.setIfInBounds_toArray, List.set_cons_zero, List.set_cons_succ]
  refine wpAnyH_take (i := 9) (v := ?_) (show _ = some { dst := some 24, op := _, type := _, pos := _, after := _, guard := _ } from rfl) (by kernel_rfl) (by kernel_rfl) (by kernel_rfl) (fun _ _ _ h => h) (Or.inl ⟨by rfl, ?_⟩) hHeld ?_
  rotate_left
  · intro w' hSw
    (try dsimp only at hSw)
    go_simp
    try with_reducible rfl
  try simp only [Act.put, List.setIfInBounds_toArray, List.set_cons_zero, List.set_cons_succ]
  refine wpAnyH_take (i := 10) (v := ?_) (show _ = some { dst := some 25, op := _, type := _, pos := _, after := _, guard := _ } from rfl) (by kernel_rfl) (by kernel_rfl) (by kernel_rfl) (fun _ _ _ h => h) (Or.inl ⟨by rfl, ?_⟩) hHeld ?_
  rotate_left
  · intro w' hSw
    (try dsimp only at hSw)
    go_simp
    try with_reducible rfl
  try simp only [Act.put, List.setIfInBounds_toArray, List.set_cons_zero, List.set_cons_succ]
  refine wpAnyH_ready (rs := [5]) (by kernel_rfl) (by simp) ?_
  refine AllReadyH.cons (show _ = some { dst := some 20, op := _, type := _, pos := _, after := _, guard := _ } from rfl) (fun K hK => ?_) AllReadyH.nil
  go_simp
  refine (HBd.out.put2 HG.out s t hs HN.out.1 (by have := HN.out; omega)).mono ?_
  rintro e w10 ⟨rfl, h10, hk10⟩
  have H10 := Lib.hid h10
  have HC10_0 := Lib.hid (kB_cell hk10 (drew_cell HX.out.2.1) (by have := HL.out; simp; omega) (by have := HL.out; simp; omega))
  have HC10_1 := Lib.hid (kB_cell hk10 (drew_cell HX.out.2.2.1) (by have := HL.out; simp; omega) (by have := HL.out; simp; omega))
  clear h10 hk10
  go_wp2_with fail
  refine hK.out _ _ (⟨HC10_0.out, HC10_1.out⟩) (fun hHeld => ?_)
  clear hK K
  try simp only [Act.put, List.setIfInBounds_toArray, List.set_cons_zero, List.set_cons_succ]
  refine wpAnyH_ready (rs := [11]) (by kernel_rfl) (by simp) ?_
  refine AllReadyH.cons (show _ = some { dst := some 26, op := _, type := _, pos := _, after := _, guard := _ } from rfl) (fun K hK => ?_) AllReadyH.nil
  go_simp
  refine (H10.out.rput2 HG.out s t hs HN.out.1 (by have := HN.out; omega)).mono ?_
  rintro e w11 ⟨rfl, h11, hk11⟩
  have H11 := Lib.hid h11
  have HC11_0 := Lib.hid (kB_cell hk11 HC10_0.out (by have := HL.out; simp; omega) (by have := HL.out; simp; omega))
  have HC11_1 := Lib.hid (kB_cell hk11 HC10_1.out (by have := HL.out; simp; omega) (by have := HL.out; simp; omega))
  clear h11 hk11
  go_wp2_with fail
  refine hK.out _ _ (⟨HC11_0.out, HC11_1.out⟩) (fun hHeld => ?_)
  clear hK K
  try simp only [Act.put, List.setIfInBounds_toArray, List.set_cons_zero, List.set_cons_succ]
  refine wpAnyH_take (i := 12) (v := ?_) (show _ = some { dst := some 27, op := _, type := _, pos := _, after := _, guard := _ } from rfl) (by kernel_rfl) (by kernel_rfl) (by kernel_rfl) (fun _ _ _ h => h) (Or.inl ⟨by rfl, ?_⟩) hHeld ?_
  rotate_left
  · intro w' hSw
    (try dsimp only at hSw)
    go_simp
    try with_reducible rfl
  try simp only [Act.put, List.setIfInBounds_toArray, List.set_cons_zero, List.set_cons_succ]
  refine wpAnyH_take (i := 13) (v := ?_) (show _ = some { dst := some 6, op := _, type := _, pos := _, after := _, guard := _ } from rfl) (by kernel_rfl) (by kernel_rfl) (by kernel_rfl) (fun _ _ _ h => h) (Or.inl ⟨by rfl, ?_⟩) hHeld ?_
  rotate_left
  · intro w' hSw
    (try dsimp only at hSw)
    go_simp
    try with_reducible rfl
  try simp only [Act.put, List.setIfInBounds_toArray, List.set_cons_zero, List.set_cons_succ]
  refine wpAnyH_done (by kernel_rfl) ?_ _
  clear hHeld
  go_wp2_with fail
  go_ret
  exact ⟨rfl, H11.out⟩
set_option maxRecDepth 100000 in
set_option maxHeartbeats 4000000 in
theorem step_edit {W0 W : World} {b b' : Nat} {L : List Fi} {n : Int} (h : Both W0 W b b' L n L n) (hg : Good L) (hn : 0 ≤ n) (hm : n ≤ 1000000000000) (s t : ByteArray) (hs : s.size ≤ 1000000000000000) (A : Option Addr) (m d : Nat) {xs : List EditD} (hE : EA W0 A m d xs) (hmm : m ≤ 1000000) :
    Calls Tryd.prog 18 #[.pointer (some ⟨b, 0, none⟩), .pointer (some ⟨b', 0, none⟩), .agg #[.int .i64 2, .string s, .string t, .slice A m d]] W fun e w' => e = .returned (.bool true) ∧ Both W0 w' b b' (editL L n s xs) (editN L n s xs) (editL L n s xs) (editN L n s xs) := by
  have HE := Lib.hid hE
  clear hE
  have HB := Lib.hid (h.later ((Below.refl W.heap.size W).alloc (Nat.le_refl _) (.cells #[.int .i64 2, .string s, .string t, .slice A m d] 34)))
  have HBd := Lib.hid (HB.out.later (Below.drew (Below.refl _ _)))
  have hbx := box4 W (.int .i64 2) (.string s) (.string t) (.slice A m d) 34
  have hbl := h.blt
  have HL := Lib.hid hbl
  have HX := Lib.hid hbx
  have HG := Lib.hid hg
  have HN := Lib.hid (And.intro hn hm)
  clear h hg hn hm hbl
  go_enter Tryd.func18, Tryd.ntmps18
  go_wp2_with fail
  refine wp_region_held_drew (S := (fun w' => w'.cell? ⟨W.heap.size, 1, none⟩ = some (.string s) ∧ w'.cell? ⟨W.heap.size, 3, none⟩ = some (.slice A m d))) (by kernel_rfl) ⟨drew_cell HX.out.2.1, drew_cell HX.out.2.2.2⟩ (fun hHeld => ?_)
  refine wpAnyH_take (i := 0) (v := ?_) (show _ = some { dst := some 30, op := _, type := _, pos := _, after := _, guard := _ } from rfl) (by kernel_rfl) (by kernel_rfl) (by kernel_rfl) (fun _ _ _ h => h) (Or.inl ⟨by rfl, ?_⟩) hHeld ?_
  rotate_left
  · intro w' hSw
    (try dsimp only at hSw)
    go_simp
    try with_reducible rfl
  try simp only [Act.put, List.setIfInBounds_toArray, List.set_cons_zero, List.set_cons_succ]
  refine wpAnyH_take (i := 1) (v := ?_) (show _ = some { dst := some 31, op := _, type := _, pos := _, after := _, guard := _ } from rfl) (by kernel_rfl) (by kernel_rfl) (by kernel_rfl) (fun _ _ _ h => h) (Or.inl ⟨by rfl, ?_⟩) hHeld ?_
  rotate_left
  · intro w' hSw
    (try dsimp only at hSw)
    go_simp
    try with_reducible rfl
  try simp only [Act.put, List.setIfInBounds_toArray, List.set_cons_zero, List.set_cons_succ]
  refine wpAnyH_take (i := 2) (v := ?_) (show _ = some { dst := some 32, op := _, type := _, pos := _, after := _, guard := _ } from rfl) (by kernel_rfl) (by kernel_rfl) (by kernel_rfl) (fun _ _ _ h => h) (Or.inl ⟨by rfl, ?_⟩) hHeld ?_
  rotate_left
  · intro w' hSw
    (try dsimp only at hSw)
    go_simp
    try with_reducible rfl
  try simp only [Act.put, List.setIfInBounds_toArray, List.set_cons_zero, List.set_cons_succ]
  refine wpAnyH_take (i := 3) (v := ?_) (show _ = some { dst := some 33, op := _, type := _, pos := _, after := _, guard := _ } from rfl) (by kernel_rfl) (by kernel_rfl) (by kernel_rfl) (fun _ _ _ h => h) (Or.inl ⟨by rfl, ?_⟩) hHeld ?_
  rotate_left
  · intro w' hSw
    (try dsimp only at hSw)
    go_simp
    try with_reducible rfl
  try simp only [Act.put, List.setIfInBounds_toArray, List.set_cons_zero, List.set_cons_succ]
  refine wpAnyH_take (i := 4) (v := ?_) (show _ = some { dst := some 34, op := _, type := _, pos := _, after := _, guard := _ } from rfl) (by kernel_rfl) (by kernel_rfl) (by kernel_rfl) (fun _ _ _ h => h) (Or.inl ⟨by rfl, ?_⟩) hHeld ?_
  rotate_left
  · intro w' hSw
    (try dsimp only at hSw)
    go_simp
    try with_reducible rfl
  try simp only [Act.put, List.setIfInBounds_toArray, List.set_cons_zero, List.set_cons_succ]
  refine wpAnyH_take (i := 6) (v := ?_) (show _ = some { dst := some 36, op := _, type := _, pos := _, after := _, guard := _ } from rfl) (by kernel_rfl) (by kernel_rfl) (by kernel_rfl) (fun _ _ _ h => h) (Or.inl ⟨by rfl, ?_⟩) hHeld ?_
  rotate_left
  · intro w' hSw
    (try dsimp only at hSw)
    go_simp
    try with_reducible rfl
  try simp only [Act.put, List.setIfInBounds_toArray, List.set_cons_zero, List.set_cons_succ]
  refine wpAnyH_take (i := 7) (v := ?_) (show _ = some { dst := some 37, op := _, type := _, pos := _, after := _, guard := _ } from rfl) (by kernel_rfl) (by kernel_rfl) (by kernel_rfl) (fun _ _ _ h => h) (Or.inl ⟨by rfl, ?_⟩) hHeld ?_
  rotate_left
  · intro w' hSw
    (try dsimp only at hSw)
    go_simp
    try with_reducible rfl
  try simp only [Act.put, List.setIfInBounds_toArray, List.set_cons_zero, List.set_cons_succ]
  refine wpAnyH_take (i := 8) (v := ?_) (show _ = some { dst := some 38, op := _, type := _, pos := _, after := _, guard := _ } from rfl) (by kernel_rfl) (by kernel_rfl) (by kernel_rfl) (fun _ _ _ h => h) (Or.inl ⟨by rfl, ?_⟩) hHeld ?_
  rotate_left
  · intro w' hSw
    (try dsimp only at hSw)
    go_simp
    try with_reducible rfl
  try simp only [Act.put, List.setIfInBounds_toArray, List.set_cons_zero, List.set_cons_succ]
  refine wpAnyH_take (i := 9) (v := ?_) (show _ = some { dst := some 39, op := _, type := _, pos := _, after := _, guard := _ } from rfl) (by kernel_rfl) (by kernel_rfl) (by kernel_rfl) (fun _ _ _ h => h) (Or.inl ⟨by rfl, ?_⟩) hHeld ?_
  rotate_left
  · intro w' hSw
    (try dsimp only at hSw)
    go_simp
    try with_reducible rfl
  try simp only [Act.put, List.setIfInBounds_toArray, List.set_cons_zero, List.set_cons_succ]
  refine wpAnyH_take (i := 10) (v := ?_) (show _ = some { dst := some 40, op := _, type := _, pos := _, after := _, guard := _ } from rfl) (by kernel_rfl) (by kernel_rfl) (by kernel_rfl) (fun _ _ _ h => h) (Or.inl ⟨by rfl, ?_⟩) hHeld ?_
  rotate_left
  · intro w' hSw
    (try dsimp only at hSw)
    go_simp
    try with_reducible rfl
  try simp only [Act.put, List.setIfInBounds_toArray, List.set_cons_zero, List.set_cons_succ]
  refine wpAnyH_ready (rs := [5]) (by kernel_rfl) (by simp) ?_
  refine AllReadyH.cons (show _ = some { dst := some 35, op := _, type := _, pos := _, after := _, guard := _ } from rfl) (fun K hK => ?_) AllReadyH.nil
  go_simp
  refine (HBd.out.edit2 HG.out s hs (HE.out.later HBd.out.below) hmm HN.out.1 (by have := HN.out; omega)).mono ?_
  rintro e w10 ⟨rfl, h10, hk10⟩
  have H10 := Lib.hid h10
  have HC10_0 := Lib.hid (kB_cell hk10 (drew_cell HX.out.2.1) (by have := HL.out; simp; omega) (by have := HL.out; simp; omega))
  have HC10_1 := Lib.hid (kB_cell hk10 (drew_cell HX.out.2.2.2) (by have := HL.out; simp; omega) (by have := HL.out; simp; omega))
  clear h10 hk10
  go_wp2_with fail
  refine hK.out _ _ (⟨HC10_0.out, HC10_1.out⟩) (fun hHeld => ?_)
  clear hK K
  try simp only [Act.put, List.setIfInBounds_toArray, List.set_cons_zero, List.set_cons_succ]
  refine wpAnyH_ready (rs := [11]) (by kernel_rfl) (by simp) ?_
  refine AllReadyH.cons (show _ = some { dst := some 41, op := _, type := _, pos := _, after := _, guard := _ } from rfl) (fun K hK => ?_) AllReadyH.nil
  go_simp
  refine (H10.out.redit2 HG.out s hs (HE.out.later H10.out.below) hmm HN.out.1 (by have := HN.out; omega)).mono ?_
  rintro e w11 ⟨rfl, h11, hk11⟩
  have H11 := Lib.hid h11
  have HC11_0 := Lib.hid (kB_cell hk11 HC10_0.out (by have := HL.out; simp; omega) (by have := HL.out; simp; omega))
  have HC11_1 := Lib.hid (kB_cell hk11 HC10_1.out (by have := HL.out; simp; omega) (by have := HL.out; simp; omega))
  clear h11 hk11
  go_wp2_with fail
  refine hK.out _ _ (⟨HC11_0.out, HC11_1.out⟩) (fun hHeld => ?_)
  clear hK K
  try simp only [Act.put, List.setIfInBounds_toArray, List.set_cons_zero, List.set_cons_succ]
  refine wpAnyH_take (i := 12) (v := ?_) (show _ = some { dst := some 42, op := _, type := _, pos := _, after := _, guard := _ } from rfl) (by kernel_rfl) (by kernel_rfl) (by kernel_rfl) (fun _ _ _ h => h) (Or.inl ⟨by rfl, ?_⟩) hHeld ?_
  rotate_left
  · intro w' hSw
    (try dsimp only at hSw)
    go_simp
    try with_reducible rfl
  try simp only [Act.put, List.setIfInBounds_toArray, List.set_cons_zero, List.set_cons_succ]
  refine wpAnyH_take (i := 13) (v := ?_) (show _ = some { dst := some 6, op := _, type := _, pos := _, after := _, guard := _ } from rfl) (by kernel_rfl) (by kernel_rfl) (by kernel_rfl) (fun _ _ _ h => h) (Or.inl ⟨by rfl, ?_⟩) hHeld ?_
  rotate_left
  · intro w' hSw
    (try dsimp only at hSw)
    go_simp
    try with_reducible rfl
  try simp only [Act.put, List.setIfInBounds_toArray, List.set_cons_zero, List.set_cons_succ]
  refine wpAnyH_done (by kernel_rfl) ?_ _
  clear hHeld
  go_wp2_with fail
  go_ret
  exact ⟨rfl, H11.out⟩
set_option maxRecDepth 100000 in
set_option maxHeartbeats 4000000 in
theorem step_drop {W0 W : World} {b b' : Nat} {L : List Fi} {n : Int} (h : Both W0 W b b' L n L n) (hg : Good L) (hn : 0 ≤ n) (hm : n ≤ 1000000000000) (s t : ByteArray) (hs : s.size ≤ 1000000000000000) (A : Option Addr) (m d : Nat) :
    Calls Tryd.prog 18 #[.pointer (some ⟨b, 0, none⟩), .pointer (some ⟨b', 0, none⟩), .agg #[.int .i64 3, .string s, .string t, .slice A m d]] W fun e w' => e = .returned (.bool true) ∧ Both W0 w' b b' (dropL L s) (dropN L n s) (dropL L s) (dropN L n s) := by
  have HB := Lib.hid (h.later ((Below.refl W.heap.size W).alloc (Nat.le_refl _) (.cells #[.int .i64 3, .string s, .string t, .slice A m d] 34)))
  have HBd := Lib.hid (HB.out.later (Below.drew (Below.refl _ _)))
  have hbx := box4 W (.int .i64 3) (.string s) (.string t) (.slice A m d) 34
  have hbl := h.blt
  have HL := Lib.hid hbl
  have HX := Lib.hid hbx
  have HG := Lib.hid hg
  have HN := Lib.hid (And.intro hn hm)
  clear h hg hn hm hbl
  go_enter Tryd.func18, Tryd.ntmps18
  go_wp2_with fail
  refine wp_region_held_drew (S := (fun w' => w'.cell? ⟨W.heap.size, 1, none⟩ = some (.string s) ∧ True)) (by kernel_rfl) ⟨drew_cell HX.out.2.1, trivial⟩ (fun hHeld => ?_)
  refine wpAnyH_take (i := 0) (v := ?_) (show _ = some { dst := some 45, op := _, type := _, pos := _, after := _, guard := _ } from rfl) (by kernel_rfl) (by kernel_rfl) (by kernel_rfl) (fun _ _ _ h => h) (Or.inl ⟨by rfl, ?_⟩) hHeld ?_
  rotate_left
  · intro w' hSw
    (try dsimp only at hSw)
    go_simp
    try with_reducible rfl
  try simp only [Act.put, List.setIfInBounds_toArray, List.set_cons_zero, List.set_cons_succ]
  refine wpAnyH_take (i := 1) (v := ?_) (show _ = some { dst := some 46, op := _, type := _, pos := _, after := _, guard := _ } from rfl) (by kernel_rfl) (by kernel_rfl) (by kernel_rfl) (fun _ _ _ h => h) (Or.inl ⟨by rfl, ?_⟩) hHeld ?_
  rotate_left
  · intro w' hSw
    (try dsimp only at hSw)
    go_simp
    try with_reducible rfl
  try simp only [Act.put, List.setIfInBounds_toArray, List.set_cons_zero, List.set_cons_succ]
  refine wpAnyH_take (i := 2) (v := ?_) (show _ = some { dst := some 47, op := _, type := _, pos := _, after := _, guard := _ } from rfl) (by kernel_rfl) (by kernel_rfl) (by kernel_rfl) (fun _ _ _ h => h) (Or.inl ⟨by rfl, ?_⟩) hHeld ?_
  rotate_left
  · intro w' hSw
    (try dsimp only at hSw)
    go_simp
    try with_reducible rfl
  try simp only [Act.put, List.setIfInBounds_toArray, List.set_cons_zero, List.set_cons_succ]
  refine wpAnyH_take (i := 4) (v := ?_) (show _ = some { dst := some 49, op := _, type := _, pos := _, after := _, guard := _ } from rfl) (by kernel_rfl) (by kernel_rfl) (by kernel_rfl) (fun _ _ _ h => h) (Or.inl ⟨by rfl, ?_⟩) hHeld ?_
  rotate_left
  · intro w' hSw
    (try dsimp only at hSw)
    go_simp
    try with_reducible rfl
  try simp only [Act.put, List.setIfInBounds_toArray, List.set_cons_zero, List.set_cons_succ]
  refine wpAnyH_take (i := 5) (v := ?_) (show _ = some { dst := some 50, op := _, type := _, pos := _, after := _, guard := _ } from rfl) (by kernel_rfl) (by kernel_rfl) (by kernel_rfl) (fun _ _ _ h => h) (Or.inl ⟨by rfl, ?_⟩) hHeld ?_
  rotate_left
  · intro w' hSw
    (try dsimp only at hSw)
    go_simp
    try with_reducible rfl
  try simp only [Act.put, List.setIfInBounds_toArray, List.set_cons_zero, List.set_cons_succ]
  refine wpAnyH_take (i := 6) (v := ?_) (show _ = some { dst := some 51, op := _, type := _, pos := _, after := _, guard := _ } from rfl) (by kernel_rfl) (by kernel_rfl) (by kernel_rfl) (fun _ _ _ h => h) (Or.inl ⟨by rfl, ?_⟩) hHeld ?_
  rotate_left
  · intro w' hSw
    (try dsimp only at hSw)
    go_simp
    try with_reducible rfl
  try simp only [Act.put, List.setIfInBounds_toArray, List.set_cons_zero, List.set_cons_succ]
  refine wpAnyH_ready (rs := [3]) (by kernel_rfl) (by simp) ?_
  refine AllReadyH.cons (show _ = some { dst := some 48, op := _, type := _, pos := _, after := _, guard := _ } from rfl) (fun K hK => ?_) AllReadyH.nil
  go_simp
  refine (HBd.out.drop3 s hs HN.out.1 (by have := HN.out; omega)).mono ?_
  rintro e w10 ⟨rfl, h10, hk10⟩
  have H10 := Lib.hid h10
  have HC10_0 := Lib.hid (kB_cell hk10 (drew_cell HX.out.2.1) (by have := HL.out; simp; omega) (by have := HL.out; simp; omega))
  clear h10 hk10
  go_wp2_with fail
  refine hK.out _ _ (⟨HC10_0.out, trivial⟩) (fun hHeld => ?_)
  clear hK K
  try simp only [Act.put, List.setIfInBounds_toArray, List.set_cons_zero, List.set_cons_succ]
  refine wpAnyH_ready (rs := [7]) (by kernel_rfl) (by simp) ?_
  refine AllReadyH.cons (show _ = some { dst := some 52, op := _, type := _, pos := _, after := _, guard := _ } from rfl) (fun K hK => ?_) AllReadyH.nil
  go_simp
  refine (H10.out.rdrop3 HG.out s HN.out.1 (by have := HN.out; omega)).mono ?_
  rintro e w11 ⟨rfl, h11, hk11⟩
  have H11 := Lib.hid h11
  have HC11_0 := Lib.hid (kB_cell hk11 HC10_0.out (by have := HL.out; simp; omega) (by have := HL.out; simp; omega))
  clear h11 hk11
  go_wp2_with fail
  refine hK.out _ _ (⟨HC11_0.out, trivial⟩) (fun hHeld => ?_)
  clear hK K
  try simp only [Act.put, List.setIfInBounds_toArray, List.set_cons_zero, List.set_cons_succ]
  refine wpAnyH_take (i := 8) (v := ?_) (show _ = some { dst := some 53, op := _, type := _, pos := _, after := _, guard := _ } from rfl) (by kernel_rfl) (by kernel_rfl) (by kernel_rfl) (fun _ _ _ h => h) (Or.inl ⟨by rfl, ?_⟩) hHeld ?_
  rotate_left
  · intro w' hSw
    (try dsimp only at hSw)
    go_simp
    try with_reducible rfl
  try simp only [Act.put, List.setIfInBounds_toArray, List.set_cons_zero, List.set_cons_succ]
  refine wpAnyH_take (i := 9) (v := ?_) (show _ = some { dst := some 6, op := _, type := _, pos := _, after := _, guard := _ } from rfl) (by kernel_rfl) (by kernel_rfl) (by kernel_rfl) (fun _ _ _ h => h) (Or.inl ⟨by rfl, ?_⟩) hHeld ?_
  rotate_left
  · intro w' hSw
    (try dsimp only at hSw)
    go_simp
    try with_reducible rfl
  try simp only [Act.put, List.setIfInBounds_toArray, List.set_cons_zero, List.set_cons_succ]
  refine wpAnyH_done (by kernel_rfl) ?_ _
  clear hHeld
  go_wp2_with fail
  go_ret
  exact ⟨rfl, H11.out⟩
end Go.Proofs.YtlgklkokadbpeaaDoor
