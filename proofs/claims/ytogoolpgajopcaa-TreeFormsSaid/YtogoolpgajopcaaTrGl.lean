import Derived.Test.YtogoolpgajopcaaTrGj
import Derived.IntWalk
namespace Go.Proofs.Ytogoolpgajopcaa
open Go.RowKit
set_option maxRecDepth 100000 in
set_option maxHeartbeats 6000000 in
theorem rdecl_80_no (P : Fo) (t : ByteArray) (n m a : Int) (A : Option Addr) (c : Nat) (w : World) (hH : Holds w w.heap.size P A 0) (hlc : P.len ≤ c) (hcc : c ≤ 1000000000000000) (ht : t.size ≤ 1000000000000000) (hm : m = 0 ∨ m = 1) (hid : idB t = true) (hv : runB 73 (·.var) P.inf = false) :
    Calls Try.prog 60 #[.agg #[.int .i64 80, .string t, .int .i64 n, .int .i64 m, .int .i64 a, .slice A P.len c]] w fun e w' => e = .returned (.bool (funcD n P.inf true)) ∧ Below w.heap.size w w' := by
  have hl : P.len ≤ 1000000000000000 := by omega
  obtain ⟨y, hy⟩ : ∃ y, funcD n P.inf true = y := ⟨_, rfl⟩
  rw [hy]
  unfold funcD at hy
  have KI := Lib.hid (fun W => isname_ref t W ht)
  rw [hid] at KI
  have KRun := Lib.hid (fun W (hW : Below w.heap.size w W) => run_any P 73 0 A c W ((hH.below hW).more hW.size) (Nat.zero_le _) hl)
  rw [List.drop_zero] at KRun
  have KV := Lib.hid (fun W (hW : Below w.heap.size w W) => vars_any P (runN 73 P.inf : Nat) A c W ((hH.below hW).more hW.size) hl)
  rw [func_vars, hv] at KV
  rw [hv] at hy
  have HY : Hid (false = y) := Lib.hid (by rw [← hy]; rfl)
  clear hH hy hv hlc hid hl
  generalize runN 73 P.inf = r at *
  generalize P.len = x at *
  have tm : (m != 0) = false ∨ (m != 0) = true ∧ (m != 1) = false := by rcases hm with rfl | rfl <;> simp
  clear hm
  rcases tm with t0 | ⟨t0, t1m⟩
  all_goals
    have MK := Lib.hid (show ∀ w', Box w w.heap.size 80 t n m a x A c w' → (fun w' => Box w w.heap.size 80 t n m a x A c w' ∧ w'.cell? ⟨w.heap.size, 2, none⟩ = some (.int .i64 n)) w' from fun w' h => ⟨h, h.c2⟩)
    go_enter Try.func60, Try.ntmps60
    go_wp2_with (first
      | (go_at_call 39; refine (KI.out _).mono ?_; rintro e w1 ⟨rfl, hb⟩; have bx := Box.later (by first | assumption | exact Box.new _ _ _ _ _ _ _ _ _) hb; have bx2 := bx; obtain ⟨-, -, c0, c1, c2, c3, c4, c5⟩ := bx2)
      | (go_at_call 82; refine (KRun.out _ (Box.below (by assumption))).mono ?_; rintro e w1 ⟨rfl, rfl⟩))
    clear c1 c2 c3 c4 c5
    refine wp_region_held_drew (S := (fun w' => Box w w.heap.size 80 t n m a x A c w' ∧ w'.cell? ⟨w.heap.size, 2, none⟩ = some (.int .i64 n))) (by kernel_rfl) (MK.out _ (Box.draw (by assumption))) (fun hHeld => ?_)
    refine wpAnyH_take (i := 0) (v := ?_) (show _ = some { dst := some 60, op := _, type := _, pos := _, after := _, guard := _ } from rfl) (by kernel_rfl) (by kernel_rfl) (by kernel_rfl) (fun _ _ _ h => h) (Or.inl ⟨by rfl, ?_⟩) hHeld ?_
    rotate_left
    · intro w' hSw
      (try dsimp only at hSw)
      go_simp
      try with_reducible rfl
    try simp only [Act.put, List.setIfInBounds_toArray, List.set_cons_zero, List.set_cons_succ]
    refine wpAnyH_take (i := 1) (v := ?_) (show _ = some { dst := some 61, op := _, type := _, pos := _, after := _, guard := _ } from rfl) (by kernel_rfl) (by kernel_rfl) (by kernel_rfl) (fun _ _ _ h => h) (Or.inl ⟨by rfl, ?_⟩) hHeld ?_
    rotate_left
    · intro w' hSw
      (try dsimp only at hSw)
      go_simp
      try with_reducible rfl
    try simp only [Act.put, List.setIfInBounds_toArray, List.set_cons_zero, List.set_cons_succ]
    refine wpAnyH_ready (rs := [2]) (by kernel_rfl) (by simp) ?_
    refine AllReadyH.cons (show _ = some { dst := some 62, op := _, type := _, pos := _, after := _, guard := _ } from rfl) (fun K hK => ?_) AllReadyH.nil
    go_simp
    refine (KV.out _ (Box.below hHeld.1)).mono ?_
    rintro e w5 ⟨rfl, hbel⟩
    go_wp2_with fail
    refine hK.out _ _ (MK.out _ (Box.later hHeld.1 hbel)) (fun hHeld => ?_)
    clear hK K
    try simp only [Act.put, List.setIfInBounds_toArray, List.set_cons_zero, List.set_cons_succ]
    refine wpAnyH_take (i := 3) (v := ?_) (show _ = some { dst := some 63, op := _, type := _, pos := _, after := _, guard := _ } from rfl) (by kernel_rfl) (by kernel_rfl) (by kernel_rfl) (fun _ _ _ h => h) (Or.inl ⟨by rfl, ?_⟩) hHeld ?_
    rotate_left
    · intro w' hSw
      (try dsimp only at hSw)
      go_simp
      try with_reducible rfl
    try simp only [Act.put, List.setIfInBounds_toArray, List.set_cons_zero, List.set_cons_succ]
    refine wpAnyH_take (i := 4) (v := undef) (show _ = some { dst := some 64, op := _, type := _, pos := _, after := _, guard := _ } from rfl) (by kernel_rfl) (by kernel_rfl) (by kernel_rfl) (fun _ _ _ h => h) (Or.inr ⟨by rfl, rfl⟩) hHeld ?_
    try simp only [Act.put, List.setIfInBounds_toArray, List.set_cons_zero, List.set_cons_succ]
    refine wpAnyH_take (i := 5) (v := undef) (show _ = some { dst := some 65, op := _, type := _, pos := _, after := _, guard := _ } from rfl) (by kernel_rfl) (by kernel_rfl) (by kernel_rfl) (fun _ _ _ h => h) (Or.inr ⟨by rfl, rfl⟩) hHeld ?_
    try simp only [Act.put, List.setIfInBounds_toArray, List.set_cons_zero, List.set_cons_succ]
    refine wpAnyH_take (i := 6) (v := undef) (show _ = some { dst := some 66, op := _, type := _, pos := _, after := _, guard := _ } from rfl) (by kernel_rfl) (by kernel_rfl) (by kernel_rfl) (fun _ _ _ h => h) (Or.inr ⟨by rfl, rfl⟩) hHeld ?_
    try simp only [Act.put, List.setIfInBounds_toArray, List.set_cons_zero, List.set_cons_succ]
    refine wpAnyH_take (i := 7) (v := undef) (show _ = some { dst := some 67, op := _, type := _, pos := _, after := _, guard := _ } from rfl) (by kernel_rfl) (by kernel_rfl) (by kernel_rfl) (fun _ _ _ h => h) (Or.inr ⟨by rfl, rfl⟩) hHeld ?_
    try simp only [Act.put, List.setIfInBounds_toArray, List.set_cons_zero, List.set_cons_succ]
    refine wpAnyH_take (i := 8) (v := undef) (show _ = some { dst := some 68, op := _, type := _, pos := _, after := _, guard := _ } from rfl) (by kernel_rfl) (by kernel_rfl) (by kernel_rfl) (fun _ _ _ h => h) (Or.inr ⟨by rfl, rfl⟩) hHeld ?_
    try simp only [Act.put, List.setIfInBounds_toArray, List.set_cons_zero, List.set_cons_succ]
    refine wpAnyH_take (i := 9) (v := undef) (show _ = some { dst := some 69, op := _, type := _, pos := _, after := _, guard := _ } from rfl) (by kernel_rfl) (by kernel_rfl) (by kernel_rfl) (fun _ _ _ h => h) (Or.inr ⟨by rfl, rfl⟩) hHeld ?_
    try simp only [Act.put, List.setIfInBounds_toArray, List.set_cons_zero, List.set_cons_succ]
    refine wpAnyH_take (i := 10) (v := ?_) (show _ = some { dst := some 70, op := _, type := _, pos := _, after := _, guard := _ } from rfl) (by kernel_rfl) (by kernel_rfl) (by kernel_rfl) (fun _ _ _ h => h) (Or.inl ⟨by rfl, ?_⟩) hHeld ?_
    rotate_left
    · intro w' hSw
      (try dsimp only at hSw)
      go_simp
      try with_reducible rfl
    try simp only [Act.put, List.setIfInBounds_toArray, List.set_cons_zero, List.set_cons_succ]
    refine wpAnyH_take (i := 11) (v := ?_) (show _ = some { dst := some 2, op := _, type := _, pos := _, after := _, guard := _ } from rfl) (by kernel_rfl) (by kernel_rfl) (by kernel_rfl) (fun _ _ _ h => h) (Or.inl ⟨by rfl, ?_⟩) hHeld ?_
    rotate_left
    · intro w' hSw
      (try dsimp only at hSw)
      go_simp
      try with_reducible rfl
    try simp only [Act.put, List.setIfInBounds_toArray, List.set_cons_zero, List.set_cons_succ]
    refine wpAnyH_done (by kernel_rfl) ?_ _
    have HBe := Lib.hid (Box.below hHeld.1)
    clear hHeld
    go_wp2_with fail
    go_ret
    exact ⟨ret_bool HY.out, HBe.out⟩
set_option maxRecDepth 100000 in
set_option maxHeartbeats 6000000 in
theorem rdecl_80_n0 (t : ByteArray) (n m a : Int) (w : World) (hH : Holds w w.heap.size Fo.nil none 0) (_hlc : 0 ≤ 0) (hcc : 0 ≤ 1000000000000000) (ht : t.size ≤ 1000000000000000) (hm : m = 0 ∨ m = 1) (hid : idB t = true) (hv : runB 73 (·.var) Fo.nil.inf = true) :
    Calls Try.prog 60 #[.agg #[.int .i64 80, .string t, .int .i64 n, .int .i64 m, .int .i64 a, .slice none 0 0]] w fun e w' => e = .returned (.bool (funcD n Fo.nil.inf true)) ∧ Below w.heap.size w w' := by
  have hl : Fo.nil.len ≤ 1000000000000000 := by decide
  obtain ⟨y, hy⟩ : ∃ y, funcD n Fo.nil.inf true = y := ⟨_, rfl⟩
  rw [hy]
  unfold funcD at hy
  have KI := Lib.hid (fun W => isname_ref t W ht)
  rw [hid] at KI
  have KRun := Lib.hid (fun W (hW : Below w.heap.size w W) => run_any Fo.nil 73 0 none 0 W ((hH.below hW).more hW.size) (Nat.zero_le _) hl)
  rw [List.drop_zero] at KRun
  have KV := Lib.hid (fun W (hW : Below w.heap.size w W) => vars_any Fo.nil (runN 73 Fo.nil.inf : Nat) none 0 W ((hH.below hW).more hW.size) hl)
  rw [func_vars, hv] at KV
  rw [hv] at hy
  rw [Bool.true_and] at hy
  rw [show runN 73 Fo.nil.inf = 0 from rfl] at hy KV KRun
  rw [List.drop_zero] at hy
  simp only [show Fo.nil.len = 0 from rfl] at KV KRun
  have KF : Hid (∀ (A' : Option Addr) (c' : Nat) {W : World}, Below w.heap.size w W → 0 ≤ c' → c' ≤ 1000000000000000 → Calls Try.prog 51 #[.slice A' 0 c', .int .i64 n] W fun e w' => e = .returned (.bool y) ∧ Below W.heap.size W w') := Lib.hid (fun A' c' W hW h1 h2 => by
    have h3 := rfunc_any .nil trivial n A' c' W trivial (Nat.zero_le _) h2
    rw [hy] at h3
    exact h3)
  have HY : Hid (y = y) := Lib.hid rfl
  clear hH hy hv hid hl
  have tm : (m != 0) = false ∨ (m != 0) = true ∧ (m != 1) = false := by rcases hm with rfl | rfl <;> simp
  clear hm
  rcases tm with t0 | ⟨t0, t1m⟩
  all_goals
    have MK := Lib.hid (show ∀ w', Box w w.heap.size 80 t n m a 0 none 0 w' → (fun w' => Box w w.heap.size 80 t n m a 0 none 0 w' ∧ w'.cell? ⟨w.heap.size, 2, none⟩ = some (.int .i64 n)) w' from fun w' h => ⟨h, h.c2⟩)
    go_enter Try.func60, Try.ntmps60
    go_wp2_with (first
      | (go_at_call 39; refine (KI.out _).mono ?_; rintro e w1 ⟨rfl, hb⟩; have bx := Box.later (by first | assumption | exact Box.new _ _ _ _ _ _ _ _ _) hb; have bx2 := bx; obtain ⟨-, -, c0, c1, c2, c3, c4, c5⟩ := bx2)
      | (go_at_call 82; refine (KRun.out _ (Box.below (by assumption))).mono ?_; rintro e w1 ⟨rfl, rfl⟩))
    clear c1 c2 c3 c4 c5
    refine wp_region_held_drew (S := (fun w' => Box w w.heap.size 80 t n m a 0 none 0 w' ∧ w'.cell? ⟨w.heap.size, 2, none⟩ = some (.int .i64 n))) (by kernel_rfl) (MK.out _ (Box.draw (by assumption))) (fun hHeld => ?_)
    refine wpAnyH_take (i := 0) (v := ?_) (show _ = some { dst := some 60, op := _, type := _, pos := _, after := _, guard := _ } from rfl) (by kernel_rfl) (by kernel_rfl) (by kernel_rfl) (fun _ _ _ h => h) (Or.inl ⟨by rfl, ?_⟩) hHeld ?_
    rotate_left
    · intro w' hSw
      (try dsimp only at hSw)
      go_simp
      try with_reducible rfl
    try simp only [Act.put, List.setIfInBounds_toArray, List.set_cons_zero, List.set_cons_succ]
    refine wpAnyH_take (i := 1) (v := ?_) (show _ = some { dst := some 61, op := _, type := _, pos := _, after := _, guard := _ } from rfl) (by kernel_rfl) (by kernel_rfl) (by kernel_rfl) (fun _ _ _ h => h) (Or.inl ⟨by rfl, ?_⟩) hHeld ?_
    rotate_left
    · intro w' hSw
      (try dsimp only at hSw)
      go_simp
      try with_reducible rfl
    try simp only [Act.put, List.setIfInBounds_toArray, List.set_cons_zero, List.set_cons_succ]
    refine wpAnyH_ready (rs := [2]) (by kernel_rfl) (by simp) ?_
    refine AllReadyH.cons (show _ = some { dst := some 62, op := _, type := _, pos := _, after := _, guard := _ } from rfl) (fun K hK => ?_) AllReadyH.nil
    go_simp
    refine (KV.out _ (Box.below hHeld.1)).mono ?_
    rintro e w5 ⟨rfl, hbel⟩
    go_wp2_with fail
    refine hK.out _ _ (MK.out _ (Box.later hHeld.1 hbel)) (fun hHeld => ?_)
    clear hK K
    try simp only [Act.put, List.setIfInBounds_toArray, List.set_cons_zero, List.set_cons_succ]
    refine wpAnyH_take (i := 3) (v := ?_) (show _ = some { dst := some 63, op := _, type := _, pos := _, after := _, guard := _ } from rfl) (by kernel_rfl) (by kernel_rfl) (by kernel_rfl) (fun _ _ _ h => h) (Or.inl ⟨by rfl, ?_⟩) hHeld ?_
    rotate_left
    · intro w' hSw
      (try dsimp only at hSw)
      go_simp
      try with_reducible rfl
    try simp only [Act.put, List.setIfInBounds_toArray, List.set_cons_zero, List.set_cons_succ]
    refine wpAnyH_take (i := 4) (v := ?_) (show _ = some { dst := some 64, op := _, type := _, pos := _, after := _, guard := _ } from rfl) (by kernel_rfl) (by kernel_rfl) (by kernel_rfl) (fun _ _ _ h => h) (Or.inl ⟨by rfl, ?_⟩) hHeld ?_
    rotate_left
    · intro w' hSw
      (try dsimp only at hSw)
      go_simp
      try with_reducible rfl
    try simp only [Act.put, List.setIfInBounds_toArray, List.set_cons_zero, List.set_cons_succ]
    refine wpAnyH_take (i := 5) (v := ?_) (show _ = some { dst := some 65, op := _, type := _, pos := _, after := _, guard := _ } from rfl) (by kernel_rfl) (by kernel_rfl) (by kernel_rfl) (fun _ _ _ h => h) (Or.inl ⟨by rfl, ?_⟩) hHeld ?_
    rotate_left
    · intro w' hSw
      (try dsimp only at hSw)
      go_simp
      try with_reducible rfl
    try simp only [Act.put, List.setIfInBounds_toArray, List.set_cons_zero, List.set_cons_succ]
    refine wpAnyH_take (i := 6) (v := ?_) (show _ = some { dst := some 66, op := _, type := _, pos := _, after := _, guard := _ } from rfl) (by kernel_rfl) (by kernel_rfl) (by kernel_rfl) (fun _ _ _ h => h) (Or.inl ⟨by rfl, ?_⟩) hHeld ?_
    rotate_left
    · intro w' hSw
      (try dsimp only at hSw)
      go_simp
      try with_reducible rfl
    try simp only [Act.put, List.setIfInBounds_toArray, List.set_cons_zero, List.set_cons_succ]
    refine wpAnyH_take (i := 7) (v := ?_) (show _ = some { dst := some 67, op := _, type := _, pos := _, after := _, guard := _ } from rfl) (by kernel_rfl) (by kernel_rfl) (by kernel_rfl) (fun _ _ _ h => h) (Or.inl ⟨by rfl, ?_⟩) hHeld ?_
    rotate_left
    · intro w' hSw
      (try dsimp only at hSw)
      go_simp
      try with_reducible rfl
    try simp only [Act.put, List.setIfInBounds_toArray, List.set_cons_zero, List.set_cons_succ]
    refine wpAnyH_take (i := 8) (v := ?_) (show _ = some { dst := some 68, op := _, type := _, pos := _, after := _, guard := _ } from rfl) (by kernel_rfl) (by kernel_rfl) (by kernel_rfl) (fun _ _ _ h => h) (Or.inl ⟨by rfl, ?_⟩) hHeld ?_
    rotate_left
    · intro w' hSw
      (try dsimp only at hSw)
      go_simp
      try with_reducible rfl
    try simp only [Act.put, List.setIfInBounds_toArray, List.set_cons_zero, List.set_cons_succ]
    refine wpAnyH_ready (rs := [9]) (by kernel_rfl) (by simp) ?_
    refine AllReadyH.cons (show _ = some { dst := some 69, op := _, type := _, pos := _, after := _, guard := _ } from rfl) (fun K hK => ?_) AllReadyH.nil
    go_simp
    refine (KF.out _ _ ?_ ?_ ?_).mono ?_
    · exact Box.below hHeld.1
    · omega
    · omega
    rintro e w6 ⟨rfl, hbel⟩
    go_wp2_with fail
    refine hK.out _ _ (MK.out _ (Box.later hHeld.1 hbel)) (fun hHeld => ?_)
    clear hK K
    try simp only [Act.put, List.setIfInBounds_toArray, List.set_cons_zero, List.set_cons_succ]
    refine wpAnyH_take (i := 10) (v := ?_) (show _ = some { dst := some 70, op := _, type := _, pos := _, after := _, guard := _ } from rfl) (by kernel_rfl) (by kernel_rfl) (by kernel_rfl) (fun _ _ _ h => h) (Or.inl ⟨by rfl, ?_⟩) hHeld ?_
    rotate_left
    · intro w' hSw
      (try dsimp only at hSw)
      go_simp
      try with_reducible rfl
    try simp only [Act.put, List.setIfInBounds_toArray, List.set_cons_zero, List.set_cons_succ]
    refine wpAnyH_take (i := 11) (v := ?_) (show _ = some { dst := some 2, op := _, type := _, pos := _, after := _, guard := _ } from rfl) (by kernel_rfl) (by kernel_rfl) (by kernel_rfl) (fun _ _ _ h => h) (Or.inl ⟨by rfl, ?_⟩) hHeld ?_
    rotate_left
    · intro w' hSw
      (try dsimp only at hSw)
      go_simp
      try with_reducible rfl
    try simp only [Act.put, List.setIfInBounds_toArray, List.set_cons_zero, List.set_cons_succ]
    refine wpAnyH_done (by kernel_rfl) ?_ _
    have HBe := Lib.hid (Box.below hHeld.1)
    clear hHeld
    go_wp2_with fail
    go_ret
    exact ⟨rfl, HBe.out⟩
set_option maxRecDepth 100000 in
set_option maxHeartbeats 6000000 in
theorem rdecl_80_s0 (t : ByteArray) (n m a : Int) (ad : Addr) (w : World) (hH : Holds w w.heap.size Fo.nil (some ad) 0) (_hlc : 0 ≤ 0) (hcc : 0 ≤ 1000000000000000) (ht : t.size ≤ 1000000000000000) (hm : m = 0 ∨ m = 1) (hid : idB t = true) (hv : runB 73 (·.var) Fo.nil.inf = true) :
    Calls Try.prog 60 #[.agg #[.int .i64 80, .string t, .int .i64 n, .int .i64 m, .int .i64 a, .slice (some ad) 0 0]] w fun e w' => e = .returned (.bool (funcD n Fo.nil.inf true)) ∧ Below w.heap.size w w' := by
  have hl : Fo.nil.len ≤ 1000000000000000 := by decide
  obtain ⟨y, hy⟩ : ∃ y, funcD n Fo.nil.inf true = y := ⟨_, rfl⟩
  rw [hy]
  unfold funcD at hy
  have KI := Lib.hid (fun W => isname_ref t W ht)
  rw [hid] at KI
  have KRun := Lib.hid (fun W (hW : Below w.heap.size w W) => run_any Fo.nil 73 0 (some ad) 0 W ((hH.below hW).more hW.size) (Nat.zero_le _) hl)
  rw [List.drop_zero] at KRun
  have KV := Lib.hid (fun W (hW : Below w.heap.size w W) => vars_any Fo.nil (runN 73 Fo.nil.inf : Nat) (some ad) 0 W ((hH.below hW).more hW.size) hl)
  rw [func_vars, hv] at KV
  rw [hv] at hy
  rw [Bool.true_and] at hy
  rw [show runN 73 Fo.nil.inf = 0 from rfl] at hy KV KRun
  rw [List.drop_zero] at hy
  simp only [show Fo.nil.len = 0 from rfl] at KV KRun
  have KF : Hid (∀ (A' : Option Addr) (c' : Nat) {W : World}, Below w.heap.size w W → 0 ≤ c' → c' ≤ 1000000000000000 → Calls Try.prog 51 #[.slice A' 0 c', .int .i64 n] W fun e w' => e = .returned (.bool y) ∧ Below W.heap.size W w') := Lib.hid (fun A' c' W hW h1 h2 => by
    have h3 := rfunc_any .nil trivial n A' c' W trivial (Nat.zero_le _) h2
    rw [hy] at h3
    exact h3)
  have HY : Hid (y = y) := Lib.hid rfl
  clear hH hy hv hid hl
  have tm : (m != 0) = false ∨ (m != 0) = true ∧ (m != 1) = false := by rcases hm with rfl | rfl <;> simp
  clear hm
  rcases tm with t0 | ⟨t0, t1m⟩
  all_goals
    have MK := Lib.hid (show ∀ w', Box w w.heap.size 80 t n m a 0 (some ad) 0 w' → (fun w' => Box w w.heap.size 80 t n m a 0 (some ad) 0 w' ∧ w'.cell? ⟨w.heap.size, 2, none⟩ = some (.int .i64 n)) w' from fun w' h => ⟨h, h.c2⟩)
    go_enter Try.func60, Try.ntmps60
    go_wp2_with (first
      | (go_at_call 39; refine (KI.out _).mono ?_; rintro e w1 ⟨rfl, hb⟩; have bx := Box.later (by first | assumption | exact Box.new _ _ _ _ _ _ _ _ _) hb; have bx2 := bx; obtain ⟨-, -, c0, c1, c2, c3, c4, c5⟩ := bx2)
      | (go_at_call 82; refine (KRun.out _ (Box.below (by assumption))).mono ?_; rintro e w1 ⟨rfl, rfl⟩))
    clear c1 c2 c3 c4 c5
    refine wp_region_held_drew (S := (fun w' => Box w w.heap.size 80 t n m a 0 (some ad) 0 w' ∧ w'.cell? ⟨w.heap.size, 2, none⟩ = some (.int .i64 n))) (by kernel_rfl) (MK.out _ (Box.draw (by assumption))) (fun hHeld => ?_)
    refine wpAnyH_take (i := 0) (v := ?_) (show _ = some { dst := some 60, op := _, type := _, pos := _, after := _, guard := _ } from rfl) (by kernel_rfl) (by kernel_rfl) (by kernel_rfl) (fun _ _ _ h => h) (Or.inl ⟨by rfl, ?_⟩) hHeld ?_
    rotate_left
    · intro w' hSw
      (try dsimp only at hSw)
      go_simp
      try with_reducible rfl
    try simp only [Act.put, List.setIfInBounds_toArray, List.set_cons_zero, List.set_cons_succ]
    refine wpAnyH_take (i := 1) (v := ?_) (show _ = some { dst := some 61, op := _, type := _, pos := _, after := _, guard := _ } from rfl) (by kernel_rfl) (by kernel_rfl) (by kernel_rfl) (fun _ _ _ h => h) (Or.inl ⟨by rfl, ?_⟩) hHeld ?_
    rotate_left
    · intro w' hSw
      (try dsimp only at hSw)
      go_simp
      try with_reducible rfl
    try simp only [Act.put, List.setIfInBounds_toArray, List.set_cons_zero, List.set_cons_succ]
    refine wpAnyH_ready (rs := [2]) (by kernel_rfl) (by simp) ?_
    refine AllReadyH.cons (show _ = some { dst := some 62, op := _, type := _, pos := _, after := _, guard := _ } from rfl) (fun K hK => ?_) AllReadyH.nil
    go_simp
    refine (KV.out _ (Box.below hHeld.1)).mono ?_
    rintro e w5 ⟨rfl, hbel⟩
    go_wp2_with fail
    refine hK.out _ _ (MK.out _ (Box.later hHeld.1 hbel)) (fun hHeld => ?_)
    clear hK K
    try simp only [Act.put, List.setIfInBounds_toArray, List.set_cons_zero, List.set_cons_succ]
    refine wpAnyH_take (i := 3) (v := ?_) (show _ = some { dst := some 63, op := _, type := _, pos := _, after := _, guard := _ } from rfl) (by kernel_rfl) (by kernel_rfl) (by kernel_rfl) (fun _ _ _ h => h) (Or.inl ⟨by rfl, ?_⟩) hHeld ?_
    rotate_left
    · intro w' hSw
      (try dsimp only at hSw)
      go_simp
      try with_reducible rfl
    try simp only [Act.put, List.setIfInBounds_toArray, List.set_cons_zero, List.set_cons_succ]
    refine wpAnyH_take (i := 4) (v := ?_) (show _ = some { dst := some 64, op := _, type := _, pos := _, after := _, guard := _ } from rfl) (by kernel_rfl) (by kernel_rfl) (by kernel_rfl) (fun _ _ _ h => h) (Or.inl ⟨by rfl, ?_⟩) hHeld ?_
    rotate_left
    · intro w' hSw
      (try dsimp only at hSw)
      go_simp
      try with_reducible rfl
    try simp only [Act.put, List.setIfInBounds_toArray, List.set_cons_zero, List.set_cons_succ]
    refine wpAnyH_take (i := 5) (v := ?_) (show _ = some { dst := some 65, op := _, type := _, pos := _, after := _, guard := _ } from rfl) (by kernel_rfl) (by kernel_rfl) (by kernel_rfl) (fun _ _ _ h => h) (Or.inl ⟨by rfl, ?_⟩) hHeld ?_
    rotate_left
    · intro w' hSw
      (try dsimp only at hSw)
      go_simp
      try with_reducible rfl
    try simp only [Act.put, List.setIfInBounds_toArray, List.set_cons_zero, List.set_cons_succ]
    refine wpAnyH_take (i := 6) (v := ?_) (show _ = some { dst := some 66, op := _, type := _, pos := _, after := _, guard := _ } from rfl) (by kernel_rfl) (by kernel_rfl) (by kernel_rfl) (fun _ _ _ h => h) (Or.inl ⟨by rfl, ?_⟩) hHeld ?_
    rotate_left
    · intro w' hSw
      (try dsimp only at hSw)
      go_simp
      try with_reducible rfl
    try simp only [Act.put, List.setIfInBounds_toArray, List.set_cons_zero, List.set_cons_succ]
    refine wpAnyH_take (i := 7) (v := ?_) (show _ = some { dst := some 67, op := _, type := _, pos := _, after := _, guard := _ } from rfl) (by kernel_rfl) (by kernel_rfl) (by kernel_rfl) (fun _ _ _ h => h) (Or.inl ⟨by rfl, ?_⟩) hHeld ?_
    rotate_left
    · intro w' hSw
      (try dsimp only at hSw)
      go_simp
      try with_reducible rfl
    try simp only [Act.put, List.setIfInBounds_toArray, List.set_cons_zero, List.set_cons_succ]
    refine wpAnyH_take (i := 8) (v := ?_) (show _ = some { dst := some 68, op := _, type := _, pos := _, after := _, guard := _ } from rfl) (by kernel_rfl) (by kernel_rfl) (by kernel_rfl) (fun _ _ _ h => h) (Or.inl ⟨by rfl, ?_⟩) hHeld ?_
    rotate_left
    · intro w' hSw
      (try dsimp only at hSw)
      go_simp
      try with_reducible rfl
    try simp only [Act.put, List.setIfInBounds_toArray, List.set_cons_zero, List.set_cons_succ]
    refine wpAnyH_ready (rs := [9]) (by kernel_rfl) (by simp) ?_
    refine AllReadyH.cons (show _ = some { dst := some 69, op := _, type := _, pos := _, after := _, guard := _ } from rfl) (fun K hK => ?_) AllReadyH.nil
    go_simp
    refine (KF.out _ _ ?_ ?_ ?_).mono ?_
    · exact Box.below hHeld.1
    · omega
    · omega
    rintro e w6 ⟨rfl, hbel⟩
    go_wp2_with fail
    refine hK.out _ _ (MK.out _ (Box.later hHeld.1 hbel)) (fun hHeld => ?_)
    clear hK K
    try simp only [Act.put, List.setIfInBounds_toArray, List.set_cons_zero, List.set_cons_succ]
    refine wpAnyH_take (i := 10) (v := ?_) (show _ = some { dst := some 70, op := _, type := _, pos := _, after := _, guard := _ } from rfl) (by kernel_rfl) (by kernel_rfl) (by kernel_rfl) (fun _ _ _ h => h) (Or.inl ⟨by rfl, ?_⟩) hHeld ?_
    rotate_left
    · intro w' hSw
      (try dsimp only at hSw)
      go_simp
      try with_reducible rfl
    try simp only [Act.put, List.setIfInBounds_toArray, List.set_cons_zero, List.set_cons_succ]
    refine wpAnyH_take (i := 11) (v := ?_) (show _ = some { dst := some 2, op := _, type := _, pos := _, after := _, guard := _ } from rfl) (by kernel_rfl) (by kernel_rfl) (by kernel_rfl) (fun _ _ _ h => h) (Or.inl ⟨by rfl, ?_⟩) hHeld ?_
    rotate_left
    · intro w' hSw
      (try dsimp only at hSw)
      go_simp
      try with_reducible rfl
    try simp only [Act.put, List.setIfInBounds_toArray, List.set_cons_zero, List.set_cons_succ]
    refine wpAnyH_done (by kernel_rfl) ?_ _
    have HBe := Lib.hid (Box.below hHeld.1)
    clear hHeld
    go_wp2_with fail
    go_ret
    exact ⟨rfl, HBe.out⟩
set_option maxRecDepth 100000 in
set_option maxHeartbeats 6000000 in
theorem rdecl_80_n1 (t : ByteArray) (n m a : Int) (c : Nat) (w : World) (hH : Holds w w.heap.size Fo.nil none 0) (_hlc : 0 ≤ c) (hcc : c ≤ 1000000000000000) (ht : t.size ≤ 1000000000000000) (hm : m = 0 ∨ m = 1) (hid : idB t = true) (_hc0 : 0 < c) (hv : runB 73 (·.var) Fo.nil.inf = true) :
    Calls Try.prog 60 #[.agg #[.int .i64 80, .string t, .int .i64 n, .int .i64 m, .int .i64 a, .slice none 0 c]] w fun e w' => e = .returned (.bool (funcD n Fo.nil.inf true)) ∧ Below w.heap.size w w' := by
  have hl : Fo.nil.len ≤ 1000000000000000 := by decide
  obtain ⟨y, hy⟩ : ∃ y, funcD n Fo.nil.inf true = y := ⟨_, rfl⟩
  rw [hy]
  unfold funcD at hy
  have KI := Lib.hid (fun W => isname_ref t W ht)
  rw [hid] at KI
  have KRun := Lib.hid (fun W (hW : Below w.heap.size w W) => run_any Fo.nil 73 0 none c W ((hH.below hW).more hW.size) (Nat.zero_le _) hl)
  rw [List.drop_zero] at KRun
  have KV := Lib.hid (fun W (hW : Below w.heap.size w W) => vars_any Fo.nil (runN 73 Fo.nil.inf : Nat) none c W ((hH.below hW).more hW.size) hl)
  rw [func_vars, hv] at KV
  rw [hv] at hy
  rw [Bool.true_and] at hy
  rw [show runN 73 Fo.nil.inf = 0 from rfl] at hy KV KRun
  rw [List.drop_zero] at hy
  simp only [show Fo.nil.len = 0 from rfl] at KV KRun
  have KF : Hid (∀ (A' : Option Addr) (c' : Nat) {W : World}, Below w.heap.size w W → 0 ≤ c' → c' ≤ 1000000000000000 → Calls Try.prog 51 #[.slice A' 0 c', .int .i64 n] W fun e w' => e = .returned (.bool y) ∧ Below W.heap.size W w') := Lib.hid (fun A' c' W hW h1 h2 => by
    have h3 := rfunc_any .nil trivial n A' c' W trivial (Nat.zero_le _) h2
    rw [hy] at h3
    exact h3)
  have HY : Hid (y = y) := Lib.hid rfl
  clear hH hy hv hid hl
  have tm : (m != 0) = false ∨ (m != 0) = true ∧ (m != 1) = false := by rcases hm with rfl | rfl <;> simp
  clear hm
  rcases tm with t0 | ⟨t0, t1m⟩
  all_goals
    have MK := Lib.hid (show ∀ w', Box w w.heap.size 80 t n m a 0 none c w' → (fun w' => Box w w.heap.size 80 t n m a 0 none c w' ∧ w'.cell? ⟨w.heap.size, 2, none⟩ = some (.int .i64 n)) w' from fun w' h => ⟨h, h.c2⟩)
    go_enter Try.func60, Try.ntmps60
    go_wp2_with (first
      | (go_at_call 39; refine (KI.out _).mono ?_; rintro e w1 ⟨rfl, hb⟩; have bx := Box.later (by first | assumption | exact Box.new _ _ _ _ _ _ _ _ _) hb; have bx2 := bx; obtain ⟨-, -, c0, c1, c2, c3, c4, c5⟩ := bx2)
      | (go_at_call 82; refine (KRun.out _ (Box.below (by assumption))).mono ?_; rintro e w1 ⟨rfl, rfl⟩))
    clear c1 c2 c3 c4 c5
    refine wp_region_held_drew (S := (fun w' => Box w w.heap.size 80 t n m a 0 none c w' ∧ w'.cell? ⟨w.heap.size, 2, none⟩ = some (.int .i64 n))) (by kernel_rfl) (MK.out _ (Box.draw (by assumption))) (fun hHeld => ?_)
    refine wpAnyH_take (i := 0) (v := ?_) (show _ = some { dst := some 60, op := _, type := _, pos := _, after := _, guard := _ } from rfl) (by kernel_rfl) (by kernel_rfl) (by kernel_rfl) (fun _ _ _ h => h) (Or.inl ⟨by rfl, ?_⟩) hHeld ?_
    rotate_left
    · intro w' hSw
      (try dsimp only at hSw)
      go_simp
      try with_reducible rfl
    try simp only [Act.put, List.setIfInBounds_toArray, List.set_cons_zero, List.set_cons_succ]
    refine wpAnyH_take (i := 1) (v := ?_) (show _ = some { dst := some 61, op := _, type := _, pos := _, after := _, guard := _ } from rfl) (by kernel_rfl) (by kernel_rfl) (by kernel_rfl) (fun _ _ _ h => h) (Or.inl ⟨by rfl, ?_⟩) hHeld ?_
    rotate_left
    · intro w' hSw
      (try dsimp only at hSw)
      go_simp
      try with_reducible rfl
    try simp only [Act.put, List.setIfInBounds_toArray, List.set_cons_zero, List.set_cons_succ]
    refine wpAnyH_ready (rs := [2]) (by kernel_rfl) (by simp) ?_
    refine AllReadyH.cons (show _ = some { dst := some 62, op := _, type := _, pos := _, after := _, guard := _ } from rfl) (fun K hK => ?_) AllReadyH.nil
    go_simp
    refine (KV.out _ (Box.below hHeld.1)).mono ?_
    rintro e w5 ⟨rfl, hbel⟩
    go_wp2_with fail
    refine hK.out _ _ (MK.out _ (Box.later hHeld.1 hbel)) (fun hHeld => ?_)
    clear hK K
    try simp only [Act.put, List.setIfInBounds_toArray, List.set_cons_zero, List.set_cons_succ]
    refine wpAnyH_take (i := 3) (v := ?_) (show _ = some { dst := some 63, op := _, type := _, pos := _, after := _, guard := _ } from rfl) (by kernel_rfl) (by kernel_rfl) (by kernel_rfl) (fun _ _ _ h => h) (Or.inl ⟨by rfl, ?_⟩) hHeld ?_
    rotate_left
    · intro w' hSw
      (try dsimp only at hSw)
      go_simp
      try with_reducible rfl
    try simp only [Act.put, List.setIfInBounds_toArray, List.set_cons_zero, List.set_cons_succ]
    refine wpAnyH_take (i := 4) (v := ?_) (show _ = some { dst := some 64, op := _, type := _, pos := _, after := _, guard := _ } from rfl) (by kernel_rfl) (by kernel_rfl) (by kernel_rfl) (fun _ _ _ h => h) (Or.inl ⟨by rfl, ?_⟩) hHeld ?_
    rotate_left
    · intro w' hSw
      (try dsimp only at hSw)
      go_simp
      try with_reducible rfl
    try simp only [Act.put, List.setIfInBounds_toArray, List.set_cons_zero, List.set_cons_succ]
    refine wpAnyH_take (i := 5) (v := ?_) (show _ = some { dst := some 65, op := _, type := _, pos := _, after := _, guard := _ } from rfl) (by kernel_rfl) (by kernel_rfl) (by kernel_rfl) (fun _ _ _ h => h) (Or.inl ⟨by rfl, ?_⟩) hHeld ?_
    rotate_left
    · intro w' hSw
      (try dsimp only at hSw)
      go_simp
      try with_reducible rfl
    try simp only [Act.put, List.setIfInBounds_toArray, List.set_cons_zero, List.set_cons_succ]
    refine wpAnyH_take (i := 6) (v := ?_) (show _ = some { dst := some 66, op := _, type := _, pos := _, after := _, guard := _ } from rfl) (by kernel_rfl) (by kernel_rfl) (by kernel_rfl) (fun _ _ _ h => h) (Or.inl ⟨by rfl, ?_⟩) hHeld ?_
    rotate_left
    · intro w' hSw
      (try dsimp only at hSw)
      go_simp
      try with_reducible rfl
    try simp only [Act.put, List.setIfInBounds_toArray, List.set_cons_zero, List.set_cons_succ]
    refine wpAnyH_take (i := 7) (v := ?_) (show _ = some { dst := some 67, op := _, type := _, pos := _, after := _, guard := _ } from rfl) (by kernel_rfl) (by kernel_rfl) (by kernel_rfl) (fun _ _ _ h => h) (Or.inl ⟨by rfl, ?_⟩) hHeld ?_
    rotate_left
    · intro w' hSw
      (try dsimp only at hSw)
      go_simp
      try with_reducible rfl
    try simp only [Act.put, List.setIfInBounds_toArray, List.set_cons_zero, List.set_cons_succ]
    refine wpAnyH_take (i := 8) (v := ?_) (show _ = some { dst := some 68, op := _, type := _, pos := _, after := _, guard := _ } from rfl) (by kernel_rfl) (by kernel_rfl) (by kernel_rfl) (fun _ _ _ h => h) (Or.inl ⟨by rfl, ?_⟩) hHeld ?_
    rotate_left
    · intro w' hSw
      (try dsimp only at hSw)
      go_simp
      try with_reducible rfl
    try simp only [Act.put, List.setIfInBounds_toArray, List.set_cons_zero, List.set_cons_succ]
    refine wpAnyH_ready (rs := [9]) (by kernel_rfl) (by simp) ?_
    refine AllReadyH.cons (show _ = some { dst := some 69, op := _, type := _, pos := _, after := _, guard := _ } from rfl) (fun K hK => ?_) AllReadyH.nil
    go_simp
    refine (KF.out _ _ ?_ ?_ ?_).mono ?_
    · exact Box.below hHeld.1
    · omega
    · omega
    rintro e w6 ⟨rfl, hbel⟩
    go_wp2_with fail
    refine hK.out _ _ (MK.out _ (Box.later hHeld.1 hbel)) (fun hHeld => ?_)
    clear hK K
    try simp only [Act.put, List.setIfInBounds_toArray, List.set_cons_zero, List.set_cons_succ]
    refine wpAnyH_take (i := 10) (v := ?_) (show _ = some { dst := some 70, op := _, type := _, pos := _, after := _, guard := _ } from rfl) (by kernel_rfl) (by kernel_rfl) (by kernel_rfl) (fun _ _ _ h => h) (Or.inl ⟨by rfl, ?_⟩) hHeld ?_
    rotate_left
    · intro w' hSw
      (try dsimp only at hSw)
      go_simp
      try with_reducible rfl
    try simp only [Act.put, List.setIfInBounds_toArray, List.set_cons_zero, List.set_cons_succ]
    refine wpAnyH_take (i := 11) (v := ?_) (show _ = some { dst := some 2, op := _, type := _, pos := _, after := _, guard := _ } from rfl) (by kernel_rfl) (by kernel_rfl) (by kernel_rfl) (fun _ _ _ h => h) (Or.inl ⟨by rfl, ?_⟩) hHeld ?_
    rotate_left
    · intro w' hSw
      (try dsimp only at hSw)
      go_simp
      try with_reducible rfl
    try simp only [Act.put, List.setIfInBounds_toArray, List.set_cons_zero, List.set_cons_succ]
    refine wpAnyH_done (by kernel_rfl) ?_ _
    have HBe := Lib.hid (Box.below hHeld.1)
    clear hHeld
    go_wp2_with fail
    go_ret
    exact ⟨rfl, HBe.out⟩
set_option maxRecDepth 100000 in
set_option maxHeartbeats 6000000 in
theorem rdecl_80_s1 (t : ByteArray) (n m a : Int) (ad : Addr) (c : Nat) (w : World) (hH : Holds w w.heap.size Fo.nil (some ad) 0) (_hlc : 0 ≤ c) (hcc : c ≤ 1000000000000000) (ht : t.size ≤ 1000000000000000) (hm : m = 0 ∨ m = 1) (hid : idB t = true) (_hc0 : 0 < c) (hv : runB 73 (·.var) Fo.nil.inf = true) :
    Calls Try.prog 60 #[.agg #[.int .i64 80, .string t, .int .i64 n, .int .i64 m, .int .i64 a, .slice (some ad) 0 c]] w fun e w' => e = .returned (.bool (funcD n Fo.nil.inf true)) ∧ Below w.heap.size w w' := by
  have hl : Fo.nil.len ≤ 1000000000000000 := by decide
  obtain ⟨y, hy⟩ : ∃ y, funcD n Fo.nil.inf true = y := ⟨_, rfl⟩
  rw [hy]
  unfold funcD at hy
  have KI := Lib.hid (fun W => isname_ref t W ht)
  rw [hid] at KI
  have KRun := Lib.hid (fun W (hW : Below w.heap.size w W) => run_any Fo.nil 73 0 (some ad) c W ((hH.below hW).more hW.size) (Nat.zero_le _) hl)
  rw [List.drop_zero] at KRun
  have KV := Lib.hid (fun W (hW : Below w.heap.size w W) => vars_any Fo.nil (runN 73 Fo.nil.inf : Nat) (some ad) c W ((hH.below hW).more hW.size) hl)
  rw [func_vars, hv] at KV
  rw [hv] at hy
  rw [Bool.true_and] at hy
  rw [show runN 73 Fo.nil.inf = 0 from rfl] at hy KV KRun
  rw [List.drop_zero] at hy
  simp only [show Fo.nil.len = 0 from rfl] at KV KRun
  have KF : Hid (∀ (A' : Option Addr) (c' : Nat) {W : World}, Below w.heap.size w W → 0 ≤ c' → c' ≤ 1000000000000000 → Calls Try.prog 51 #[.slice A' 0 c', .int .i64 n] W fun e w' => e = .returned (.bool y) ∧ Below W.heap.size W w') := Lib.hid (fun A' c' W hW h1 h2 => by
    have h3 := rfunc_any .nil trivial n A' c' W trivial (Nat.zero_le _) h2
    rw [hy] at h3
    exact h3)
  have HY : Hid (y = y) := Lib.hid rfl
  clear hH hy hv hid hl
  have tm : (m != 0) = false ∨ (m != 0) = true ∧ (m != 1) = false := by rcases hm with rfl | rfl <;> simp
  clear hm
  rcases tm with t0 | ⟨t0, t1m⟩
  all_goals
    have MK := Lib.hid (show ∀ w', Box w w.heap.size 80 t n m a 0 (some ad) c w' → (fun w' => Box w w.heap.size 80 t n m a 0 (some ad) c w' ∧ w'.cell? ⟨w.heap.size, 2, none⟩ = some (.int .i64 n)) w' from fun w' h => ⟨h, h.c2⟩)
    go_enter Try.func60, Try.ntmps60
    go_wp2_with (first
      | (go_at_call 39; refine (KI.out _).mono ?_; rintro e w1 ⟨rfl, hb⟩; have bx := Box.later (by first | assumption | exact Box.new _ _ _ _ _ _ _ _ _) hb; have bx2 := bx; obtain ⟨-, -, c0, c1, c2, c3, c4, c5⟩ := bx2)
      | (go_at_call 82; refine (KRun.out _ (Box.below (by assumption))).mono ?_; rintro e w1 ⟨rfl, rfl⟩))
    clear c1 c2 c3 c4 c5
    refine wp_region_held_drew (S := (fun w' => Box w w.heap.size 80 t n m a 0 (some ad) c w' ∧ w'.cell? ⟨w.heap.size, 2, none⟩ = some (.int .i64 n))) (by kernel_rfl) (MK.out _ (Box.draw (by assumption))) (fun hHeld => ?_)
    refine wpAnyH_take (i := 0) (v := ?_) (show _ = some { dst := some 60, op := _, type := _, pos := _, after := _, guard := _ } from rfl) (by kernel_rfl) (by kernel_rfl) (by kernel_rfl) (fun _ _ _ h => h) (Or.inl ⟨by rfl, ?_⟩) hHeld ?_
    rotate_left
    · intro w' hSw
      (try dsimp only at hSw)
      go_simp
      try with_reducible rfl
    try simp only [Act.put, List.setIfInBounds_toArray, List.set_cons_zero, List.set_cons_succ]
    refine wpAnyH_take (i := 1) (v := ?_) (show _ = some { dst := some 61, op := _, type := _, pos := _, after := _, guard := _ } from rfl) (by kernel_rfl) (by kernel_rfl) (by kernel_rfl) (fun _ _ _ h => h) (Or.inl ⟨by rfl, ?_⟩) hHeld ?_
    rotate_left
    · intro w' hSw
      (try dsimp only at hSw)
      go_simp
      try with_reducible rfl
    try simp only [Act.put, List.setIfInBounds_toArray, List.set_cons_zero, List.set_cons_succ]
    refine wpAnyH_ready (rs := [2]) (by kernel_rfl) (by simp) ?_
    refine AllReadyH.cons (show _ = some { dst := some 62, op := _, type := _, pos := _, after := _, guard := _ } from rfl) (fun K hK => ?_) AllReadyH.nil
    go_simp
    refine (KV.out _ (Box.below hHeld.1)).mono ?_
    rintro e w5 ⟨rfl, hbel⟩
    go_wp2_with fail
    refine hK.out _ _ (MK.out _ (Box.later hHeld.1 hbel)) (fun hHeld => ?_)
    clear hK K
    try simp only [Act.put, List.setIfInBounds_toArray, List.set_cons_zero, List.set_cons_succ]
    refine wpAnyH_take (i := 3) (v := ?_) (show _ = some { dst := some 63, op := _, type := _, pos := _, after := _, guard := _ } from rfl) (by kernel_rfl) (by kernel_rfl) (by kernel_rfl) (fun _ _ _ h => h) (Or.inl ⟨by rfl, ?_⟩) hHeld ?_
    rotate_left
    · intro w' hSw
      (try dsimp only at hSw)
      go_simp
      try with_reducible rfl
    try simp only [Act.put, List.setIfInBounds_toArray, List.set_cons_zero, List.set_cons_succ]
    refine wpAnyH_take (i := 4) (v := ?_) (show _ = some { dst := some 64, op := _, type := _, pos := _, after := _, guard := _ } from rfl) (by kernel_rfl) (by kernel_rfl) (by kernel_rfl) (fun _ _ _ h => h) (Or.inl ⟨by rfl, ?_⟩) hHeld ?_
    rotate_left
    · intro w' hSw
      (try dsimp only at hSw)
      go_simp
      try with_reducible rfl
    try simp only [Act.put, List.setIfInBounds_toArray, List.set_cons_zero, List.set_cons_succ]
    refine wpAnyH_take (i := 5) (v := ?_) (show _ = some { dst := some 65, op := _, type := _, pos := _, after := _, guard := _ } from rfl) (by kernel_rfl) (by kernel_rfl) (by kernel_rfl) (fun _ _ _ h => h) (Or.inl ⟨by rfl, ?_⟩) hHeld ?_
    rotate_left
    · intro w' hSw
      (try dsimp only at hSw)
      go_simp
      try with_reducible rfl
    try simp only [Act.put, List.setIfInBounds_toArray, List.set_cons_zero, List.set_cons_succ]
    refine wpAnyH_take (i := 6) (v := ?_) (show _ = some { dst := some 66, op := _, type := _, pos := _, after := _, guard := _ } from rfl) (by kernel_rfl) (by kernel_rfl) (by kernel_rfl) (fun _ _ _ h => h) (Or.inl ⟨by rfl, ?_⟩) hHeld ?_
    rotate_left
    · intro w' hSw
      (try dsimp only at hSw)
      go_simp
      try with_reducible rfl
    try simp only [Act.put, List.setIfInBounds_toArray, List.set_cons_zero, List.set_cons_succ]
    refine wpAnyH_take (i := 7) (v := ?_) (show _ = some { dst := some 67, op := _, type := _, pos := _, after := _, guard := _ } from rfl) (by kernel_rfl) (by kernel_rfl) (by kernel_rfl) (fun _ _ _ h => h) (Or.inl ⟨by rfl, ?_⟩) hHeld ?_
    rotate_left
    · intro w' hSw
      (try dsimp only at hSw)
      go_simp
      try with_reducible rfl
    try simp only [Act.put, List.setIfInBounds_toArray, List.set_cons_zero, List.set_cons_succ]
    refine wpAnyH_take (i := 8) (v := ?_) (show _ = some { dst := some 68, op := _, type := _, pos := _, after := _, guard := _ } from rfl) (by kernel_rfl) (by kernel_rfl) (by kernel_rfl) (fun _ _ _ h => h) (Or.inl ⟨by rfl, ?_⟩) hHeld ?_
    rotate_left
    · intro w' hSw
      (try dsimp only at hSw)
      go_simp
      try with_reducible rfl
    try simp only [Act.put, List.setIfInBounds_toArray, List.set_cons_zero, List.set_cons_succ]
    refine wpAnyH_ready (rs := [9]) (by kernel_rfl) (by simp) ?_
    refine AllReadyH.cons (show _ = some { dst := some 69, op := _, type := _, pos := _, after := _, guard := _ } from rfl) (fun K hK => ?_) AllReadyH.nil
    go_simp
    refine (KF.out _ _ ?_ ?_ ?_).mono ?_
    · exact Box.below hHeld.1
    · omega
    · omega
    rintro e w6 ⟨rfl, hbel⟩
    go_wp2_with fail
    refine hK.out _ _ (MK.out _ (Box.later hHeld.1 hbel)) (fun hHeld => ?_)
    clear hK K
    try simp only [Act.put, List.setIfInBounds_toArray, List.set_cons_zero, List.set_cons_succ]
    refine wpAnyH_take (i := 10) (v := ?_) (show _ = some { dst := some 70, op := _, type := _, pos := _, after := _, guard := _ } from rfl) (by kernel_rfl) (by kernel_rfl) (by kernel_rfl) (fun _ _ _ h => h) (Or.inl ⟨by rfl, ?_⟩) hHeld ?_
    rotate_left
    · intro w' hSw
      (try dsimp only at hSw)
      go_simp
      try with_reducible rfl
    try simp only [Act.put, List.setIfInBounds_toArray, List.set_cons_zero, List.set_cons_succ]
    refine wpAnyH_take (i := 11) (v := ?_) (show _ = some { dst := some 2, op := _, type := _, pos := _, after := _, guard := _ } from rfl) (by kernel_rfl) (by kernel_rfl) (by kernel_rfl) (fun _ _ _ h => h) (Or.inl ⟨by rfl, ?_⟩) hHeld ?_
    rotate_left
    · intro w' hSw
      (try dsimp only at hSw)
      go_simp
      try with_reducible rfl
    try simp only [Act.put, List.setIfInBounds_toArray, List.set_cons_zero, List.set_cons_succ]
    refine wpAnyH_done (by kernel_rfl) ?_ _
    have HBe := Lib.hid (Box.below hHeld.1)
    clear hHeld
    go_wp2_with fail
    go_ret
    exact ⟨rfl, HBe.out⟩
set_option maxRecDepth 100000 in
set_option maxHeartbeats 6000000 in
theorem rdecl_80_c (P : Fo) (t : ByteArray) (n m a : Int) (ad : Addr) (c : Nat) (w : World) (hH : Holds w w.heap.size P (some ad) 0) (hlc : P.len ≤ c) (hcc : c ≤ 1000000000000000) (ht : t.size ≤ 1000000000000000) (hm : m = 0 ∨ m = 1) (hid : idB t = true) (r : Nat) (hr0 : runN 73 P.inf = r) (hcr : c = r) (_h0 : 0 < P.len) (hv : runB 73 (·.var) P.inf = true) :
    Calls Try.prog 60 #[.agg #[.int .i64 80, .string t, .int .i64 n, .int .i64 m, .int .i64 a, .slice (some ad) P.len c]] w fun e w' => e = .returned (.bool (funcD n P.inf true)) ∧ Below w.heap.size w w' := by
  have hl : P.len ≤ 1000000000000000 := by omega
  obtain ⟨y, hy⟩ : ∃ y, funcD n P.inf true = y := ⟨_, rfl⟩
  rw [hy]
  unfold funcD at hy
  have KI := Lib.hid (fun W => isname_ref t W ht)
  rw [hid] at KI
  have KRun := Lib.hid (fun W (hW : Below w.heap.size w W) => run_any P 73 0 (some ad) c W ((hH.below hW).more hW.size) (Nat.zero_le _) hl)
  rw [List.drop_zero] at KRun
  have KV := Lib.hid (fun W (hW : Below w.heap.size w W) => vars_any P (runN 73 P.inf : Nat) (some ad) c W ((hH.below hW).more hW.size) hl)
  rw [func_vars, hv] at KV
  rw [hv] at hy
  rw [Bool.true_and] at hy
  have hr : r ≤ P.len := by have := runN_le 73 P.inf; rw [inf_len] at this; omega
  have hT : Holds w w.heap.size (P.drop r) (some ad) 0 := hH.tail r (.inr ⟨by omega, rfl⟩)
  rw [hr0] at hy KV KRun
  have KF : Hid (∀ (A' : Option Addr) (c' : Nat) {W : World}, Below w.heap.size w W → A' = (some ad) → 0 ≤ c' ∧ c' ≤ 1000000000000000 → Calls Try.prog 51 #[.slice A' 0 c', .int .i64 n] W fun e w' => e = .returned (.bool y) ∧ Below W.heap.size W w') := Lib.hid (fun A' c' W hW hA h2 => by
    subst hA
    have h3 := rfunc_any (P.drop r) (allrB _) n (some ad) c' W ((hT.below hW).more hW.size) (by rw [drop_len]; omega) h2.2
    rw [drop_len, drop_inf, hy, show P.len - r = 0 by omega] at h3
    exact h3)
  clear hH hy hv hr0 hT hid hl
  subst hcr
  have hPc : P.len = c := by omega
  rw [hPc] at KV KRun ⊢
  clear hPc hr hlc
  have tm : (m != 0) = false ∨ (m != 0) = true ∧ (m != 1) = false := by rcases hm with rfl | rfl <;> simp
  clear hm
  rcases tm with t0 | ⟨t0, t1m⟩
  all_goals
    have MK := Lib.hid (show ∀ w', Box w w.heap.size 80 t n m a c (some ad) c w' → (fun w' => Box w w.heap.size 80 t n m a c (some ad) c w' ∧ w'.cell? ⟨w.heap.size, 2, none⟩ = some (.int .i64 n)) w' from fun w' h => ⟨h, h.c2⟩)
    go_enter Try.func60, Try.ntmps60
    go_wp2_with (first
      | (go_at_call 39; refine (KI.out _).mono ?_; rintro e w1 ⟨rfl, hb⟩; have bx := Box.later (by first | assumption | exact Box.new _ _ _ _ _ _ _ _ _) hb; have bx2 := bx; obtain ⟨-, -, c0, c1, c2, c3, c4, c5⟩ := bx2)
      | (go_at_call 82; refine (KRun.out _ (Box.below (by assumption))).mono ?_; rintro e w1 ⟨rfl, rfl⟩))
    clear c1 c2 c3 c4 c5
    refine wp_region_held_drew (S := (fun w' => Box w w.heap.size 80 t n m a c (some ad) c w' ∧ w'.cell? ⟨w.heap.size, 2, none⟩ = some (.int .i64 n))) (by kernel_rfl) (MK.out _ (Box.draw (by assumption))) (fun hHeld => ?_)
    refine wpAnyH_take (i := 0) (v := ?_) (show _ = some { dst := some 60, op := _, type := _, pos := _, after := _, guard := _ } from rfl) (by kernel_rfl) (by kernel_rfl) (by kernel_rfl) (fun _ _ _ h => h) (Or.inl ⟨by rfl, ?_⟩) hHeld ?_
    rotate_left
    · intro w' hSw
      (try dsimp only at hSw)
      go_simp
      try with_reducible rfl
    try simp only [Act.put, List.setIfInBounds_toArray, List.set_cons_zero, List.set_cons_succ]
    refine wpAnyH_take (i := 1) (v := ?_) (show _ = some { dst := some 61, op := _, type := _, pos := _, after := _, guard := _ } from rfl) (by kernel_rfl) (by kernel_rfl) (by kernel_rfl) (fun _ _ _ h => h) (Or.inl ⟨by rfl, ?_⟩) hHeld ?_
    rotate_left
    · intro w' hSw
      (try dsimp only at hSw)
      go_simp
      try with_reducible rfl
    try simp only [Act.put, List.setIfInBounds_toArray, List.set_cons_zero, List.set_cons_succ]
    refine wpAnyH_ready (rs := [2]) (by kernel_rfl) (by simp) ?_
    refine AllReadyH.cons (show _ = some { dst := some 62, op := _, type := _, pos := _, after := _, guard := _ } from rfl) (fun K hK => ?_) AllReadyH.nil
    go_simp
    refine (KV.out _ (Box.below hHeld.1)).mono ?_
    rintro e w5 ⟨rfl, hbel⟩
    go_wp2_with fail
    refine hK.out _ _ (MK.out _ (Box.later hHeld.1 hbel)) (fun hHeld => ?_)
    clear hK K
    try simp only [Act.put, List.setIfInBounds_toArray, List.set_cons_zero, List.set_cons_succ]
    refine wpAnyH_take (i := 3) (v := ?_) (show _ = some { dst := some 63, op := _, type := _, pos := _, after := _, guard := _ } from rfl) (by kernel_rfl) (by kernel_rfl) (by kernel_rfl) (fun _ _ _ h => h) (Or.inl ⟨by rfl, ?_⟩) hHeld ?_
    rotate_left
    · intro w' hSw
      (try dsimp only at hSw)
      go_simp
      try with_reducible rfl
    try simp only [Act.put, List.setIfInBounds_toArray, List.set_cons_zero, List.set_cons_succ]
    refine wpAnyH_take (i := 4) (v := ?_) (show _ = some { dst := some 64, op := _, type := _, pos := _, after := _, guard := _ } from rfl) (by kernel_rfl) (by kernel_rfl) (by kernel_rfl) (fun _ _ _ h => h) (Or.inl ⟨by rfl, ?_⟩) hHeld ?_
    rotate_left
    · intro w' hSw
      (try dsimp only at hSw)
      go_simp
      try with_reducible rfl
    try simp only [Act.put, List.setIfInBounds_toArray, List.set_cons_zero, List.set_cons_succ]
    refine wpAnyH_take (i := 5) (v := ?_) (show _ = some { dst := some 65, op := _, type := _, pos := _, after := _, guard := _ } from rfl) (by kernel_rfl) (by kernel_rfl) (by kernel_rfl) (fun _ _ _ h => h) (Or.inl ⟨by rfl, ?_⟩) hHeld ?_
    rotate_left
    · intro w' hSw
      (try dsimp only at hSw)
      go_simp
      try with_reducible rfl
    try simp only [Act.put, List.setIfInBounds_toArray, List.set_cons_zero, List.set_cons_succ]
    refine wpAnyH_take (i := 6) (v := ?_) (show _ = some { dst := some 66, op := _, type := _, pos := _, after := _, guard := _ } from rfl) (by kernel_rfl) (by kernel_rfl) (by kernel_rfl) (fun _ _ _ h => h) (Or.inl ⟨by rfl, ?_⟩) hHeld ?_
    rotate_left
    · intro w' hSw
      (try dsimp only at hSw)
      go_simp
      try with_reducible rfl
    try simp only [Act.put, List.setIfInBounds_toArray, List.set_cons_zero, List.set_cons_succ]
    refine wpAnyH_take (i := 7) (v := ?_) (show _ = some { dst := some 67, op := _, type := _, pos := _, after := _, guard := _ } from rfl) (by kernel_rfl) (by kernel_rfl) (by kernel_rfl) (fun _ _ _ h => h) (Or.inl ⟨by rfl, ?_⟩) hHeld ?_
    rotate_left
    · intro w' hSw
      (try dsimp only at hSw)
      go_simp
      try with_reducible rfl
    try simp only [Act.put, List.setIfInBounds_toArray, List.set_cons_zero, List.set_cons_succ]
    refine wpAnyH_take (i := 8) (v := ?_) (show _ = some { dst := some 68, op := _, type := _, pos := _, after := _, guard := _ } from rfl) (by kernel_rfl) (by kernel_rfl) (by kernel_rfl) (fun _ _ _ h => h) (Or.inl ⟨by rfl, ?_⟩) hHeld ?_
    rotate_left
    · intro w' hSw
      (try dsimp only at hSw)
      go_simp
      try with_reducible rfl
    try simp only [Act.put, List.setIfInBounds_toArray, List.set_cons_zero, List.set_cons_succ]
    refine wpAnyH_ready (rs := [9]) (by kernel_rfl) (by simp) ?_
    refine AllReadyH.cons (show _ = some { dst := some 69, op := _, type := _, pos := _, after := _, guard := _ } from rfl) (fun K hK => ?_) AllReadyH.nil
    go_simp
    refine (KF.out _ _ ?_ ?_ ?_).mono ?_
    · exact Box.below hHeld.1
    · first | rfl | (simp; done)
    · omega
    rintro e w6 ⟨rfl, hbel⟩
    go_wp2_with fail
    refine hK.out _ _ (MK.out _ (Box.later hHeld.1 hbel)) (fun hHeld => ?_)
    clear hK K
    try simp only [Act.put, List.setIfInBounds_toArray, List.set_cons_zero, List.set_cons_succ]
    refine wpAnyH_take (i := 10) (v := ?_) (show _ = some { dst := some 70, op := _, type := _, pos := _, after := _, guard := _ } from rfl) (by kernel_rfl) (by kernel_rfl) (by kernel_rfl) (fun _ _ _ h => h) (Or.inl ⟨by rfl, ?_⟩) hHeld ?_
    rotate_left
    · intro w' hSw
      (try dsimp only at hSw)
      go_simp
      try with_reducible rfl
    try simp only [Act.put, List.setIfInBounds_toArray, List.set_cons_zero, List.set_cons_succ]
    refine wpAnyH_take (i := 11) (v := ?_) (show _ = some { dst := some 2, op := _, type := _, pos := _, after := _, guard := _ } from rfl) (by kernel_rfl) (by kernel_rfl) (by kernel_rfl) (fun _ _ _ h => h) (Or.inl ⟨by rfl, ?_⟩) hHeld ?_
    rotate_left
    · intro w' hSw
      (try dsimp only at hSw)
      go_simp
      try with_reducible rfl
    try simp only [Act.put, List.setIfInBounds_toArray, List.set_cons_zero, List.set_cons_succ]
    refine wpAnyH_done (by kernel_rfl) ?_ _
    have HBe := Lib.hid (Box.below hHeld.1)
    clear hHeld
    go_wp2_with fail
    go_ret
    exact ⟨rfl, HBe.out⟩
set_option maxRecDepth 100000 in
set_option maxHeartbeats 6000000 in
theorem rdecl_80_l (P : Fo) (t : ByteArray) (n m a : Int) (ad : Addr) (c : Nat) (w : World) (hH : Holds w w.heap.size P (some ad) 0) (hlc : P.len ≤ c) (hcc : c ≤ 1000000000000000) (ht : t.size ≤ 1000000000000000) (hm : m = 0 ∨ m = 1) (hid : idB t = true) (r : Nat) (hr0 : runN 73 P.inf = r) (hcr : r < c) (h0 : 0 < P.len) (hv : runB 73 (·.var) P.inf = true) :
    Calls Try.prog 60 #[.agg #[.int .i64 80, .string t, .int .i64 n, .int .i64 m, .int .i64 a, .slice (some ad) P.len c]] w fun e w' => e = .returned (.bool (funcD n P.inf true)) ∧ Below w.heap.size w w' := by
  have hl : P.len ≤ 1000000000000000 := by omega
  obtain ⟨y, hy⟩ : ∃ y, funcD n P.inf true = y := ⟨_, rfl⟩
  rw [hy]
  unfold funcD at hy
  have KI := Lib.hid (fun W => isname_ref t W ht)
  rw [hid] at KI
  have KRun := Lib.hid (fun W (hW : Below w.heap.size w W) => run_any P 73 0 (some ad) c W ((hH.below hW).more hW.size) (Nat.zero_le _) hl)
  rw [List.drop_zero] at KRun
  have KV := Lib.hid (fun W (hW : Below w.heap.size w W) => vars_any P (runN 73 P.inf : Nat) (some ad) c W ((hH.below hW).more hW.size) hl)
  rw [func_vars, hv] at KV
  rw [hv] at hy
  rw [Bool.true_and] at hy
  have hr : r ≤ P.len := by have := runN_le 73 P.inf; rw [inf_len] at this; omega
  have hT : Holds w w.heap.size (P.drop r) (some (ad.add (r * 6))) 0 := hH.tail r (.inl rfl)
  rw [hr0] at hy KV KRun
  have KF : Hid (∀ (A' : Option Addr) (c' : Nat) {W : World}, Below w.heap.size w W → A' = (some (ad.add (r * 6))) → P.len - r ≤ c' ∧ c' ≤ 1000000000000000 → Calls Try.prog 51 #[.slice A' (P.len - r) c', .int .i64 n] W fun e w' => e = .returned (.bool y) ∧ Below W.heap.size W w') := Lib.hid (fun A' c' W hW hA h2 => by
    subst hA
    have h3 := rfunc_any (P.drop r) (allrB _) n (some (ad.add (r * 6))) c' W ((hT.below hW).more hW.size) (by rw [drop_len]; exact h2.1) h2.2
    rw [drop_len, drop_inf, hy] at h3
    exact h3)
  clear hH hy hv hr0 hT hid hl
  have hne : ¬ c = r := by omega
  have tm : (m != 0) = false ∨ (m != 0) = true ∧ (m != 1) = false := by rcases hm with rfl | rfl <;> simp
  clear hm
  rcases tm with t0 | ⟨t0, t1m⟩
  all_goals
    have MK := Lib.hid (show ∀ w', Box w w.heap.size 80 t n m a P.len (some ad) c w' → (fun w' => Box w w.heap.size 80 t n m a P.len (some ad) c w' ∧ w'.cell? ⟨w.heap.size, 2, none⟩ = some (.int .i64 n)) w' from fun w' h => ⟨h, h.c2⟩)
    go_enter Try.func60, Try.ntmps60
    go_wp2_with (first
      | (go_at_call 39; refine (KI.out _).mono ?_; rintro e w1 ⟨rfl, hb⟩; have bx := Box.later (by first | assumption | exact Box.new _ _ _ _ _ _ _ _ _) hb; have bx2 := bx; obtain ⟨-, -, c0, c1, c2, c3, c4, c5⟩ := bx2)
      | (go_at_call 82; refine (KRun.out _ (Box.below (by assumption))).mono ?_; rintro e w1 ⟨rfl, rfl⟩))
    clear c1 c2 c3 c4 c5
    refine wp_region_held_drew (S := (fun w' => Box w w.heap.size 80 t n m a P.len (some ad) c w' ∧ w'.cell? ⟨w.heap.size, 2, none⟩ = some (.int .i64 n))) (by kernel_rfl) (MK.out _ (Box.draw (by assumption))) (fun hHeld => ?_)
    refine wpAnyH_take (i := 0) (v := ?_) (show _ = some { dst := some 60, op := _, type := _, pos := _, after := _, guard := _ } from rfl) (by kernel_rfl) (by kernel_rfl) (by kernel_rfl) (fun _ _ _ h => h) (Or.inl ⟨by rfl, ?_⟩) hHeld ?_
    rotate_left
    · intro w' hSw
      (try dsimp only at hSw)
      go_simp
      try with_reducible rfl
    try simp only [Act.put, List.setIfInBounds_toArray, List.set_cons_zero, List.set_cons_succ]
    refine wpAnyH_take (i := 1) (v := ?_) (show _ = some { dst := some 61, op := _, type := _, pos := _, after := _, guard := _ } from rfl) (by kernel_rfl) (by kernel_rfl) (by kernel_rfl) (fun _ _ _ h => h) (Or.inl ⟨by rfl, ?_⟩) hHeld ?_
    rotate_left
    · intro w' hSw
      (try dsimp only at hSw)
      go_simp
      try with_reducible rfl
    try simp only [Act.put, List.setIfInBounds_toArray, List.set_cons_zero, List.set_cons_succ]
    refine wpAnyH_ready (rs := [2]) (by kernel_rfl) (by simp) ?_
    refine AllReadyH.cons (show _ = some { dst := some 62, op := _, type := _, pos := _, after := _, guard := _ } from rfl) (fun K hK => ?_) AllReadyH.nil
    go_simp
    refine (KV.out _ (Box.below hHeld.1)).mono ?_
    rintro e w5 ⟨rfl, hbel⟩
    go_wp2_with fail
    refine hK.out _ _ (MK.out _ (Box.later hHeld.1 hbel)) (fun hHeld => ?_)
    clear hK K
    try simp only [Act.put, List.setIfInBounds_toArray, List.set_cons_zero, List.set_cons_succ]
    refine wpAnyH_take (i := 3) (v := ?_) (show _ = some { dst := some 63, op := _, type := _, pos := _, after := _, guard := _ } from rfl) (by kernel_rfl) (by kernel_rfl) (by kernel_rfl) (fun _ _ _ h => h) (Or.inl ⟨by rfl, ?_⟩) hHeld ?_
    rotate_left
    · intro w' hSw
      (try dsimp only at hSw)
      go_simp
      try with_reducible rfl
    try simp only [Act.put, List.setIfInBounds_toArray, List.set_cons_zero, List.set_cons_succ]
    refine wpAnyH_take (i := 4) (v := ?_) (show _ = some { dst := some 64, op := _, type := _, pos := _, after := _, guard := _ } from rfl) (by kernel_rfl) (by kernel_rfl) (by kernel_rfl) (fun _ _ _ h => h) (Or.inl ⟨by rfl, ?_⟩) hHeld ?_
    rotate_left
    · intro w' hSw
      (try dsimp only at hSw)
      go_simp
      try with_reducible rfl
    try simp only [Act.put, List.setIfInBounds_toArray, List.set_cons_zero, List.set_cons_succ]
    refine wpAnyH_take (i := 5) (v := ?_) (show _ = some { dst := some 65, op := _, type := _, pos := _, after := _, guard := _ } from rfl) (by kernel_rfl) (by kernel_rfl) (by kernel_rfl) (fun _ _ _ h => h) (Or.inl ⟨by rfl, ?_⟩) hHeld ?_
    rotate_left
    · intro w' hSw
      (try dsimp only at hSw)
      go_simp
      try with_reducible rfl
    try simp only [Act.put, List.setIfInBounds_toArray, List.set_cons_zero, List.set_cons_succ]
    refine wpAnyH_take (i := 6) (v := ?_) (show _ = some { dst := some 66, op := _, type := _, pos := _, after := _, guard := _ } from rfl) (by kernel_rfl) (by kernel_rfl) (by kernel_rfl) (fun _ _ _ h => h) (Or.inl ⟨by rfl, ?_⟩) hHeld ?_
    rotate_left
    · intro w' hSw
      (try dsimp only at hSw)
      go_simp
      try with_reducible rfl
    try simp only [Act.put, List.setIfInBounds_toArray, List.set_cons_zero, List.set_cons_succ]
    refine wpAnyH_take (i := 7) (v := ?_) (show _ = some { dst := some 67, op := _, type := _, pos := _, after := _, guard := _ } from rfl) (by kernel_rfl) (by kernel_rfl) (by kernel_rfl) (fun _ _ _ h => h) (Or.inl ⟨by rfl, ?_⟩) hHeld ?_
    rotate_left
    · intro w' hSw
      (try dsimp only at hSw)
      go_simp
      try with_reducible rfl
    try simp only [Act.put, List.setIfInBounds_toArray, List.set_cons_zero, List.set_cons_succ]
    refine wpAnyH_take (i := 8) (v := ?_) (show _ = some { dst := some 68, op := _, type := _, pos := _, after := _, guard := _ } from rfl) (by kernel_rfl) (by kernel_rfl) (by kernel_rfl) (fun _ _ _ h => h) (Or.inl ⟨by rfl, ?_⟩) hHeld ?_
    rotate_left
    · intro w' hSw
      (try dsimp only at hSw)
      go_simp
      try with_reducible rfl
    try simp only [Act.put, List.setIfInBounds_toArray, List.set_cons_zero, List.set_cons_succ]
    refine wpAnyH_ready (rs := [9]) (by kernel_rfl) (by simp) ?_
    refine AllReadyH.cons (show _ = some { dst := some 69, op := _, type := _, pos := _, after := _, guard := _ } from rfl) (fun K hK => ?_) AllReadyH.nil
    go_simp
    refine (KF.out _ _ ?_ ?_ ?_).mono ?_
    · exact Box.below hHeld.1
    · first | rfl | (simp; done)
    · omega
    rintro e w6 ⟨rfl, hbel⟩
    go_wp2_with fail
    refine hK.out _ _ (MK.out _ (Box.later hHeld.1 hbel)) (fun hHeld => ?_)
    clear hK K
    try simp only [Act.put, List.setIfInBounds_toArray, List.set_cons_zero, List.set_cons_succ]
    refine wpAnyH_take (i := 10) (v := ?_) (show _ = some { dst := some 70, op := _, type := _, pos := _, after := _, guard := _ } from rfl) (by kernel_rfl) (by kernel_rfl) (by kernel_rfl) (fun _ _ _ h => h) (Or.inl ⟨by rfl, ?_⟩) hHeld ?_
    rotate_left
    · intro w' hSw
      (try dsimp only at hSw)
      go_simp
      try with_reducible rfl
    try simp only [Act.put, List.setIfInBounds_toArray, List.set_cons_zero, List.set_cons_succ]
    refine wpAnyH_take (i := 11) (v := ?_) (show _ = some { dst := some 2, op := _, type := _, pos := _, after := _, guard := _ } from rfl) (by kernel_rfl) (by kernel_rfl) (by kernel_rfl) (fun _ _ _ h => h) (Or.inl ⟨by rfl, ?_⟩) hHeld ?_
    rotate_left
    · intro w' hSw
      (try dsimp only at hSw)
      go_simp
      try with_reducible rfl
    try simp only [Act.put, List.setIfInBounds_toArray, List.set_cons_zero, List.set_cons_succ]
    refine wpAnyH_done (by kernel_rfl) ?_ _
    have HBe := Lib.hid (Box.below hHeld.1)
    clear hHeld
    go_wp2_with fail
    go_ret
    exact ⟨rfl, HBe.out⟩
set_option maxRecDepth 100000 in
set_option maxHeartbeats 6000000 in
theorem rdecl_80_any (P : Fo) (t : ByteArray) (n m a : Int) (A : Option Addr) (c : Nat) (w : World) (hH : Holds w w.heap.size P A 0) (hlc : P.len ≤ c) (hcc : c ≤ 1000000000000000) (ht : t.size ≤ 1000000000000000) (hm : m = 0 ∨ m = 1) (hid : idB t = true)  :
    Calls Try.prog 60 #[.agg #[.int .i64 80, .string t, .int .i64 n, .int .i64 m, .int .i64 a, .slice A P.len c]] w fun e w' => e = .returned (.bool (funcD n P.inf true)) ∧ Below w.heap.size w w' := by
  cases hv : runB 73 (·.var) P.inf with
  | false => exact rdecl_80_no P t n m a A c w hH hlc hcc ht hm hid hv
  | true =>
    rcases Nat.eq_zero_or_pos P.len with h0 | h0
    · have hP : P = .nil := by
        cases P with
        | nil => rfl
        | cons => simp [Fo.len] at h0
      subst hP
      clear h0
      simp only [show Fo.nil.len = 0 from rfl] at hlc ⊢
      rcases Nat.eq_zero_or_pos c with rfl | hc
      · cases A with
        | none => exact rdecl_80_n0 t n m a w hH hlc hcc ht hm hid hv
        | some ad => exact rdecl_80_s0 t n m a ad w hH hlc hcc ht hm hid hv
      · cases A with
        | none => exact rdecl_80_n1 t n m a c w hH hlc hcc ht hm hid hc hv
        | some ad => exact rdecl_80_s1 t n m a ad c w hH hlc hcc ht hm hid hc hv
    · obtain ⟨k9, t9, n9, m9, a9, Q9, ad, A9, d9, R9, rfl, -, -, -⟩ := part_at hH (j := 0) h0
      have hr : runN 73 P.inf ≤ P.len := by have := runN_le 73 P.inf; rwa [inf_len] at this
      by_cases hc : c = runN 73 P.inf
      · exact rdecl_80_c P t n m a ad c w hH hlc hcc ht hm hid _ rfl hc h0 hv
      · exact rdecl_80_l P t n m a ad c w hH hlc hcc ht hm hid _ rfl (by omega) h0 hv
end Go.Proofs.Ytogoolpgajopcaa
