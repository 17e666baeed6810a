import Derived.Test.YtogoolpgajopcaaTrFx
import Derived.Test.YtogoolpgajopcaaTrFs
namespace Go.Proofs.Ytogoolpgajopcaa
open Go.RowKit
set_option maxRecDepth 100000 in
set_option maxHeartbeats 8000000 in
theorem decl_80_no (P : Fo) (t : ByteArray) (n m a : Int) (A : Option Addr) (c : Nat) (w : World) (hH : Holds w w.heap.size P A 0) (hlc : P.len ≤ c) (hcc : c ≤ 1000000000000000) (ht : t.size ≤ 1000000000000000) (hm : m = 0 ∨ m = 1) (hid : idB t = true) (hv : runB 73 (·.var) P.inf = false) :
    Calls Try.prog 59 #[.agg #[.int .i64 80, .string t, .int .i64 n, .int .i64 m, .int .i64 a, .slice A P.len c]] w fun e w' => e = .returned (.bool (funcD n P.inf true)) ∧ Below w.heap.size w w' := by
  obtain ⟨y, hy⟩ : ∃ y, funcD n P.inf true = y := ⟨_, rfl⟩
  rw [hy]
  unfold funcD at hy
  have HS := Lib.hid (fun o => Wk.start w o P A c hH)
  have KI := Lib.hid (fun W => isname_any 80 t n m a P.len A c ht W)
  rw [hid] at KI
  rw [hv] at hy
  have HY : Hid (false = y) := Lib.hid (by rw [← hy]; rfl)
  have KWH := Lib.hid (fun W (h : Wk (w.heap.size + 1) 0 P A c (w.heap.size + 1) W) => (while_variable P (allV P) h (Nat.zero_le _) hlc hcc).mono (fun (e : Ending) (w' : World) ⟨b, he, hb, _, hB⟩ => (show e = Ending.returned (.bool false) ∧ Below (w.heap.size + 1) W w' from ⟨by rw [he, hb, List.drop_zero, hv], hB⟩)))
  clear hH hy hv hlc
  have tm : (m != 0) = false ∨ (m != 0) = true ∧ (m != 1) = false := by rcases hm with rfl | rfl <;> simp
  clear hm
  rcases tm with t0 | ⟨t0, t1m⟩
  all_goals
    go_enter Try.func59, Try.ntmps59
    go_wp2_with fail
    refine (KI.out _).mono ?_
    rintro e w1 ⟨rfl, hb1⟩
    have HK := Lib.hid ((HS.out _).later hb1)
    have bx := ((Box.new w 80 t n _ a P.len A c).later ((Below.refl _ _).alloc (Nat.le_refl _) (.cells #[.int .i64 0, .slice A P.len c] 56))).later hb1
    have HBx := Lib.hid bx
    have KW := Lib.hid (KWH.out _ (HK.out.later (Below.drew (Below.refl _ _))))
    have hs1 : w.heap.size + 1 < w1.heap.size := HK.out.lt
    obtain ⟨-, -, c0, c1, c2, c3, c4, c5⟩ := bx
    have p1 := HK.out.c1
    have HB01 := Lib.hid HBx.out.below
    clear hb1 HS KI
    clear p1 HBx HK
    go_wp2_with fail
    refine wp_region_held_drew (S := fun _ => True) (by kernel_rfl) trivial (fun _ => ?_)
    refine wpAnyH_take (i := 0) (v := ?_) (show _ = some { dst := some 78, op := _, type := _, pos := _, after := _, guard := _ } from rfl) (by kernel_rfl) (by kernel_rfl) (by kernel_rfl) (fun _ _ _ h => h) (Or.inl ⟨by rfl, ?_⟩) trivial ?_
    rotate_left
    · intro w _
      go_simp
      try with_reducible rfl
    try simp only [Act.put, List.setIfInBounds_toArray, List.set_cons_zero, List.set_cons_succ]
    refine wpAnyH_ready (rs := [1]) (by kernel_rfl) (by simp) ?_
    refine AllReadyH.cons (show _ = some { dst := some 79, op := _, type := _, pos := _, after := _, guard := _ } from rfl) (fun K hK => ?_) AllReadyH.nil
    go_simp
    refine KW.out.mono ?_
    rintro e w5 ⟨rfl, hbel⟩
    go_wp2_with fail
    refine hK.out _ _ trivial (fun _ => ?_)
    clear hK K
    try simp only [Act.put, List.setIfInBounds_toArray, List.set_cons_zero, List.set_cons_succ]
    refine wpAnyH_take (i := 2) (v := ?_) (show _ = some { dst := some 80, op := _, type := _, pos := _, after := _, guard := _ } from rfl) (by kernel_rfl) (by kernel_rfl) (by kernel_rfl) (fun _ _ _ h => h) (Or.inl ⟨by rfl, ?_⟩) trivial ?_
    rotate_left
    · intro w _
      go_simp
      try with_reducible rfl
    try simp only [Act.put, List.setIfInBounds_toArray, List.set_cons_zero, List.set_cons_succ]
    refine wpAnyH_take (i := 3) (v := undef) (show _ = some { dst := some 81, op := _, type := _, pos := _, after := _, guard := _ } from rfl) (by kernel_rfl) (by kernel_rfl) (by kernel_rfl) (fun _ _ _ h => h) (Or.inr ⟨by rfl, rfl⟩) trivial ?_
    try simp only [Act.put, List.setIfInBounds_toArray, List.set_cons_zero, List.set_cons_succ]
    refine wpAnyH_take (i := 4) (v := undef) (show _ = some { dst := some 82, op := _, type := _, pos := _, after := _, guard := _ } from rfl) (by kernel_rfl) (by kernel_rfl) (by kernel_rfl) (fun _ _ _ h => h) (Or.inr ⟨by rfl, rfl⟩) trivial ?_
    try simp only [Act.put, List.setIfInBounds_toArray, List.set_cons_zero, List.set_cons_succ]
    refine wpAnyH_take (i := 5) (v := undef) (show _ = some { dst := some 83, op := _, type := _, pos := _, after := _, guard := _ } from rfl) (by kernel_rfl) (by kernel_rfl) (by kernel_rfl) (fun _ _ _ h => h) (Or.inr ⟨by rfl, rfl⟩) trivial ?_
    try simp only [Act.put, List.setIfInBounds_toArray, List.set_cons_zero, List.set_cons_succ]
    refine wpAnyH_take (i := 6) (v := undef) (show _ = some { dst := some 84, op := _, type := _, pos := _, after := _, guard := _ } from rfl) (by kernel_rfl) (by kernel_rfl) (by kernel_rfl) (fun _ _ _ h => h) (Or.inr ⟨by rfl, rfl⟩) trivial ?_
    try simp only [Act.put, List.setIfInBounds_toArray, List.set_cons_zero, List.set_cons_succ]
    refine wpAnyH_take (i := 7) (v := undef) (show _ = some { dst := some 85, op := _, type := _, pos := _, after := _, guard := _ } from rfl) (by kernel_rfl) (by kernel_rfl) (by kernel_rfl) (fun _ _ _ h => h) (Or.inr ⟨by rfl, rfl⟩) trivial ?_
    try simp only [Act.put, List.setIfInBounds_toArray, List.set_cons_zero, List.set_cons_succ]
    refine wpAnyH_take (i := 8) (v := undef) (show _ = some { dst := some 86, op := _, type := _, pos := _, after := _, guard := _ } from rfl) (by kernel_rfl) (by kernel_rfl) (by kernel_rfl) (fun _ _ _ h => h) (Or.inr ⟨by rfl, rfl⟩) trivial ?_
    try simp only [Act.put, List.setIfInBounds_toArray, List.set_cons_zero, List.set_cons_succ]
    refine wpAnyH_take (i := 9) (v := undef) (show _ = some { dst := some 87, op := _, type := _, pos := _, after := _, guard := _ } from rfl) (by kernel_rfl) (by kernel_rfl) (by kernel_rfl) (fun _ _ _ h => h) (Or.inr ⟨by rfl, rfl⟩) trivial ?_
    try simp only [Act.put, List.setIfInBounds_toArray, List.set_cons_zero, List.set_cons_succ]
    refine wpAnyH_take (i := 10) (v := undef) (show _ = some { dst := some 88, op := _, type := _, pos := _, after := _, guard := _ } from rfl) (by kernel_rfl) (by kernel_rfl) (by kernel_rfl) (fun _ _ _ h => h) (Or.inr ⟨by rfl, rfl⟩) trivial ?_
    try simp only [Act.put, List.setIfInBounds_toArray, List.set_cons_zero, List.set_cons_succ]
    refine wpAnyH_take (i := 11) (v := undef) (show _ = some { dst := some 89, op := _, type := _, pos := _, after := _, guard := _ } from rfl) (by kernel_rfl) (by kernel_rfl) (by kernel_rfl) (fun _ _ _ h => h) (Or.inr ⟨by rfl, rfl⟩) trivial ?_
    try simp only [Act.put, List.setIfInBounds_toArray, List.set_cons_zero, List.set_cons_succ]
    refine wpAnyH_take (i := 12) (v := undef) (show _ = some { dst := some 90, op := _, type := _, pos := _, after := _, guard := _ } from rfl) (by kernel_rfl) (by kernel_rfl) (by kernel_rfl) (fun _ _ _ h => h) (Or.inr ⟨by rfl, rfl⟩) trivial ?_
    try simp only [Act.put, List.setIfInBounds_toArray, List.set_cons_zero, List.set_cons_succ]
    refine wpAnyH_take (i := 13) (v := undef) (show _ = some { dst := some 91, op := _, type := _, pos := _, after := _, guard := _ } from rfl) (by kernel_rfl) (by kernel_rfl) (by kernel_rfl) (fun _ _ _ h => h) (Or.inr ⟨by rfl, rfl⟩) trivial ?_
    try simp only [Act.put, List.setIfInBounds_toArray, List.set_cons_zero, List.set_cons_succ]
    refine wpAnyH_take (i := 14) (v := undef) (show _ = some { dst := some 92, op := _, type := _, pos := _, after := _, guard := _ } from rfl) (by kernel_rfl) (by kernel_rfl) (by kernel_rfl) (fun _ _ _ h => h) (Or.inr ⟨by rfl, rfl⟩) trivial ?_
    try simp only [Act.put, List.setIfInBounds_toArray, List.set_cons_zero, List.set_cons_succ]
    refine wpAnyH_take (i := 15) (v := ?_) (show _ = some { dst := some 93, op := _, type := _, pos := _, after := _, guard := _ } from rfl) (by kernel_rfl) (by kernel_rfl) (by kernel_rfl) (fun _ _ _ h => h) (Or.inl ⟨by rfl, ?_⟩) trivial ?_
    rotate_left
    · intro w _
      go_simp
      try with_reducible rfl
    try simp only [Act.put, List.setIfInBounds_toArray, List.set_cons_zero, List.set_cons_succ]
    refine wpAnyH_take (i := 16) (v := ?_) (show _ = some { dst := some 2, op := _, type := _, pos := _, after := _, guard := _ } from rfl) (by kernel_rfl) (by kernel_rfl) (by kernel_rfl) (fun _ _ _ h => h) (Or.inl ⟨by rfl, ?_⟩) trivial ?_
    rotate_left
    · intro w _
      go_simp
      try with_reducible rfl
    try simp only [Act.put, List.setIfInBounds_toArray, List.set_cons_zero, List.set_cons_succ]
    refine wpAnyH_done (by kernel_rfl) ?_ _
    have HB5 := Lib.hid ((Below.drew HB01.out).trans (hbel.mono (by omega)))
    clear hbel
    go_wp2_with fail
    go_ret
    exact ⟨ret_bool HY.out, HB5.out⟩
set_option maxRecDepth 100000 in
set_option maxHeartbeats 8000000 in
theorem decl_80_n0 (t : ByteArray) (n m a : Int) (w : World) (hH : Holds w w.heap.size Fo.nil none 0) (hlc : 0 ≤ 0) (hcc : 0 ≤ 1000000000000000) (ht : t.size ≤ 1000000000000000) (hm : m = 0 ∨ m = 1) (hid : idB t = true) (hv : runB 73 (·.var) Fo.nil.inf = true) :
    Calls Try.prog 59 #[.agg #[.int .i64 80, .string t, .int .i64 n, .int .i64 m, .int .i64 a, .slice none 0 0]] w fun e w' => e = .returned (.bool (funcD n Fo.nil.inf true)) ∧ Below w.heap.size w w' := by
  obtain ⟨y, hy⟩ : ∃ y, funcD n Fo.nil.inf true = y := ⟨_, rfl⟩
  rw [hy]
  unfold funcD at hy
  have HS := Lib.hid (fun o => Wk.start w o Fo.nil none 0 hH)
  have KI := Lib.hid (fun W => isname_any 80 t n m a 0 none 0 ht W)
  rw [hid] at KI
  rw [hv] at hy
  rw [Bool.true_and] at hy
  have KWH := Lib.hid (fun W (h : Wk (w.heap.size + 1) 0 Fo.nil none 0 (w.heap.size + 1) W) => (while_variable Fo.nil (allV Fo.nil) h (Nat.zero_le _) hlc hcc).mono (fun (e : Ending) (w' : World) ⟨b, he, hb, hk, hB⟩ => by
    rw [List.drop_zero] at hb hk
    rw [hv] at hb
    have hk2 := hk hb
    rw [Nat.zero_add] at hk2
    exact (show e = Ending.returned (.bool true) ∧ Wk (w.heap.size + 1) (runN 73 Fo.nil.inf) Fo.nil none 0 (w.heap.size + 1) w' ∧ w'.cell? ⟨w.heap.size + 1, 0, none⟩ = some (.int .i64 (runN 73 Fo.nil.inf : Nat)) ∧ Below (w.heap.size + 1) W w' from ⟨by rw [he, hb], hk2, hk2.c0, hB⟩)))
  rw [show runN 73 Fo.nil.inf = 0 from rfl] at hy KWH
  rw [List.drop_zero] at hy
  have KR : Hid (∀ (A' : Option Addr) (c' : Nat) {W : World}, Below w.heap.size w W → 0 ≤ c' → c' ≤ 1000000000000000 → Calls Try.prog 47 #[.agg #[.int .i64 80, .string t, .int .i64 n, .int .i64 m, .int .i64 a, .slice none 0 0], .slice A' 0 c', .bool true] W fun e w' => e = .returned (.bool y) ∧ Below W.heap.size W w') := Lib.hid (fun A' c' W hW h1 h2 => by
    have h3 := routine_any .nil trivial 80 t n m a 0 none 0 true A' c' W trivial (Nat.zero_le _) h2
    rw [hy] at h3
    exact h3)
  clear hH hy hv hlc
  have tm : (m != 0) = false ∨ (m != 0) = true ∧ (m != 1) = false := by rcases hm with rfl | rfl <;> simp
  clear hm
  rcases tm with t0 | ⟨t0, t1m⟩
  all_goals
    go_enter Try.func59, Try.ntmps59
    go_wp2_with fail
    refine (KI.out _).mono ?_
    rintro e w1 ⟨rfl, hb1⟩
    have HK := Lib.hid ((HS.out _).later hb1)
    have bx := ((Box.new w 80 t n _ a 0 none 0).later ((Below.refl _ _).alloc (Nat.le_refl _) (.cells #[.int .i64 0, .slice none 0 0] 56))).later hb1
    have HBx := Lib.hid bx
    have KW := Lib.hid (KWH.out _ (HK.out.later (Below.drew (Below.refl _ _))))
    have hs1 : w.heap.size + 1 < w1.heap.size := HK.out.lt
    obtain ⟨-, -, c0, c1, c2, c3, c4, c5⟩ := bx
    have p1 := HK.out.c1
    have HB01 := Lib.hid HBx.out.below
    clear hb1 HS KI
    have MK := Lib.hid (show ∀ w', BD w w' → Wk (w.heap.size + 1) 0 Fo.nil none 0 (w.heap.size + 1) w' → Below (w.heap.size + 1) w1.drew w' → (fun w' => BD w w' ∧ w.heap.size + 1 < w'.heap.size ∧ w'.cell? ⟨w.heap.size, 0, none⟩ = some (.int .i64 80) ∧ w'.cell? ⟨w.heap.size, 1, none⟩ = some (.string t) ∧ w'.cell? ⟨w.heap.size, 2, none⟩ = some (.int .i64 n) ∧ w'.cell? ⟨w.heap.size, 3, none⟩ = some (.int .i64 m) ∧ w'.cell? ⟨w.heap.size, 4, none⟩ = some (.int .i64 a) ∧ w'.cell? ⟨w.heap.size, 5, none⟩ = some (.slice none 0 0) ∧ w'.cell? ⟨w.heap.size + 1, 1, none⟩ = some (.slice none 0 0)) w' from fun w' h0 hk h => ⟨h0, hk.lt, (h.cell (p := ⟨w.heap.size, 0, none⟩) (Nat.lt_succ_self _)).trans c0, (h.cell (p := ⟨w.heap.size, 1, none⟩) (Nat.lt_succ_self _)).trans c1, (h.cell (p := ⟨w.heap.size, 2, none⟩) (Nat.lt_succ_self _)).trans c2, (h.cell (p := ⟨w.heap.size, 3, none⟩) (Nat.lt_succ_self _)).trans c3, (h.cell (p := ⟨w.heap.size, 4, none⟩) (Nat.lt_succ_self _)).trans c4, (h.cell (p := ⟨w.heap.size, 5, none⟩) (Nat.lt_succ_self _)).trans c5, hk.c1⟩)
    have MS := Lib.hid (show ∀ w' w'', (fun w' => BD w w' ∧ w.heap.size + 1 < w'.heap.size ∧ w'.cell? ⟨w.heap.size, 0, none⟩ = some (.int .i64 80) ∧ w'.cell? ⟨w.heap.size, 1, none⟩ = some (.string t) ∧ w'.cell? ⟨w.heap.size, 2, none⟩ = some (.int .i64 n) ∧ w'.cell? ⟨w.heap.size, 3, none⟩ = some (.int .i64 m) ∧ w'.cell? ⟨w.heap.size, 4, none⟩ = some (.int .i64 a) ∧ w'.cell? ⟨w.heap.size, 5, none⟩ = some (.slice none 0 0) ∧ w'.cell? ⟨w.heap.size + 1, 1, none⟩ = some (.slice none 0 0)) w' → Below w'.heap.size w' w'' → (fun w' => BD w w' ∧ w.heap.size + 1 < w'.heap.size ∧ w'.cell? ⟨w.heap.size, 0, none⟩ = some (.int .i64 80) ∧ w'.cell? ⟨w.heap.size, 1, none⟩ = some (.string t) ∧ w'.cell? ⟨w.heap.size, 2, none⟩ = some (.int .i64 n) ∧ w'.cell? ⟨w.heap.size, 3, none⟩ = some (.int .i64 m) ∧ w'.cell? ⟨w.heap.size, 4, none⟩ = some (.int .i64 a) ∧ w'.cell? ⟨w.heap.size, 5, none⟩ = some (.slice none 0 0) ∧ w'.cell? ⟨w.heap.size + 1, 1, none⟩ = some (.slice none 0 0)) w'' from fun w' w'' ⟨h0, hs, d0, d1, d2, d3, d4, d5, e1⟩ h => by
      have h1 : w.heap.size < w'.heap.size := by omega
      exact ⟨below_step h0 h, by have := h.size; omega, (h.cell (p := ⟨w.heap.size, 0, none⟩) h1).trans d0, (h.cell (p := ⟨w.heap.size, 1, none⟩) h1).trans d1, (h.cell (p := ⟨w.heap.size, 2, none⟩) h1).trans d2, (h.cell (p := ⟨w.heap.size, 3, none⟩) h1).trans d3, (h.cell (p := ⟨w.heap.size, 4, none⟩) h1).trans d4, (h.cell (p := ⟨w.heap.size, 5, none⟩) h1).trans d5, (h.cell (p := ⟨w.heap.size + 1, 1, none⟩) hs).trans e1⟩)
    have MB := Lib.hid (show ∀ w', Below (w.heap.size + 1) w1.drew w' → BD w w' from fun w' h => (Below.drew HB01.out).trans (h.mono (by omega)))
    have S0 : (fun w' => BD w w' ∧ w.heap.size + 1 < w'.heap.size ∧ w'.cell? ⟨w.heap.size, 0, none⟩ = some (.int .i64 80) ∧ w'.cell? ⟨w.heap.size, 1, none⟩ = some (.string t) ∧ w'.cell? ⟨w.heap.size, 2, none⟩ = some (.int .i64 n) ∧ w'.cell? ⟨w.heap.size, 3, none⟩ = some (.int .i64 m) ∧ w'.cell? ⟨w.heap.size, 4, none⟩ = some (.int .i64 a) ∧ w'.cell? ⟨w.heap.size, 5, none⟩ = some (.slice none 0 0) ∧ w'.cell? ⟨w.heap.size + 1, 1, none⟩ = some (.slice none 0 0)) w1.drew := ⟨Below.drew HB01.out, hs1, c0, c1, c2, c3, c4, c5, p1⟩
    clear p1 HBx HK hs1 c1 c2 c4 c5
    go_wp2_with fail
    refine wp_region_held_drew (S := (fun w' => BD w w' ∧ w.heap.size + 1 < w'.heap.size ∧ w'.cell? ⟨w.heap.size, 0, none⟩ = some (.int .i64 80) ∧ w'.cell? ⟨w.heap.size, 1, none⟩ = some (.string t) ∧ w'.cell? ⟨w.heap.size, 2, none⟩ = some (.int .i64 n) ∧ w'.cell? ⟨w.heap.size, 3, none⟩ = some (.int .i64 m) ∧ w'.cell? ⟨w.heap.size, 4, none⟩ = some (.int .i64 a) ∧ w'.cell? ⟨w.heap.size, 5, none⟩ = some (.slice none 0 0) ∧ w'.cell? ⟨w.heap.size + 1, 1, none⟩ = some (.slice none 0 0))) (by kernel_rfl) S0 (fun hHeld => ?_)
    refine wpAnyH_take (i := 0) (v := ?_) (show _ = some { dst := some 78, op := _, type := _, pos := _, after := _, guard := _ } from rfl) (by kernel_rfl) (by kernel_rfl) (by kernel_rfl) (fun _ _ _ h => h) (Or.inl ⟨by rfl, ?_⟩) hHeld ?_
    rotate_left
    · intro w' hSw
      (try dsimp only at hSw)
      go_simp
      try with_reducible rfl
    try simp only [Act.put, List.setIfInBounds_toArray, List.set_cons_zero, List.set_cons_succ]
    refine wpAnyH_ready (rs := [1]) (by kernel_rfl) (by simp) ?_
    refine AllReadyH.cons (show _ = some { dst := some 79, op := _, type := _, pos := _, after := _, guard := _ } from rfl) (fun K hK => ?_) AllReadyH.nil
    go_simp
    refine KW.out.mono ?_
    rintro e w2 ⟨rfl, hk, hk0, hbel⟩
    go_wp2_with fail
    refine hK.out _ _ (MK.out _ (MB.out _ hbel) hk hbel) (fun hHeld => ?_)
    clear hK K
    try simp only [Act.put, List.setIfInBounds_toArray, List.set_cons_zero, List.set_cons_succ]
    refine wpAnyH_take (i := 2) (v := ?_) (show _ = some { dst := some 80, op := _, type := _, pos := _, after := _, guard := _ } from rfl) (by kernel_rfl) (by kernel_rfl) (by kernel_rfl) (fun _ _ _ h => h) (Or.inl ⟨by rfl, ?_⟩) hHeld ?_
    rotate_left
    · intro w' hSw
      (try dsimp only at hSw)
      go_simp
      try with_reducible rfl
    try simp only [Act.put, List.setIfInBounds_toArray, List.set_cons_zero, List.set_cons_succ]
    refine wpAnyH_take (i := 3) (v := ?_) (show _ = some { dst := some 81, op := _, type := _, pos := _, after := _, guard := _ } from rfl) (by kernel_rfl) (by kernel_rfl) (by kernel_rfl) (fun _ _ _ h => h) (Or.inl ⟨by rfl, ?_⟩) hHeld ?_
    rotate_left
    · intro w' hSw
      (try dsimp only at hSw)
      go_simp
      try with_reducible rfl
    try simp only [Act.put, List.setIfInBounds_toArray, List.set_cons_zero, List.set_cons_succ]
    refine wpAnyH_take (i := 4) (v := ?_) (show _ = some { dst := some 82, op := _, type := _, pos := _, after := _, guard := _ } from rfl) (by kernel_rfl) (by kernel_rfl) (by kernel_rfl) (fun _ _ _ h => h) (Or.inl ⟨by rfl, ?_⟩) hHeld ?_
    rotate_left
    · intro w' hSw
      (try dsimp only at hSw)
      go_simp
      try with_reducible rfl
    try simp only [Act.put, List.setIfInBounds_toArray, List.set_cons_zero, List.set_cons_succ]
    refine wpAnyH_take (i := 5) (v := ?_) (show _ = some { dst := some 83, op := _, type := _, pos := _, after := _, guard := _ } from rfl) (by kernel_rfl) (by kernel_rfl) (by kernel_rfl) (fun _ _ _ h => h) (Or.inl ⟨by rfl, ?_⟩) hHeld ?_
    rotate_left
    · intro w' hSw
      (try dsimp only at hSw)
      go_simp
      try with_reducible rfl
    try simp only [Act.put, List.setIfInBounds_toArray, List.set_cons_zero, List.set_cons_succ]
    refine wpAnyH_take (i := 6) (v := ?_) (show _ = some { dst := some 84, op := _, type := _, pos := _, after := _, guard := _ } from rfl) (by kernel_rfl) (by kernel_rfl) (by kernel_rfl) (fun _ _ _ h => h) (Or.inl ⟨by rfl, ?_⟩) hHeld ?_
    rotate_left
    · intro w' hSw
      (try dsimp only at hSw)
      go_simp
      try with_reducible rfl
    try simp only [Act.put, List.setIfInBounds_toArray, List.set_cons_zero, List.set_cons_succ]
    refine wpAnyH_take (i := 7) (v := ?_) (show _ = some { dst := some 85, op := _, type := _, pos := _, after := _, guard := _ } from rfl) (by kernel_rfl) (by kernel_rfl) (by kernel_rfl) (fun _ _ _ h => h) (Or.inl ⟨by rfl, ?_⟩) hHeld ?_
    rotate_left
    · intro w' hSw
      (try dsimp only at hSw)
      go_simp
      try with_reducible rfl
    try simp only [Act.put, List.setIfInBounds_toArray, List.set_cons_zero, List.set_cons_succ]
    refine wpAnyH_take (i := 8) (v := ?_) (show _ = some { dst := some 86, op := _, type := _, pos := _, after := _, guard := _ } from rfl) (by kernel_rfl) (by kernel_rfl) (by kernel_rfl) (fun _ _ _ h => h) (Or.inl ⟨by rfl, ?_⟩) hHeld ?_
    rotate_left
    · intro w' hSw
      (try dsimp only at hSw)
      go_simp
      try with_reducible rfl
    try simp only [Act.put, List.setIfInBounds_toArray, List.set_cons_zero, List.set_cons_succ]
    refine wpAnyH_take (i := 9) (v := ?_) (show _ = some { dst := some 87, op := _, type := _, pos := _, after := _, guard := _ } from rfl) (by kernel_rfl) (by kernel_rfl) (by kernel_rfl) (fun _ _ _ h => h) (Or.inl ⟨by rfl, ?_⟩) hHeld ?_
    rotate_left
    · intro w' hSw
      (try dsimp only at hSw)
      go_simp
      try with_reducible rfl
    try simp only [Act.put, List.setIfInBounds_toArray, List.set_cons_zero, List.set_cons_succ]
    refine wpAnyH_take (i := 10) (v := ?_) (show _ = some { dst := some 88, op := _, type := _, pos := _, after := _, guard := _ } from rfl) (by kernel_rfl) (by kernel_rfl) (by kernel_rfl) (fun _ _ _ h => h) (Or.inl ⟨by rfl, ?_⟩) hHeld ?_
    rotate_left
    · intro w' hSw
      (try dsimp only at hSw)
      go_simp
      try with_reducible rfl
    try simp only [Act.put, List.setIfInBounds_toArray, List.set_cons_zero, List.set_cons_succ]
    refine wpAnyH_take (i := 11) (v := ?_) (show _ = some { dst := some 89, op := _, type := _, pos := _, after := _, guard := _ } from rfl) (by kernel_rfl) (by kernel_rfl) (by kernel_rfl) (fun _ _ _ h => h) (Or.inl ⟨by rfl, ?_⟩) hHeld ?_
    rotate_left
    · intro w' hSw
      (try dsimp only at hSw)
      go_simp
      try with_reducible rfl
    try simp only [Act.put, List.setIfInBounds_toArray, List.set_cons_zero, List.set_cons_succ]
    refine wpAnyH_ready (rs := [12]) (by kernel_rfl) (by simp) ?_
    refine AllReadyH.cons (show _ = some { dst := some 90, op := _, type := _, pos := _, after := _, guard := _ } from rfl) (fun K hK => ?_) AllReadyH.nil
    go_simp
    refine hK.out _ _ (hHeld) (fun hHeld => ?_)
    clear hK K
    try simp only [Act.put, List.setIfInBounds_toArray, List.set_cons_zero, List.set_cons_succ]
    refine wpAnyH_take (i := 13) (v := ?_) (show _ = some { dst := some 91, op := _, type := _, pos := _, after := _, guard := _ } from rfl) (by kernel_rfl) (by kernel_rfl) (by kernel_rfl) (fun _ _ _ h => h) (Or.inl ⟨by rfl, ?_⟩) hHeld ?_
    rotate_left
    · intro w' hSw
      (try dsimp only at hSw)
      go_simp
      try with_reducible rfl
    try simp only [Act.put, List.setIfInBounds_toArray, List.set_cons_zero, List.set_cons_succ]
    refine wpAnyH_ready (rs := [14]) (by kernel_rfl) (by simp) ?_
    refine AllReadyH.cons (show _ = some { dst := some 92, op := _, type := _, pos := _, after := _, guard := _ } from rfl) (fun K hK => ?_) AllReadyH.nil
    go_simp
    refine (KR.out _ _ ?_ ?_ ?_).mono ?_
    · exact hHeld.1
    · omega
    · omega
    rintro e w3 ⟨rfl, hbel⟩
    go_wp2_with fail
    refine hK.out _ _ (MS.out _ _ hHeld hbel) (fun hHeld => ?_)
    clear hK K
    try simp only [Act.put, List.setIfInBounds_toArray, List.set_cons_zero, List.set_cons_succ]
    refine wpAnyH_take (i := 15) (v := ?_) (show _ = some { dst := some 93, op := _, type := _, pos := _, after := _, guard := _ } from rfl) (by kernel_rfl) (by kernel_rfl) (by kernel_rfl) (fun _ _ _ h => h) (Or.inl ⟨by rfl, ?_⟩) hHeld ?_
    rotate_left
    · intro w' hSw
      (try dsimp only at hSw)
      go_simp
      try with_reducible rfl
    try simp only [Act.put, List.setIfInBounds_toArray, List.set_cons_zero, List.set_cons_succ]
    refine wpAnyH_take (i := 16) (v := ?_) (show _ = some { dst := some 2, op := _, type := _, pos := _, after := _, guard := _ } from rfl) (by kernel_rfl) (by kernel_rfl) (by kernel_rfl) (fun _ _ _ h => h) (Or.inl ⟨by rfl, ?_⟩) hHeld ?_
    rotate_left
    · intro w' hSw
      (try dsimp only at hSw)
      go_simp
      try with_reducible rfl
    try simp only [Act.put, List.setIfInBounds_toArray, List.set_cons_zero, List.set_cons_succ]
    refine wpAnyH_done (by kernel_rfl) ?_ _
    have hS5 := hHeld
    clear hHeld
    have HB5 := Lib.hid hS5.1
    clear hS5
    go_wp2_with fail
    go_ret
    exact ⟨rfl, HB5.out⟩
set_option maxRecDepth 100000 in
set_option maxHeartbeats 8000000 in
theorem decl_80_s0 (t : ByteArray) (n m a : Int) (ad : Addr) (w : World) (hH : Holds w w.heap.size Fo.nil (some ad) 0) (hlc : 0 ≤ 0) (hcc : 0 ≤ 1000000000000000) (ht : t.size ≤ 1000000000000000) (hm : m = 0 ∨ m = 1) (hid : idB t = true) (hv : runB 73 (·.var) Fo.nil.inf = true) :
    Calls Try.prog 59 #[.agg #[.int .i64 80, .string t, .int .i64 n, .int .i64 m, .int .i64 a, .slice (some ad) 0 0]] w fun e w' => e = .returned (.bool (funcD n Fo.nil.inf true)) ∧ Below w.heap.size w w' := by
  obtain ⟨y, hy⟩ : ∃ y, funcD n Fo.nil.inf true = y := ⟨_, rfl⟩
  rw [hy]
  unfold funcD at hy
  have HS := Lib.hid (fun o => Wk.start w o Fo.nil (some ad) 0 hH)
  have KI := Lib.hid (fun W => isname_any 80 t n m a 0 (some ad) 0 ht W)
  rw [hid] at KI
  rw [hv] at hy
  rw [Bool.true_and] at hy
  have KWH := Lib.hid (fun W (h : Wk (w.heap.size + 1) 0 Fo.nil (some ad) 0 (w.heap.size + 1) W) => (while_variable Fo.nil (allV Fo.nil) h (Nat.zero_le _) hlc hcc).mono (fun (e : Ending) (w' : World) ⟨b, he, hb, hk, hB⟩ => by
    rw [List.drop_zero] at hb hk
    rw [hv] at hb
    have hk2 := hk hb
    rw [Nat.zero_add] at hk2
    exact (show e = Ending.returned (.bool true) ∧ Wk (w.heap.size + 1) (runN 73 Fo.nil.inf) Fo.nil (some ad) 0 (w.heap.size + 1) w' ∧ w'.cell? ⟨w.heap.size + 1, 0, none⟩ = some (.int .i64 (runN 73 Fo.nil.inf : Nat)) ∧ Below (w.heap.size + 1) W w' from ⟨by rw [he, hb], hk2, hk2.c0, hB⟩)))
  rw [show runN 73 Fo.nil.inf = 0 from rfl] at hy KWH
  rw [List.drop_zero] at hy
  have KR : Hid (∀ (A' : Option Addr) (c' : Nat) {W : World}, Below w.heap.size w W → 0 ≤ c' → c' ≤ 1000000000000000 → Calls Try.prog 47 #[.agg #[.int .i64 80, .string t, .int .i64 n, .int .i64 m, .int .i64 a, .slice (some ad) 0 0], .slice A' 0 c', .bool true] W fun e w' => e = .returned (.bool y) ∧ Below W.heap.size W w') := Lib.hid (fun A' c' W hW h1 h2 => by
    have h3 := routine_any .nil trivial 80 t n m a 0 (some ad) 0 true A' c' W trivial (Nat.zero_le _) h2
    rw [hy] at h3
    exact h3)
  clear hH hy hv hlc
  have tm : (m != 0) = false ∨ (m != 0) = true ∧ (m != 1) = false := by rcases hm with rfl | rfl <;> simp
  clear hm
  rcases tm with t0 | ⟨t0, t1m⟩
  all_goals
    go_enter Try.func59, Try.ntmps59
    go_wp2_with fail
    refine (KI.out _).mono ?_
    rintro e w1 ⟨rfl, hb1⟩
    have HK := Lib.hid ((HS.out _).later hb1)
    have bx := ((Box.new w 80 t n _ a 0 (some ad) 0).later ((Below.refl _ _).alloc (Nat.le_refl _) (.cells #[.int .i64 0, .slice (some ad) 0 0] 56))).later hb1
    have HBx := Lib.hid bx
    have KW := Lib.hid (KWH.out _ (HK.out.later (Below.drew (Below.refl _ _))))
    have hs1 : w.heap.size + 1 < w1.heap.size := HK.out.lt
    obtain ⟨-, -, c0, c1, c2, c3, c4, c5⟩ := bx
    have p1 := HK.out.c1
    have HB01 := Lib.hid HBx.out.below
    clear hb1 HS KI
    have MK := Lib.hid (show ∀ w', BD w w' → Wk (w.heap.size + 1) 0 Fo.nil (some ad) 0 (w.heap.size + 1) w' → Below (w.heap.size + 1) w1.drew w' → (fun w' => BD w w' ∧ w.heap.size + 1 < w'.heap.size ∧ w'.cell? ⟨w.heap.size, 0, none⟩ = some (.int .i64 80) ∧ w'.cell? ⟨w.heap.size, 1, none⟩ = some (.string t) ∧ w'.cell? ⟨w.heap.size, 2, none⟩ = some (.int .i64 n) ∧ w'.cell? ⟨w.heap.size, 3, none⟩ = some (.int .i64 m) ∧ w'.cell? ⟨w.heap.size, 4, none⟩ = some (.int .i64 a) ∧ w'.cell? ⟨w.heap.size, 5, none⟩ = some (.slice (some ad) 0 0) ∧ w'.cell? ⟨w.heap.size + 1, 1, none⟩ = some (.slice (some ad) 0 0)) w' from fun w' h0 hk h => ⟨h0, hk.lt, (h.cell (p := ⟨w.heap.size, 0, none⟩) (Nat.lt_succ_self _)).trans c0, (h.cell (p := ⟨w.heap.size, 1, none⟩) (Nat.lt_succ_self _)).trans c1, (h.cell (p := ⟨w.heap.size, 2, none⟩) (Nat.lt_succ_self _)).trans c2, (h.cell (p := ⟨w.heap.size, 3, none⟩) (Nat.lt_succ_self _)).trans c3, (h.cell (p := ⟨w.heap.size, 4, none⟩) (Nat.lt_succ_self _)).trans c4, (h.cell (p := ⟨w.heap.size, 5, none⟩) (Nat.lt_succ_self _)).trans c5, hk.c1⟩)
    have MS := Lib.hid (show ∀ w' w'', (fun w' => BD w w' ∧ w.heap.size + 1 < w'.heap.size ∧ w'.cell? ⟨w.heap.size, 0, none⟩ = some (.int .i64 80) ∧ w'.cell? ⟨w.heap.size, 1, none⟩ = some (.string t) ∧ w'.cell? ⟨w.heap.size, 2, none⟩ = some (.int .i64 n) ∧ w'.cell? ⟨w.heap.size, 3, none⟩ = some (.int .i64 m) ∧ w'.cell? ⟨w.heap.size, 4, none⟩ = some (.int .i64 a) ∧ w'.cell? ⟨w.heap.size, 5, none⟩ = some (.slice (some ad) 0 0) ∧ w'.cell? ⟨w.heap.size + 1, 1, none⟩ = some (.slice (some ad) 0 0)) w' → Below w'.heap.size w' w'' → (fun w' => BD w w' ∧ w.heap.size + 1 < w'.heap.size ∧ w'.cell? ⟨w.heap.size, 0, none⟩ = some (.int .i64 80) ∧ w'.cell? ⟨w.heap.size, 1, none⟩ = some (.string t) ∧ w'.cell? ⟨w.heap.size, 2, none⟩ = some (.int .i64 n) ∧ w'.cell? ⟨w.heap.size, 3, none⟩ = some (.int .i64 m) ∧ w'.cell? ⟨w.heap.size, 4, none⟩ = some (.int .i64 a) ∧ w'.cell? ⟨w.heap.size, 5, none⟩ = some (.slice (some ad) 0 0) ∧ w'.cell? ⟨w.heap.size + 1, 1, none⟩ = some (.slice (some ad) 0 0)) w'' from fun w' w'' ⟨h0, hs, d0, d1, d2, d3, d4, d5, e1⟩ h => by
      have h1 : w.heap.size < w'.heap.size := by omega
      exact ⟨below_step h0 h, by have := h.size; omega, (h.cell (p := ⟨w.heap.size, 0, none⟩) h1).trans d0, (h.cell (p := ⟨w.heap.size, 1, none⟩) h1).trans d1, (h.cell (p := ⟨w.heap.size, 2, none⟩) h1).trans d2, (h.cell (p := ⟨w.heap.size, 3, none⟩) h1).trans d3, (h.cell (p := ⟨w.heap.size, 4, none⟩) h1).trans d4, (h.cell (p := ⟨w.heap.size, 5, none⟩) h1).trans d5, (h.cell (p := ⟨w.heap.size + 1, 1, none⟩) hs).trans e1⟩)
    have MB := Lib.hid (show ∀ w', Below (w.heap.size + 1) w1.drew w' → BD w w' from fun w' h => (Below.drew HB01.out).trans (h.mono (by omega)))
    have S0 : (fun w' => BD w w' ∧ w.heap.size + 1 < w'.heap.size ∧ w'.cell? ⟨w.heap.size, 0, none⟩ = some (.int .i64 80) ∧ w'.cell? ⟨w.heap.size, 1, none⟩ = some (.string t) ∧ w'.cell? ⟨w.heap.size, 2, none⟩ = some (.int .i64 n) ∧ w'.cell? ⟨w.heap.size, 3, none⟩ = some (.int .i64 m) ∧ w'.cell? ⟨w.heap.size, 4, none⟩ = some (.int .i64 a) ∧ w'.cell? ⟨w.heap.size, 5, none⟩ = some (.slice (some ad) 0 0) ∧ w'.cell? ⟨w.heap.size + 1, 1, none⟩ = some (.slice (some ad) 0 0)) w1.drew := ⟨Below.drew HB01.out, hs1, c0, c1, c2, c3, c4, c5, p1⟩
    clear p1 HBx HK hs1 c1 c2 c4 c5
    go_wp2_with fail
    refine wp_region_held_drew (S := (fun w' => BD w w' ∧ w.heap.size + 1 < w'.heap.size ∧ w'.cell? ⟨w.heap.size, 0, none⟩ = some (.int .i64 80) ∧ w'.cell? ⟨w.heap.size, 1, none⟩ = some (.string t) ∧ w'.cell? ⟨w.heap.size, 2, none⟩ = some (.int .i64 n) ∧ w'.cell? ⟨w.heap.size, 3, none⟩ = some (.int .i64 m) ∧ w'.cell? ⟨w.heap.size, 4, none⟩ = some (.int .i64 a) ∧ w'.cell? ⟨w.heap.size, 5, none⟩ = some (.slice (some ad) 0 0) ∧ w'.cell? ⟨w.heap.size + 1, 1, none⟩ = some (.slice (some ad) 0 0))) (by kernel_rfl) S0 (fun hHeld => ?_)
    refine wpAnyH_take (i := 0) (v := ?_) (show _ = some { dst := some 78, op := _, type := _, pos := _, after := _, guard := _ } from rfl) (by kernel_rfl) (by kernel_rfl) (by kernel_rfl) (fun _ _ _ h => h) (Or.inl ⟨by rfl, ?_⟩) hHeld ?_
    rotate_left
    · intro w' hSw
      (try dsimp only at hSw)
      go_simp
      try with_reducible rfl
    try simp only [Act.put, List.setIfInBounds_toArray, List.set_cons_zero, List.set_cons_succ]
    refine wpAnyH_ready (rs := [1]) (by kernel_rfl) (by simp) ?_
    refine AllReadyH.cons (show _ = some { dst := some 79, op := _, type := _, pos := _, after := _, guard := _ } from rfl) (fun K hK => ?_) AllReadyH.nil
    go_simp
    refine KW.out.mono ?_
    rintro e w2 ⟨rfl, hk, hk0, hbel⟩
    go_wp2_with fail
    refine hK.out _ _ (MK.out _ (MB.out _ hbel) hk hbel) (fun hHeld => ?_)
    clear hK K
    try simp only [Act.put, List.setIfInBounds_toArray, List.set_cons_zero, List.set_cons_succ]
    refine wpAnyH_take (i := 2) (v := ?_) (show _ = some { dst := some 80, op := _, type := _, pos := _, after := _, guard := _ } from rfl) (by kernel_rfl) (by kernel_rfl) (by kernel_rfl) (fun _ _ _ h => h) (Or.inl ⟨by rfl, ?_⟩) hHeld ?_
    rotate_left
    · intro w' hSw
      (try dsimp only at hSw)
      go_simp
      try with_reducible rfl
    try simp only [Act.put, List.setIfInBounds_toArray, List.set_cons_zero, List.set_cons_succ]
    refine wpAnyH_take (i := 3) (v := ?_) (show _ = some { dst := some 81, op := _, type := _, pos := _, after := _, guard := _ } from rfl) (by kernel_rfl) (by kernel_rfl) (by kernel_rfl) (fun _ _ _ h => h) (Or.inl ⟨by rfl, ?_⟩) hHeld ?_
    rotate_left
    · intro w' hSw
      (try dsimp only at hSw)
      go_simp
      try with_reducible rfl
    try simp only [Act.put, List.setIfInBounds_toArray, List.set_cons_zero, List.set_cons_succ]
    refine wpAnyH_take (i := 4) (v := ?_) (show _ = some { dst := some 82, op := _, type := _, pos := _, after := _, guard := _ } from rfl) (by kernel_rfl) (by kernel_rfl) (by kernel_rfl) (fun _ _ _ h => h) (Or.inl ⟨by rfl, ?_⟩) hHeld ?_
    rotate_left
    · intro w' hSw
      (try dsimp only at hSw)
      go_simp
      try with_reducible rfl
    try simp only [Act.put, List.setIfInBounds_toArray, List.set_cons_zero, List.set_cons_succ]
    refine wpAnyH_take (i := 5) (v := ?_) (show _ = some { dst := some 83, op := _, type := _, pos := _, after := _, guard := _ } from rfl) (by kernel_rfl) (by kernel_rfl) (by kernel_rfl) (fun _ _ _ h => h) (Or.inl ⟨by rfl, ?_⟩) hHeld ?_
    rotate_left
    · intro w' hSw
      (try dsimp only at hSw)
      go_simp
      try with_reducible rfl
    try simp only [Act.put, List.setIfInBounds_toArray, List.set_cons_zero, List.set_cons_succ]
    refine wpAnyH_take (i := 6) (v := ?_) (show _ = some { dst := some 84, op := _, type := _, pos := _, after := _, guard := _ } from rfl) (by kernel_rfl) (by kernel_rfl) (by kernel_rfl) (fun _ _ _ h => h) (Or.inl ⟨by rfl, ?_⟩) hHeld ?_
    rotate_left
    · intro w' hSw
      (try dsimp only at hSw)
      go_simp
      try with_reducible rfl
    try simp only [Act.put, List.setIfInBounds_toArray, List.set_cons_zero, List.set_cons_succ]
    refine wpAnyH_take (i := 7) (v := ?_) (show _ = some { dst := some 85, op := _, type := _, pos := _, after := _, guard := _ } from rfl) (by kernel_rfl) (by kernel_rfl) (by kernel_rfl) (fun _ _ _ h => h) (Or.inl ⟨by rfl, ?_⟩) hHeld ?_
    rotate_left
    · intro w' hSw
      (try dsimp only at hSw)
      go_simp
      try with_reducible rfl
    try simp only [Act.put, List.setIfInBounds_toArray, List.set_cons_zero, List.set_cons_succ]
    refine wpAnyH_take (i := 8) (v := ?_) (show _ = some { dst := some 86, op := _, type := _, pos := _, after := _, guard := _ } from rfl) (by kernel_rfl) (by kernel_rfl) (by kernel_rfl) (fun _ _ _ h => h) (Or.inl ⟨by rfl, ?_⟩) hHeld ?_
    rotate_left
    · intro w' hSw
      (try dsimp only at hSw)
      go_simp
      try with_reducible rfl
    try simp only [Act.put, List.setIfInBounds_toArray, List.set_cons_zero, List.set_cons_succ]
    refine wpAnyH_take (i := 9) (v := ?_) (show _ = some { dst := some 87, op := _, type := _, pos := _, after := _, guard := _ } from rfl) (by kernel_rfl) (by kernel_rfl) (by kernel_rfl) (fun _ _ _ h => h) (Or.inl ⟨by rfl, ?_⟩) hHeld ?_
    rotate_left
    · intro w' hSw
      (try dsimp only at hSw)
      go_simp
      try with_reducible rfl
    try simp only [Act.put, List.setIfInBounds_toArray, List.set_cons_zero, List.set_cons_succ]
    refine wpAnyH_take (i := 10) (v := ?_) (show _ = some { dst := some 88, op := _, type := _, pos := _, after := _, guard := _ } from rfl) (by kernel_rfl) (by kernel_rfl) (by kernel_rfl) (fun _ _ _ h => h) (Or.inl ⟨by rfl, ?_⟩) hHeld ?_
    rotate_left
    · intro w' hSw
      (try dsimp only at hSw)
      go_simp
      try with_reducible rfl
    try simp only [Act.put, List.setIfInBounds_toArray, List.set_cons_zero, List.set_cons_succ]
    refine wpAnyH_take (i := 11) (v := ?_) (show _ = some { dst := some 89, op := _, type := _, pos := _, after := _, guard := _ } from rfl) (by kernel_rfl) (by kernel_rfl) (by kernel_rfl) (fun _ _ _ h => h) (Or.inl ⟨by rfl, ?_⟩) hHeld ?_
    rotate_left
    · intro w' hSw
      (try dsimp only at hSw)
      go_simp
      try with_reducible rfl
    try simp only [Act.put, List.setIfInBounds_toArray, List.set_cons_zero, List.set_cons_succ]
    refine wpAnyH_ready (rs := [12]) (by kernel_rfl) (by simp) ?_
    refine AllReadyH.cons (show _ = some { dst := some 90, op := _, type := _, pos := _, after := _, guard := _ } from rfl) (fun K hK => ?_) AllReadyH.nil
    go_simp
    refine hK.out _ _ (hHeld) (fun hHeld => ?_)
    clear hK K
    try simp only [Act.put, List.setIfInBounds_toArray, List.set_cons_zero, List.set_cons_succ]
    refine wpAnyH_take (i := 13) (v := ?_) (show _ = some { dst := some 91, op := _, type := _, pos := _, after := _, guard := _ } from rfl) (by kernel_rfl) (by kernel_rfl) (by kernel_rfl) (fun _ _ _ h => h) (Or.inl ⟨by rfl, ?_⟩) hHeld ?_
    rotate_left
    · intro w' hSw
      (try dsimp only at hSw)
      go_simp
      try with_reducible rfl
    try simp only [Act.put, List.setIfInBounds_toArray, List.set_cons_zero, List.set_cons_succ]
    refine wpAnyH_ready (rs := [14]) (by kernel_rfl) (by simp) ?_
    refine AllReadyH.cons (show _ = some { dst := some 92, op := _, type := _, pos := _, after := _, guard := _ } from rfl) (fun K hK => ?_) AllReadyH.nil
    go_simp
    refine (KR.out _ _ ?_ ?_ ?_).mono ?_
    · exact hHeld.1
    · omega
    · omega
    rintro e w3 ⟨rfl, hbel⟩
    go_wp2_with fail
    refine hK.out _ _ (MS.out _ _ hHeld hbel) (fun hHeld => ?_)
    clear hK K
    try simp only [Act.put, List.setIfInBounds_toArray, List.set_cons_zero, List.set_cons_succ]
    refine wpAnyH_take (i := 15) (v := ?_) (show _ = some { dst := some 93, op := _, type := _, pos := _, after := _, guard := _ } from rfl) (by kernel_rfl) (by kernel_rfl) (by kernel_rfl) (fun _ _ _ h => h) (Or.inl ⟨by rfl, ?_⟩) hHeld ?_
    rotate_left
    · intro w' hSw
      (try dsimp only at hSw)
      go_simp
      try with_reducible rfl
    try simp only [Act.put, List.setIfInBounds_toArray, List.set_cons_zero, List.set_cons_succ]
    refine wpAnyH_take (i := 16) (v := ?_) (show _ = some { dst := some 2, op := _, type := _, pos := _, after := _, guard := _ } from rfl) (by kernel_rfl) (by kernel_rfl) (by kernel_rfl) (fun _ _ _ h => h) (Or.inl ⟨by rfl, ?_⟩) hHeld ?_
    rotate_left
    · intro w' hSw
      (try dsimp only at hSw)
      go_simp
      try with_reducible rfl
    try simp only [Act.put, List.setIfInBounds_toArray, List.set_cons_zero, List.set_cons_succ]
    refine wpAnyH_done (by kernel_rfl) ?_ _
    have hS5 := hHeld
    clear hHeld
    have HB5 := Lib.hid hS5.1
    clear hS5
    go_wp2_with fail
    go_ret
    exact ⟨rfl, HB5.out⟩
set_option maxRecDepth 100000 in
set_option maxHeartbeats 8000000 in
theorem decl_80_n1 (t : ByteArray) (n m a : Int) (c : Nat) (w : World) (hH : Holds w w.heap.size Fo.nil none 0) (hlc : 0 ≤ c) (hcc : c ≤ 1000000000000000) (ht : t.size ≤ 1000000000000000) (hm : m = 0 ∨ m = 1) (hid : idB t = true) (hc0 : 0 < c) (hv : runB 73 (·.var) Fo.nil.inf = true) :
    Calls Try.prog 59 #[.agg #[.int .i64 80, .string t, .int .i64 n, .int .i64 m, .int .i64 a, .slice none 0 c]] w fun e w' => e = .returned (.bool (funcD n Fo.nil.inf true)) ∧ Below w.heap.size w w' := by
  obtain ⟨y, hy⟩ : ∃ y, funcD n Fo.nil.inf true = y := ⟨_, rfl⟩
  rw [hy]
  unfold funcD at hy
  have HS := Lib.hid (fun o => Wk.start w o Fo.nil none c hH)
  have KI := Lib.hid (fun W => isname_any 80 t n m a 0 none c ht W)
  rw [hid] at KI
  rw [hv] at hy
  rw [Bool.true_and] at hy
  have KWH := Lib.hid (fun W (h : Wk (w.heap.size + 1) 0 Fo.nil none c (w.heap.size + 1) W) => (while_variable Fo.nil (allV Fo.nil) h (Nat.zero_le _) hlc hcc).mono (fun (e : Ending) (w' : World) ⟨b, he, hb, hk, hB⟩ => by
    rw [List.drop_zero] at hb hk
    rw [hv] at hb
    have hk2 := hk hb
    rw [Nat.zero_add] at hk2
    exact (show e = Ending.returned (.bool true) ∧ Wk (w.heap.size + 1) (runN 73 Fo.nil.inf) Fo.nil none c (w.heap.size + 1) w' ∧ w'.cell? ⟨w.heap.size + 1, 0, none⟩ = some (.int .i64 (runN 73 Fo.nil.inf : Nat)) ∧ Below (w.heap.size + 1) W w' from ⟨by rw [he, hb], hk2, hk2.c0, hB⟩)))
  rw [show runN 73 Fo.nil.inf = 0 from rfl] at hy KWH
  rw [List.drop_zero] at hy
  have KR : Hid (∀ (A' : Option Addr) (c' : Nat) {W : World}, Below w.heap.size w W → 0 ≤ c' → c' ≤ 1000000000000000 → Calls Try.prog 47 #[.agg #[.int .i64 80, .string t, .int .i64 n, .int .i64 m, .int .i64 a, .slice none 0 c], .slice A' 0 c', .bool true] W fun e w' => e = .returned (.bool y) ∧ Below W.heap.size W w') := Lib.hid (fun A' c' W hW h1 h2 => by
    have h3 := routine_any .nil trivial 80 t n m a 0 none c true A' c' W trivial (Nat.zero_le _) h2
    rw [hy] at h3
    exact h3)
  clear hH hy hv hlc
  have tm : (m != 0) = false ∨ (m != 0) = true ∧ (m != 1) = false := by rcases hm with rfl | rfl <;> simp
  clear hm
  rcases tm with t0 | ⟨t0, t1m⟩
  all_goals
    go_enter Try.func59, Try.ntmps59
    go_wp2_with fail
    refine (KI.out _).mono ?_
    rintro e w1 ⟨rfl, hb1⟩
    have HK := Lib.hid ((HS.out _).later hb1)
    have bx := ((Box.new w 80 t n _ a 0 none c).later ((Below.refl _ _).alloc (Nat.le_refl _) (.cells #[.int .i64 0, .slice none 0 c] 56))).later hb1
    have HBx := Lib.hid bx
    have KW := Lib.hid (KWH.out _ (HK.out.later (Below.drew (Below.refl _ _))))
    have hs1 : w.heap.size + 1 < w1.heap.size := HK.out.lt
    obtain ⟨-, -, c0, c1, c2, c3, c4, c5⟩ := bx
    have p1 := HK.out.c1
    have HB01 := Lib.hid HBx.out.below
    clear hb1 HS KI
    have MK := Lib.hid (show ∀ w', BD w w' → Wk (w.heap.size + 1) 0 Fo.nil none c (w.heap.size + 1) w' → Below (w.heap.size + 1) w1.drew w' → (fun w' => BD w w' ∧ w.heap.size + 1 < w'.heap.size ∧ w'.cell? ⟨w.heap.size, 0, none⟩ = some (.int .i64 80) ∧ w'.cell? ⟨w.heap.size, 1, none⟩ = some (.string t) ∧ w'.cell? ⟨w.heap.size, 2, none⟩ = some (.int .i64 n) ∧ w'.cell? ⟨w.heap.size, 3, none⟩ = some (.int .i64 m) ∧ w'.cell? ⟨w.heap.size, 4, none⟩ = some (.int .i64 a) ∧ w'.cell? ⟨w.heap.size, 5, none⟩ = some (.slice none 0 c) ∧ w'.cell? ⟨w.heap.size + 1, 1, none⟩ = some (.slice none 0 c)) w' from fun w' h0 hk h => ⟨h0, hk.lt, (h.cell (p := ⟨w.heap.size, 0, none⟩) (Nat.lt_succ_self _)).trans c0, (h.cell (p := ⟨w.heap.size, 1, none⟩) (Nat.lt_succ_self _)).trans c1, (h.cell (p := ⟨w.heap.size, 2, none⟩) (Nat.lt_succ_self _)).trans c2, (h.cell (p := ⟨w.heap.size, 3, none⟩) (Nat.lt_succ_self _)).trans c3, (h.cell (p := ⟨w.heap.size, 4, none⟩) (Nat.lt_succ_self _)).trans c4, (h.cell (p := ⟨w.heap.size, 5, none⟩) (Nat.lt_succ_self _)).trans c5, hk.c1⟩)
    have MS := Lib.hid (show ∀ w' w'', (fun w' => BD w w' ∧ w.heap.size + 1 < w'.heap.size ∧ w'.cell? ⟨w.heap.size, 0, none⟩ = some (.int .i64 80) ∧ w'.cell? ⟨w.heap.size, 1, none⟩ = some (.string t) ∧ w'.cell? ⟨w.heap.size, 2, none⟩ = some (.int .i64 n) ∧ w'.cell? ⟨w.heap.size, 3, none⟩ = some (.int .i64 m) ∧ w'.cell? ⟨w.heap.size, 4, none⟩ = some (.int .i64 a) ∧ w'.cell? ⟨w.heap.size, 5, none⟩ = some (.slice none 0 c) ∧ w'.cell? ⟨w.heap.size + 1, 1, none⟩ = some (.slice none 0 c)) w' → Below w'.heap.size w' w'' → (fun w' => BD w w' ∧ w.heap.size + 1 < w'.heap.size ∧ w'.cell? ⟨w.heap.size, 0, none⟩ = some (.int .i64 80) ∧ w'.cell? ⟨w.heap.size, 1, none⟩ = some (.string t) ∧ w'.cell? ⟨w.heap.size, 2, none⟩ = some (.int .i64 n) ∧ w'.cell? ⟨w.heap.size, 3, none⟩ = some (.int .i64 m) ∧ w'.cell? ⟨w.heap.size, 4, none⟩ = some (.int .i64 a) ∧ w'.cell? ⟨w.heap.size, 5, none⟩ = some (.slice none 0 c) ∧ w'.cell? ⟨w.heap.size + 1, 1, none⟩ = some (.slice none 0 c)) w'' from fun w' w'' ⟨h0, hs, d0, d1, d2, d3, d4, d5, e1⟩ h => by
      have h1 : w.heap.size < w'.heap.size := by omega
      exact ⟨below_step h0 h, by have := h.size; omega, (h.cell (p := ⟨w.heap.size, 0, none⟩) h1).trans d0, (h.cell (p := ⟨w.heap.size, 1, none⟩) h1).trans d1, (h.cell (p := ⟨w.heap.size, 2, none⟩) h1).trans d2, (h.cell (p := ⟨w.heap.size, 3, none⟩) h1).trans d3, (h.cell (p := ⟨w.heap.size, 4, none⟩) h1).trans d4, (h.cell (p := ⟨w.heap.size, 5, none⟩) h1).trans d5, (h.cell (p := ⟨w.heap.size + 1, 1, none⟩) hs).trans e1⟩)
    have MB := Lib.hid (show ∀ w', Below (w.heap.size + 1) w1.drew w' → BD w w' from fun w' h => (Below.drew HB01.out).trans (h.mono (by omega)))
    have S0 : (fun w' => BD w w' ∧ w.heap.size + 1 < w'.heap.size ∧ w'.cell? ⟨w.heap.size, 0, none⟩ = some (.int .i64 80) ∧ w'.cell? ⟨w.heap.size, 1, none⟩ = some (.string t) ∧ w'.cell? ⟨w.heap.size, 2, none⟩ = some (.int .i64 n) ∧ w'.cell? ⟨w.heap.size, 3, none⟩ = some (.int .i64 m) ∧ w'.cell? ⟨w.heap.size, 4, none⟩ = some (.int .i64 a) ∧ w'.cell? ⟨w.heap.size, 5, none⟩ = some (.slice none 0 c) ∧ w'.cell? ⟨w.heap.size + 1, 1, none⟩ = some (.slice none 0 c)) w1.drew := ⟨Below.drew HB01.out, hs1, c0, c1, c2, c3, c4, c5, p1⟩
    clear p1 HBx HK hs1 c1 c2 c4 c5
    go_wp2_with fail
    refine wp_region_held_drew (S := (fun w' => BD w w' ∧ w.heap.size + 1 < w'.heap.size ∧ w'.cell? ⟨w.heap.size, 0, none⟩ = some (.int .i64 80) ∧ w'.cell? ⟨w.heap.size, 1, none⟩ = some (.string t) ∧ w'.cell? ⟨w.heap.size, 2, none⟩ = some (.int .i64 n) ∧ w'.cell? ⟨w.heap.size, 3, none⟩ = some (.int .i64 m) ∧ w'.cell? ⟨w.heap.size, 4, none⟩ = some (.int .i64 a) ∧ w'.cell? ⟨w.heap.size, 5, none⟩ = some (.slice none 0 c) ∧ w'.cell? ⟨w.heap.size + 1, 1, none⟩ = some (.slice none 0 c))) (by kernel_rfl) S0 (fun hHeld => ?_)
    refine wpAnyH_take (i := 0) (v := ?_) (show _ = some { dst := some 78, op := _, type := _, pos := _, after := _, guard := _ } from rfl) (by kernel_rfl) (by kernel_rfl) (by kernel_rfl) (fun _ _ _ h => h) (Or.inl ⟨by rfl, ?_⟩) hHeld ?_
    rotate_left
    · intro w' hSw
      (try dsimp only at hSw)
      go_simp
      try with_reducible rfl
    try simp only [Act.put, List.setIfInBounds_toArray, List.set_cons_zero, List.set_cons_succ]
    refine wpAnyH_ready (rs := [1]) (by kernel_rfl) (by simp) ?_
    refine AllReadyH.cons (show _ = some { dst := some 79, op := _, type := _, pos := _, after := _, guard := _ } from rfl) (fun K hK => ?_) AllReadyH.nil
    go_simp
    refine KW.out.mono ?_
    rintro e w2 ⟨rfl, hk, hk0, hbel⟩
    go_wp2_with fail
    refine hK.out _ _ (MK.out _ (MB.out _ hbel) hk hbel) (fun hHeld => ?_)
    clear hK K
    try simp only [Act.put, List.setIfInBounds_toArray, List.set_cons_zero, List.set_cons_succ]
    refine wpAnyH_take (i := 2) (v := ?_) (show _ = some { dst := some 80, op := _, type := _, pos := _, after := _, guard := _ } from rfl) (by kernel_rfl) (by kernel_rfl) (by kernel_rfl) (fun _ _ _ h => h) (Or.inl ⟨by rfl, ?_⟩) hHeld ?_
    rotate_left
    · intro w' hSw
      (try dsimp only at hSw)
      go_simp
      try with_reducible rfl
    try simp only [Act.put, List.setIfInBounds_toArray, List.set_cons_zero, List.set_cons_succ]
    refine wpAnyH_take (i := 3) (v := ?_) (show _ = some { dst := some 81, op := _, type := _, pos := _, after := _, guard := _ } from rfl) (by kernel_rfl) (by kernel_rfl) (by kernel_rfl) (fun _ _ _ h => h) (Or.inl ⟨by rfl, ?_⟩) hHeld ?_
    rotate_left
    · intro w' hSw
      (try dsimp only at hSw)
      go_simp
      try with_reducible rfl
    try simp only [Act.put, List.setIfInBounds_toArray, List.set_cons_zero, List.set_cons_succ]
    refine wpAnyH_take (i := 4) (v := ?_) (show _ = some { dst := some 82, op := _, type := _, pos := _, after := _, guard := _ } from rfl) (by kernel_rfl) (by kernel_rfl) (by kernel_rfl) (fun _ _ _ h => h) (Or.inl ⟨by rfl, ?_⟩) hHeld ?_
    rotate_left
    · intro w' hSw
      (try dsimp only at hSw)
      go_simp
      try with_reducible rfl
    try simp only [Act.put, List.setIfInBounds_toArray, List.set_cons_zero, List.set_cons_succ]
    refine wpAnyH_take (i := 5) (v := ?_) (show _ = some { dst := some 83, op := _, type := _, pos := _, after := _, guard := _ } from rfl) (by kernel_rfl) (by kernel_rfl) (by kernel_rfl) (fun _ _ _ h => h) (Or.inl ⟨by rfl, ?_⟩) hHeld ?_
    rotate_left
    · intro w' hSw
      (try dsimp only at hSw)
      go_simp
      try with_reducible rfl
    try simp only [Act.put, List.setIfInBounds_toArray, List.set_cons_zero, List.set_cons_succ]
    refine wpAnyH_take (i := 6) (v := ?_) (show _ = some { dst := some 84, op := _, type := _, pos := _, after := _, guard := _ } from rfl) (by kernel_rfl) (by kernel_rfl) (by kernel_rfl) (fun _ _ _ h => h) (Or.inl ⟨by rfl, ?_⟩) hHeld ?_
    rotate_left
    · intro w' hSw
      (try dsimp only at hSw)
      go_simp
      try with_reducible rfl
    try simp only [Act.put, List.setIfInBounds_toArray, List.set_cons_zero, List.set_cons_succ]
    refine wpAnyH_take (i := 7) (v := ?_) (show _ = some { dst := some 85, op := _, type := _, pos := _, after := _, guard := _ } from rfl) (by kernel_rfl) (by kernel_rfl) (by kernel_rfl) (fun _ _ _ h => h) (Or.inl ⟨by rfl, ?_⟩) hHeld ?_
    rotate_left
    · intro w' hSw
      (try dsimp only at hSw)
      go_simp
      try with_reducible rfl
    try simp only [Act.put, List.setIfInBounds_toArray, List.set_cons_zero, List.set_cons_succ]
    refine wpAnyH_take (i := 8) (v := ?_) (show _ = some { dst := some 86, op := _, type := _, pos := _, after := _, guard := _ } from rfl) (by kernel_rfl) (by kernel_rfl) (by kernel_rfl) (fun _ _ _ h => h) (Or.inl ⟨by rfl, ?_⟩) hHeld ?_
    rotate_left
    · intro w' hSw
      (try dsimp only at hSw)
      go_simp
      try with_reducible rfl
    try simp only [Act.put, List.setIfInBounds_toArray, List.set_cons_zero, List.set_cons_succ]
    refine wpAnyH_take (i := 9) (v := ?_) (show _ = some { dst := some 87, op := _, type := _, pos := _, after := _, guard := _ } from rfl) (by kernel_rfl) (by kernel_rfl) (by kernel_rfl) (fun _ _ _ h => h) (Or.inl ⟨by rfl, ?_⟩) hHeld ?_
    rotate_left
    · intro w' hSw
      (try dsimp only at hSw)
      go_simp
      try with_reducible rfl
    try simp only [Act.put, List.setIfInBounds_toArray, List.set_cons_zero, List.set_cons_succ]
    refine wpAnyH_take (i := 10) (v := ?_) (show _ = some { dst := some 88, op := _, type := _, pos := _, after := _, guard := _ } from rfl) (by kernel_rfl) (by kernel_rfl) (by kernel_rfl) (fun _ _ _ h => h) (Or.inl ⟨by rfl, ?_⟩) hHeld ?_
    rotate_left
    · intro w' hSw
      (try dsimp only at hSw)
      go_simp
      try with_reducible rfl
    try simp only [Act.put, List.setIfInBounds_toArray, List.set_cons_zero, List.set_cons_succ]
    refine wpAnyH_take (i := 11) (v := ?_) (show _ = some { dst := some 89, op := _, type := _, pos := _, after := _, guard := _ } from rfl) (by kernel_rfl) (by kernel_rfl) (by kernel_rfl) (fun _ _ _ h => h) (Or.inl ⟨by rfl, ?_⟩) hHeld ?_
    rotate_left
    · intro w' hSw
      (try dsimp only at hSw)
      go_simp
      try with_reducible rfl
    try simp only [Act.put, List.setIfInBounds_toArray, List.set_cons_zero, List.set_cons_succ]
    refine wpAnyH_ready (rs := [12]) (by kernel_rfl) (by simp) ?_
    refine AllReadyH.cons (show _ = some { dst := some 90, op := _, type := _, pos := _, after := _, guard := _ } from rfl) (fun K hK => ?_) AllReadyH.nil
    go_simp
    refine hK.out _ _ (hHeld) (fun hHeld => ?_)
    clear hK K
    try simp only [Act.put, List.setIfInBounds_toArray, List.set_cons_zero, List.set_cons_succ]
    refine wpAnyH_take (i := 13) (v := ?_) (show _ = some { dst := some 91, op := _, type := _, pos := _, after := _, guard := _ } from rfl) (by kernel_rfl) (by kernel_rfl) (by kernel_rfl) (fun _ _ _ h => h) (Or.inl ⟨by rfl, ?_⟩) hHeld ?_
    rotate_left
    · intro w' hSw
      (try dsimp only at hSw)
      go_simp
      try with_reducible rfl
    try simp only [Act.put, List.setIfInBounds_toArray, List.set_cons_zero, List.set_cons_succ]
    refine wpAnyH_ready (rs := [14]) (by kernel_rfl) (by simp) ?_
    refine AllReadyH.cons (show _ = some { dst := some 92, op := _, type := _, pos := _, after := _, guard := _ } from rfl) (fun K hK => ?_) AllReadyH.nil
    go_simp
    refine (KR.out _ _ ?_ ?_ ?_).mono ?_
    · exact hHeld.1
    · omega
    · omega
    rintro e w3 ⟨rfl, hbel⟩
    go_wp2_with fail
    refine hK.out _ _ (MS.out _ _ hHeld hbel) (fun hHeld => ?_)
    clear hK K
    try simp only [Act.put, List.setIfInBounds_toArray, List.set_cons_zero, List.set_cons_succ]
    refine wpAnyH_take (i := 15) (v := ?_) (show _ = some { dst := some 93, op := _, type := _, pos := _, after := _, guard := _ } from rfl) (by kernel_rfl) (by kernel_rfl) (by kernel_rfl) (fun _ _ _ h => h) (Or.inl ⟨by rfl, ?_⟩) hHeld ?_
    rotate_left
    · intro w' hSw
      (try dsimp only at hSw)
      go_simp
      try with_reducible rfl
    try simp only [Act.put, List.setIfInBounds_toArray, List.set_cons_zero, List.set_cons_succ]
    refine wpAnyH_take (i := 16) (v := ?_) (show _ = some { dst := some 2, op := _, type := _, pos := _, after := _, guard := _ } from rfl) (by kernel_rfl) (by kernel_rfl) (by kernel_rfl) (fun _ _ _ h => h) (Or.inl ⟨by rfl, ?_⟩) hHeld ?_
    rotate_left
    · intro w' hSw
      (try dsimp only at hSw)
      go_simp
      try with_reducible rfl
    try simp only [Act.put, List.setIfInBounds_toArray, List.set_cons_zero, List.set_cons_succ]
    refine wpAnyH_done (by kernel_rfl) ?_ _
    have hS5 := hHeld
    clear hHeld
    have HB5 := Lib.hid hS5.1
    clear hS5
    go_wp2_with fail
    go_ret
    exact ⟨rfl, HB5.out⟩
set_option maxRecDepth 100000 in
set_option maxHeartbeats 8000000 in
theorem decl_80_s1 (t : ByteArray) (n m a : Int) (ad : Addr) (c : Nat) (w : World) (hH : Holds w w.heap.size Fo.nil (some ad) 0) (hlc : 0 ≤ c) (hcc : c ≤ 1000000000000000) (ht : t.size ≤ 1000000000000000) (hm : m = 0 ∨ m = 1) (hid : idB t = true) (hc0 : 0 < c) (hv : runB 73 (·.var) Fo.nil.inf = true) :
    Calls Try.prog 59 #[.agg #[.int .i64 80, .string t, .int .i64 n, .int .i64 m, .int .i64 a, .slice (some ad) 0 c]] w fun e w' => e = .returned (.bool (funcD n Fo.nil.inf true)) ∧ Below w.heap.size w w' := by
  obtain ⟨y, hy⟩ : ∃ y, funcD n Fo.nil.inf true = y := ⟨_, rfl⟩
  rw [hy]
  unfold funcD at hy
  have HS := Lib.hid (fun o => Wk.start w o Fo.nil (some ad) c hH)
  have KI := Lib.hid (fun W => isname_any 80 t n m a 0 (some ad) c ht W)
  rw [hid] at KI
  rw [hv] at hy
  rw [Bool.true_and] at hy
  have KWH := Lib.hid (fun W (h : Wk (w.heap.size + 1) 0 Fo.nil (some ad) c (w.heap.size + 1) W) => (while_variable Fo.nil (allV Fo.nil) h (Nat.zero_le _) hlc hcc).mono (fun (e : Ending) (w' : World) ⟨b, he, hb, hk, hB⟩ => by
    rw [List.drop_zero] at hb hk
    rw [hv] at hb
    have hk2 := hk hb
    rw [Nat.zero_add] at hk2
    exact (show e = Ending.returned (.bool true) ∧ Wk (w.heap.size + 1) (runN 73 Fo.nil.inf) Fo.nil (some ad) c (w.heap.size + 1) w' ∧ w'.cell? ⟨w.heap.size + 1, 0, none⟩ = some (.int .i64 (runN 73 Fo.nil.inf : Nat)) ∧ Below (w.heap.size + 1) W w' from ⟨by rw [he, hb], hk2, hk2.c0, hB⟩)))
  rw [show runN 73 Fo.nil.inf = 0 from rfl] at hy KWH
  rw [List.drop_zero] at hy
  have KR : Hid (∀ (A' : Option Addr) (c' : Nat) {W : World}, Below w.heap.size w W → 0 ≤ c' → c' ≤ 1000000000000000 → Calls Try.prog 47 #[.agg #[.int .i64 80, .string t, .int .i64 n, .int .i64 m, .int .i64 a, .slice (some ad) 0 c], .slice A' 0 c', .bool true] W fun e w' => e = .returned (.bool y) ∧ Below W.heap.size W w') := Lib.hid (fun A' c' W hW h1 h2 => by
    have h3 := routine_any .nil trivial 80 t n m a 0 (some ad) c true A' c' W trivial (Nat.zero_le _) h2
    rw [hy] at h3
    exact h3)
  clear hH hy hv hlc
  have tm : (m != 0) = false ∨ (m != 0) = true ∧ (m != 1) = false := by rcases hm with rfl | rfl <;> simp
  clear hm
  rcases tm with t0 | ⟨t0, t1m⟩
  all_goals
    go_enter Try.func59, Try.ntmps59
    go_wp2_with fail
    refine (KI.out _).mono ?_
    rintro e w1 ⟨rfl, hb1⟩
    have HK := Lib.hid ((HS.out _).later hb1)
    have bx := ((Box.new w 80 t n _ a 0 (some ad) c).later ((Below.refl _ _).alloc (Nat.le_refl _) (.cells #[.int .i64 0, .slice (some ad) 0 c] 56))).later hb1
    have HBx := Lib.hid bx
    have KW := Lib.hid (KWH.out _ (HK.out.later (Below.drew (Below.refl _ _))))
    have hs1 : w.heap.size + 1 < w1.heap.size := HK.out.lt
    obtain ⟨-, -, c0, c1, c2, c3, c4, c5⟩ := bx
    have p1 := HK.out.c1
    have HB01 := Lib.hid HBx.out.below
    clear hb1 HS KI
    have MK := Lib.hid (show ∀ w', BD w w' → Wk (w.heap.size + 1) 0 Fo.nil (some ad) c (w.heap.size + 1) w' → Below (w.heap.size + 1) w1.drew w' → (fun w' => BD w w' ∧ w.heap.size + 1 < w'.heap.size ∧ w'.cell? ⟨w.heap.size, 0, none⟩ = some (.int .i64 80) ∧ w'.cell? ⟨w.heap.size, 1, none⟩ = some (.string t) ∧ w'.cell? ⟨w.heap.size, 2, none⟩ = some (.int .i64 n) ∧ w'.cell? ⟨w.heap.size, 3, none⟩ = some (.int .i64 m) ∧ w'.cell? ⟨w.heap.size, 4, none⟩ = some (.int .i64 a) ∧ w'.cell? ⟨w.heap.size, 5, none⟩ = some (.slice (some ad) 0 c) ∧ w'.cell? ⟨w.heap.size + 1, 1, none⟩ = some (.slice (some ad) 0 c)) w' from fun w' h0 hk h => ⟨h0, hk.lt, (h.cell (p := ⟨w.heap.size, 0, none⟩) (Nat.lt_succ_self _)).trans c0, (h.cell (p := ⟨w.heap.size, 1, none⟩) (Nat.lt_succ_self _)).trans c1, (h.cell (p := ⟨w.heap.size, 2, none⟩) (Nat.lt_succ_self _)).trans c2, (h.cell (p := ⟨w.heap.size, 3, none⟩) (Nat.lt_succ_self _)).trans c3, (h.cell (p := ⟨w.heap.size, 4, none⟩) (Nat.lt_succ_self _)).trans c4, (h.cell (p := ⟨w.heap.size, 5, none⟩) (Nat.lt_succ_self _)).trans c5, hk.c1⟩)
    have MS := Lib.hid (show ∀ w' w'', (fun w' => BD w w' ∧ w.heap.size + 1 < w'.heap.size ∧ w'.cell? ⟨w.heap.size, 0, none⟩ = some (.int .i64 80) ∧ w'.cell? ⟨w.heap.size, 1, none⟩ = some (.string t) ∧ w'.cell? ⟨w.heap.size, 2, none⟩ = some (.int .i64 n) ∧ w'.cell? ⟨w.heap.size, 3, none⟩ = some (.int .i64 m) ∧ w'.cell? ⟨w.heap.size, 4, none⟩ = some (.int .i64 a) ∧ w'.cell? ⟨w.heap.size, 5, none⟩ = some (.slice (some ad) 0 c) ∧ w'.cell? ⟨w.heap.size + 1, 1, none⟩ = some (.slice (some ad) 0 c)) w' → Below w'.heap.size w' w'' → (fun w' => BD w w' ∧ w.heap.size + 1 < w'.heap.size ∧ w'.cell? ⟨w.heap.size, 0, none⟩ = some (.int .i64 80) ∧ w'.cell? ⟨w.heap.size, 1, none⟩ = some (.string t) ∧ w'.cell? ⟨w.heap.size, 2, none⟩ = some (.int .i64 n) ∧ w'.cell? ⟨w.heap.size, 3, none⟩ = some (.int .i64 m) ∧ w'.cell? ⟨w.heap.size, 4, none⟩ = some (.int .i64 a) ∧ w'.cell? ⟨w.heap.size, 5, none⟩ = some (.slice (some ad) 0 c) ∧ w'.cell? ⟨w.heap.size + 1, 1, none⟩ = some (.slice (some ad) 0 c)) w'' from fun w' w'' ⟨h0, hs, d0, d1, d2, d3, d4, d5, e1⟩ h => by
      have h1 : w.heap.size < w'.heap.size := by omega
      exact ⟨below_step h0 h, by have := h.size; omega, (h.cell (p := ⟨w.heap.size, 0, none⟩) h1).trans d0, (h.cell (p := ⟨w.heap.size, 1, none⟩) h1).trans d1, (h.cell (p := ⟨w.heap.size, 2, none⟩) h1).trans d2, (h.cell (p := ⟨w.heap.size, 3, none⟩) h1).trans d3, (h.cell (p := ⟨w.heap.size, 4, none⟩) h1).trans d4, (h.cell (p := ⟨w.heap.size, 5, none⟩) h1).trans d5, (h.cell (p := ⟨w.heap.size + 1, 1, none⟩) hs).trans e1⟩)
    have MB := Lib.hid (show ∀ w', Below (w.heap.size + 1) w1.drew w' → BD w w' from fun w' h => (Below.drew HB01.out).trans (h.mono (by omega)))
    have S0 : (fun w' => BD w w' ∧ w.heap.size + 1 < w'.heap.size ∧ w'.cell? ⟨w.heap.size, 0, none⟩ = some (.int .i64 80) ∧ w'.cell? ⟨w.heap.size, 1, none⟩ = some (.string t) ∧ w'.cell? ⟨w.heap.size, 2, none⟩ = some (.int .i64 n) ∧ w'.cell? ⟨w.heap.size, 3, none⟩ = some (.int .i64 m) ∧ w'.cell? ⟨w.heap.size, 4, none⟩ = some (.int .i64 a) ∧ w'.cell? ⟨w.heap.size, 5, none⟩ = some (.slice (some ad) 0 c) ∧ w'.cell? ⟨w.heap.size + 1, 1, none⟩ = some (.slice (some ad) 0 c)) w1.drew := ⟨Below.drew HB01.out, hs1, c0, c1, c2, c3, c4, c5, p1⟩
    clear p1 HBx HK hs1 c1 c2 c4 c5
    go_wp2_with fail
    refine wp_region_held_drew (S := (fun w' => BD w w' ∧ w.heap.size + 1 < w'.heap.size ∧ w'.cell? ⟨w.heap.size, 0, none⟩ = some (.int .i64 80) ∧ w'.cell? ⟨w.heap.size, 1, none⟩ = some (.string t) ∧ w'.cell? ⟨w.heap.size, 2, none⟩ = some (.int .i64 n) ∧ w'.cell? ⟨w.heap.size, 3, none⟩ = some (.int .i64 m) ∧ w'.cell? ⟨w.heap.size, 4, none⟩ = some (.int .i64 a) ∧ w'.cell? ⟨w.heap.size, 5, none⟩ = some (.slice (some ad) 0 c) ∧ w'.cell? ⟨w.heap.size + 1, 1, none⟩ = some (.slice (some ad) 0 c))) (by kernel_rfl) S0 (fun hHeld => ?_)
    refine wpAnyH_take (i := 0) (v := ?_) (show _ = some { dst := some 78, op := _, type := _, pos := _, after := _, guard := _ } from rfl) (by kernel_rfl) (by kernel_rfl) (by kernel_rfl) (fun _ _ _ h => h) (Or.inl ⟨by rfl, ?_⟩) hHeld ?_
    rotate_left
    · intro w' hSw
      (try dsimp only at hSw)
      go_simp
      try with_reducible rfl
    try simp only [Act.put, List.setIfInBounds_toArray, List.set_cons_zero, List.set_cons_succ]
    refine wpAnyH_ready (rs := [1]) (by kernel_rfl) (by simp) ?_
    refine AllReadyH.cons (show _ = some { dst := some 79, op := _, type := _, pos := _, after := _, guard := _ } from rfl) (fun K hK => ?_) AllReadyH.nil
    go_simp
    refine KW.out.mono ?_
    rintro e w2 ⟨rfl, hk, hk0, hbel⟩
    go_wp2_with fail
    refine hK.out _ _ (MK.out _ (MB.out _ hbel) hk hbel) (fun hHeld => ?_)
    clear hK K
    try simp only [Act.put, List.setIfInBounds_toArray, List.set_cons_zero, List.set_cons_succ]
    refine wpAnyH_take (i := 2) (v := ?_) (show _ = some { dst := some 80, op := _, type := _, pos := _, after := _, guard := _ } from rfl) (by kernel_rfl) (by kernel_rfl) (by kernel_rfl) (fun _ _ _ h => h) (Or.inl ⟨by rfl, ?_⟩) hHeld ?_
    rotate_left
    · intro w' hSw
      (try dsimp only at hSw)
      go_simp
      try with_reducible rfl
    try simp only [Act.put, List.setIfInBounds_toArray, List.set_cons_zero, List.set_cons_succ]
    refine wpAnyH_take (i := 3) (v := ?_) (show _ = some { dst := some 81, op := _, type := _, pos := _, after := _, guard := _ } from rfl) (by kernel_rfl) (by kernel_rfl) (by kernel_rfl) (fun _ _ _ h => h) (Or.inl ⟨by rfl, ?_⟩) hHeld ?_
    rotate_left
    · intro w' hSw
      (try dsimp only at hSw)
      go_simp
      try with_reducible rfl
    try simp only [Act.put, List.setIfInBounds_toArray, List.set_cons_zero, List.set_cons_succ]
    refine wpAnyH_take (i := 4) (v := ?_) (show _ = some { dst := some 82, op := _, type := _, pos := _, after := _, guard := _ } from rfl) (by kernel_rfl) (by kernel_rfl) (by kernel_rfl) (fun _ _ _ h => h) (Or.inl ⟨by rfl, ?_⟩) hHeld ?_
    rotate_left
    · intro w' hSw
      (try dsimp only at hSw)
      go_simp
      try with_reducible rfl
    try simp only [Act.put, List.setIfInBounds_toArray, List.set_cons_zero, List.set_cons_succ]
    refine wpAnyH_take (i := 5) (v := ?_) (show _ = some { dst := some 83, op := _, type := _, pos := _, after := _, guard := _ } from rfl) (by kernel_rfl) (by kernel_rfl) (by kernel_rfl) (fun _ _ _ h => h) (Or.inl ⟨by rfl, ?_⟩) hHeld ?_
    rotate_left
    · intro w' hSw
      (try dsimp only at hSw)
      go_simp
      try with_reducible rfl
    try simp only [Act.put, List.setIfInBounds_toArray, List.set_cons_zero, List.set_cons_succ]
    refine wpAnyH_take (i := 6) (v := ?_) (show _ = some { dst := some 84, op := _, type := _, pos := _, after := _, guard := _ } from rfl) (by kernel_rfl) (by kernel_rfl) (by kernel_rfl) (fun _ _ _ h => h) (Or.inl ⟨by rfl, ?_⟩) hHeld ?_
    rotate_left
    · intro w' hSw
      (try dsimp only at hSw)
      go_simp
      try with_reducible rfl
    try simp only [Act.put, List.setIfInBounds_toArray, List.set_cons_zero, List.set_cons_succ]
    refine wpAnyH_take (i := 7) (v := ?_) (show _ = some { dst := some 85, op := _, type := _, pos := _, after := _, guard := _ } from rfl) (by kernel_rfl) (by kernel_rfl) (by kernel_rfl) (fun _ _ _ h => h) (Or.inl ⟨by rfl, ?_⟩) hHeld ?_
    rotate_left
    · intro w' hSw
      (try dsimp only at hSw)
      go_simp
      try with_reducible rfl
    try simp only [Act.put, List.setIfInBounds_toArray, List.set_cons_zero, List.set_cons_succ]
    refine wpAnyH_take (i := 8) (v := ?_) (show _ = some { dst := some 86, op := _, type := _, pos := _, after := _, guard := _ } from rfl) (by kernel_rfl) (by kernel_rfl) (by kernel_rfl) (fun _ _ _ h => h) (Or.inl ⟨by rfl, ?_⟩) hHeld ?_
    rotate_left
    · intro w' hSw
      (try dsimp only at hSw)
      go_simp
      try with_reducible rfl
    try simp only [Act.put, List.setIfInBounds_toArray, List.set_cons_zero, List.set_cons_succ]
    refine wpAnyH_take (i := 9) (v := ?_) (show _ = some { dst := some 87, op := _, type := _, pos := _, after := _, guard := _ } from rfl) (by kernel_rfl) (by kernel_rfl) (by kernel_rfl) (fun _ _ _ h => h) (Or.inl ⟨by rfl, ?_⟩) hHeld ?_
    rotate_left
    · intro w' hSw
      (try dsimp only at hSw)
      go_simp
      try with_reducible rfl
    try simp only [Act.put, List.setIfInBounds_toArray, List.set_cons_zero, List.set_cons_succ]
    refine wpAnyH_take (i := 10) (v := ?_) (show _ = some { dst := some 88, op := _, type := _, pos := _, after := _, guard := _ } from rfl) (by kernel_rfl) (by kernel_rfl) (by kernel_rfl) (fun _ _ _ h => h) (Or.inl ⟨by rfl, ?_⟩) hHeld ?_
    rotate_left
    · intro w' hSw
      (try dsimp only at hSw)
      go_simp
      try with_reducible rfl
    try simp only [Act.put, List.setIfInBounds_toArray, List.set_cons_zero, List.set_cons_succ]
    refine wpAnyH_take (i := 11) (v := ?_) (show _ = some { dst := some 89, op := _, type := _, pos := _, after := _, guard := _ } from rfl) (by kernel_rfl) (by kernel_rfl) (by kernel_rfl) (fun _ _ _ h => h) (Or.inl ⟨by rfl, ?_⟩) hHeld ?_
    rotate_left
    · intro w' hSw
      (try dsimp only at hSw)
      go_simp
      try with_reducible rfl
    try simp only [Act.put, List.setIfInBounds_toArray, List.set_cons_zero, List.set_cons_succ]
    refine wpAnyH_ready (rs := [12]) (by kernel_rfl) (by simp) ?_
    refine AllReadyH.cons (show _ = some { dst := some 90, op := _, type := _, pos := _, after := _, guard := _ } from rfl) (fun K hK => ?_) AllReadyH.nil
    go_simp
    refine hK.out _ _ (hHeld) (fun hHeld => ?_)
    clear hK K
    try simp only [Act.put, List.setIfInBounds_toArray, List.set_cons_zero, List.set_cons_succ]
    refine wpAnyH_take (i := 13) (v := ?_) (show _ = some { dst := some 91, op := _, type := _, pos := _, after := _, guard := _ } from rfl) (by kernel_rfl) (by kernel_rfl) (by kernel_rfl) (fun _ _ _ h => h) (Or.inl ⟨by rfl, ?_⟩) hHeld ?_
    rotate_left
    · intro w' hSw
      (try dsimp only at hSw)
      go_simp
      try with_reducible rfl
    try simp only [Act.put, List.setIfInBounds_toArray, List.set_cons_zero, List.set_cons_succ]
    refine wpAnyH_ready (rs := [14]) (by kernel_rfl) (by simp) ?_
    refine AllReadyH.cons (show _ = some { dst := some 92, op := _, type := _, pos := _, after := _, guard := _ } from rfl) (fun K hK => ?_) AllReadyH.nil
    go_simp
    refine (KR.out _ _ ?_ ?_ ?_).mono ?_
    · exact hHeld.1
    · omega
    · omega
    rintro e w3 ⟨rfl, hbel⟩
    go_wp2_with fail
    refine hK.out _ _ (MS.out _ _ hHeld hbel) (fun hHeld => ?_)
    clear hK K
    try simp only [Act.put, List.setIfInBounds_toArray, List.set_cons_zero, List.set_cons_succ]
    refine wpAnyH_take (i := 15) (v := ?_) (show _ = some { dst := some 93, op := _, type := _, pos := _, after := _, guard := _ } from rfl) (by kernel_rfl) (by kernel_rfl) (by kernel_rfl) (fun _ _ _ h => h) (Or.inl ⟨by rfl, ?_⟩) hHeld ?_
    rotate_left
    · intro w' hSw
      (try dsimp only at hSw)
      go_simp
      try with_reducible rfl
    try simp only [Act.put, List.setIfInBounds_toArray, List.set_cons_zero, List.set_cons_succ]
    refine wpAnyH_take (i := 16) (v := ?_) (show _ = some { dst := some 2, op := _, type := _, pos := _, after := _, guard := _ } from rfl) (by kernel_rfl) (by kernel_rfl) (by kernel_rfl) (fun _ _ _ h => h) (Or.inl ⟨by rfl, ?_⟩) hHeld ?_
    rotate_left
    · intro w' hSw
      (try dsimp only at hSw)
      go_simp
      try with_reducible rfl
    try simp only [Act.put, List.setIfInBounds_toArray, List.set_cons_zero, List.set_cons_succ]
    refine wpAnyH_done (by kernel_rfl) ?_ _
    have hS5 := hHeld
    clear hHeld
    have HB5 := Lib.hid hS5.1
    clear hS5
    go_wp2_with fail
    go_ret
    exact ⟨rfl, HB5.out⟩
set_option maxRecDepth 100000 in
set_option maxHeartbeats 8000000 in
theorem decl_80_c (P : Fo) (t : ByteArray) (n m a : Int) (ad : Addr) (c : Nat) (w : World) (hH : Holds w w.heap.size P (some ad) 0) (hlc : P.len ≤ c) (hcc : c ≤ 1000000000000000) (ht : t.size ≤ 1000000000000000) (hm : m = 0 ∨ m = 1) (hid : idB t = true) (r : Nat) (hr0 : runN 73 P.inf = r) (hcr : c = r) (_h0 : 0 < P.len) (hv : runB 73 (·.var) P.inf = true) :
    Calls Try.prog 59 #[.agg #[.int .i64 80, .string t, .int .i64 n, .int .i64 m, .int .i64 a, .slice (some ad) P.len c]] w fun e w' => e = .returned (.bool (funcD n P.inf true)) ∧ Below w.heap.size w w' := by
  obtain ⟨y, hy⟩ : ∃ y, funcD n P.inf true = y := ⟨_, rfl⟩
  rw [hy]
  unfold funcD at hy
  have HS := Lib.hid (fun o => Wk.start w o P (some ad) c hH)
  have KI := Lib.hid (fun W => isname_any 80 t n m a P.len (some ad) c ht W)
  rw [hid] at KI
  rw [hv] at hy
  rw [Bool.true_and] at hy
  have KWH := Lib.hid (fun W (h : Wk (w.heap.size + 1) 0 P (some ad) c (w.heap.size + 1) W) => (while_variable P (allV P) h (Nat.zero_le _) hlc hcc).mono (fun (e : Ending) (w' : World) ⟨b, he, hb, hk, hB⟩ => by
    rw [List.drop_zero] at hb hk
    rw [hv] at hb
    have hk2 := hk hb
    rw [Nat.zero_add] at hk2
    exact (show e = Ending.returned (.bool true) ∧ Wk (w.heap.size + 1) (runN 73 P.inf) P (some ad) c (w.heap.size + 1) w' ∧ w'.cell? ⟨w.heap.size + 1, 0, none⟩ = some (.int .i64 (runN 73 P.inf : Nat)) ∧ Below (w.heap.size + 1) W w' from ⟨by rw [he, hb], hk2, hk2.c0, hB⟩)))
  have hr : r ≤ P.len := by have := runN_le 73 P.inf; rw [inf_len] at this; omega
  rw [hr0] at hy KWH
  have KR : Hid (∀ (A' : Option Addr) (c' : Nat) {W : World}, Below w.heap.size w W → A' = (some ad) → 0 ≤ c' ∧ c' ≤ 1000000000000000 → Calls Try.prog 47 #[.agg #[.int .i64 80, .string t, .int .i64 n, .int .i64 m, .int .i64 a, .slice (some ad) P.len c], .slice A' 0 c', .bool true] W fun e w' => e = .returned (.bool y) ∧ Below W.heap.size W w') := Lib.hid (fun A' c' W hW hA h2 => by
    subst hA
    have hT : Holds w w.heap.size (P.drop r) (some ad) 0 := hH.tail r (.inr ⟨by omega, rfl⟩)
    have h3 := routine_any (P.drop r) (allB _) 80 t n m a P.len (some ad) c true (some ad) c' W ((hT.below hW).more hW.size) (by rw [drop_len]; omega) h2.2
    rw [drop_len, drop_inf, hy, show P.len - r = 0 by omega] at h3
    exact h3)
  clear hH hy hv hr0
  subst hcr
  have hPc : P.len = c := by omega
  have HPc := Lib.hid hPc
  rw [hPc] at KI HS KR ⊢
  clear hPc hr hlc
  have tm : (m != 0) = false ∨ (m != 0) = true ∧ (m != 1) = false := by rcases hm with rfl | rfl <;> simp
  clear hm
  rcases tm with t0 | ⟨t0, t1m⟩
  all_goals
    go_enter Try.func59, Try.ntmps59
    go_wp2_with fail
    refine (KI.out _).mono ?_
    rintro e w1 ⟨rfl, hb1⟩
    have HK := Lib.hid ((HS.out _).later hb1)
    have bx := ((Box.new w 80 t n _ a c (some ad) c).later ((Below.refl _ _).alloc (Nat.le_refl _) (.cells #[.int .i64 0, .slice (some ad) c c] 56))).later hb1
    have HBx := Lib.hid bx
    have KW := Lib.hid (KWH.out _ (HK.out.later (Below.drew (Below.refl _ _))))
    have hs1 : w.heap.size + 1 < w1.heap.size := HK.out.lt
    obtain ⟨-, -, c0, c1, c2, c3, c4, c5⟩ := bx
    have p1 := HK.out.c1
    rw [HPc.out] at p1
    have HB01 := Lib.hid HBx.out.below
    clear hb1 HS KI
    have MK := Lib.hid (show ∀ w', BD w w' → Wk (w.heap.size + 1) c P (some ad) c (w.heap.size + 1) w' → Below (w.heap.size + 1) w1.drew w' → (fun w' => BD w w' ∧ w.heap.size + 1 < w'.heap.size ∧ w'.cell? ⟨w.heap.size, 0, none⟩ = some (.int .i64 80) ∧ w'.cell? ⟨w.heap.size, 1, none⟩ = some (.string t) ∧ w'.cell? ⟨w.heap.size, 2, none⟩ = some (.int .i64 n) ∧ w'.cell? ⟨w.heap.size, 3, none⟩ = some (.int .i64 m) ∧ w'.cell? ⟨w.heap.size, 4, none⟩ = some (.int .i64 a) ∧ w'.cell? ⟨w.heap.size, 5, none⟩ = some (.slice (some ad) c c) ∧ w'.cell? ⟨w.heap.size + 1, 1, none⟩ = some (.slice (some ad) c c)) w' from fun w' h0 hk h => ⟨h0, hk.lt, (h.cell (p := ⟨w.heap.size, 0, none⟩) (Nat.lt_succ_self _)).trans c0, (h.cell (p := ⟨w.heap.size, 1, none⟩) (Nat.lt_succ_self _)).trans c1, (h.cell (p := ⟨w.heap.size, 2, none⟩) (Nat.lt_succ_self _)).trans c2, (h.cell (p := ⟨w.heap.size, 3, none⟩) (Nat.lt_succ_self _)).trans c3, (h.cell (p := ⟨w.heap.size, 4, none⟩) (Nat.lt_succ_self _)).trans c4, (h.cell (p := ⟨w.heap.size, 5, none⟩) (Nat.lt_succ_self _)).trans c5, (by have h := hk.c1; rw [HPc.out] at h; exact h)⟩)
    have MS := Lib.hid (show ∀ w' w'', (fun w' => BD w w' ∧ w.heap.size + 1 < w'.heap.size ∧ w'.cell? ⟨w.heap.size, 0, none⟩ = some (.int .i64 80) ∧ w'.cell? ⟨w.heap.size, 1, none⟩ = some (.string t) ∧ w'.cell? ⟨w.heap.size, 2, none⟩ = some (.int .i64 n) ∧ w'.cell? ⟨w.heap.size, 3, none⟩ = some (.int .i64 m) ∧ w'.cell? ⟨w.heap.size, 4, none⟩ = some (.int .i64 a) ∧ w'.cell? ⟨w.heap.size, 5, none⟩ = some (.slice (some ad) c c) ∧ w'.cell? ⟨w.heap.size + 1, 1, none⟩ = some (.slice (some ad) c c)) w' → Below w'.heap.size w' w'' → (fun w' => BD w w' ∧ w.heap.size + 1 < w'.heap.size ∧ w'.cell? ⟨w.heap.size, 0, none⟩ = some (.int .i64 80) ∧ w'.cell? ⟨w.heap.size, 1, none⟩ = some (.string t) ∧ w'.cell? ⟨w.heap.size, 2, none⟩ = some (.int .i64 n) ∧ w'.cell? ⟨w.heap.size, 3, none⟩ = some (.int .i64 m) ∧ w'.cell? ⟨w.heap.size, 4, none⟩ = some (.int .i64 a) ∧ w'.cell? ⟨w.heap.size, 5, none⟩ = some (.slice (some ad) c c) ∧ w'.cell? ⟨w.heap.size + 1, 1, none⟩ = some (.slice (some ad) c c)) w'' from fun w' w'' ⟨h0, hs, d0, d1, d2, d3, d4, d5, e1⟩ h => by
      have h1 : w.heap.size < w'.heap.size := by omega
      exact ⟨below_step h0 h, by have := h.size; omega, (h.cell (p := ⟨w.heap.size, 0, none⟩) h1).trans d0, (h.cell (p := ⟨w.heap.size, 1, none⟩) h1).trans d1, (h.cell (p := ⟨w.heap.size, 2, none⟩) h1).trans d2, (h.cell (p := ⟨w.heap.size, 3, none⟩) h1).trans d3, (h.cell (p := ⟨w.heap.size, 4, none⟩) h1).trans d4, (h.cell (p := ⟨w.heap.size, 5, none⟩) h1).trans d5, (h.cell (p := ⟨w.heap.size + 1, 1, none⟩) hs).trans e1⟩)
    have MB := Lib.hid (show ∀ w', Below (w.heap.size + 1) w1.drew w' → BD w w' from fun w' h => (Below.drew HB01.out).trans (h.mono (by omega)))
    have S0 : (fun w' => BD w w' ∧ w.heap.size + 1 < w'.heap.size ∧ w'.cell? ⟨w.heap.size, 0, none⟩ = some (.int .i64 80) ∧ w'.cell? ⟨w.heap.size, 1, none⟩ = some (.string t) ∧ w'.cell? ⟨w.heap.size, 2, none⟩ = some (.int .i64 n) ∧ w'.cell? ⟨w.heap.size, 3, none⟩ = some (.int .i64 m) ∧ w'.cell? ⟨w.heap.size, 4, none⟩ = some (.int .i64 a) ∧ w'.cell? ⟨w.heap.size, 5, none⟩ = some (.slice (some ad) c c) ∧ w'.cell? ⟨w.heap.size + 1, 1, none⟩ = some (.slice (some ad) c c)) w1.drew := ⟨Below.drew HB01.out, hs1, c0, c1, c2, c3, c4, c5, p1⟩
    clear p1 HBx HK hs1 c1 c2 c4 c5
    go_wp2_with fail
    refine wp_region_held_drew (S := (fun w' => BD w w' ∧ w.heap.size + 1 < w'.heap.size ∧ w'.cell? ⟨w.heap.size, 0, none⟩ = some (.int .i64 80) ∧ w'.cell? ⟨w.heap.size, 1, none⟩ = some (.string t) ∧ w'.cell? ⟨w.heap.size, 2, none⟩ = some (.int .i64 n) ∧ w'.cell? ⟨w.heap.size, 3, none⟩ = some (.int .i64 m) ∧ w'.cell? ⟨w.heap.size, 4, none⟩ = some (.int .i64 a) ∧ w'.cell? ⟨w.heap.size, 5, none⟩ = some (.slice (some ad) c c) ∧ w'.cell? ⟨w.heap.size + 1, 1, none⟩ = some (.slice (some ad) c c))) (by kernel_rfl) S0 (fun hHeld => ?_)
    refine wpAnyH_take (i := 0) (v := ?_) (show _ = some { dst := some 78, op := _, type := _, pos := _, after := _, guard := _ } from rfl) (by kernel_rfl) (by kernel_rfl) (by kernel_rfl) (fun _ _ _ h => h) (Or.inl ⟨by rfl, ?_⟩) hHeld ?_
    rotate_left
    · intro w' hSw
      (try dsimp only at hSw)
      go_simp
      try with_reducible rfl
    try simp only [Act.put, List.setIfInBounds_toArray, List.set_cons_zero, List.set_cons_succ]
    refine wpAnyH_ready (rs := [1]) (by kernel_rfl) (by simp) ?_
    refine AllReadyH.cons (show _ = some { dst := some 79, op := _, type := _, pos := _, after := _, guard := _ } from rfl) (fun K hK => ?_) AllReadyH.nil
    go_simp
    refine KW.out.mono ?_
    rintro e w2 ⟨rfl, hk, hk0, hbel⟩
    go_wp2_with fail
    refine hK.out _ _ (MK.out _ (MB.out _ hbel) hk hbel) (fun hHeld => ?_)
    clear hK K
    try simp only [Act.put, List.setIfInBounds_toArray, List.set_cons_zero, List.set_cons_succ]
    refine wpAnyH_take (i := 2) (v := ?_) (show _ = some { dst := some 80, op := _, type := _, pos := _, after := _, guard := _ } from rfl) (by kernel_rfl) (by kernel_rfl) (by kernel_rfl) (fun _ _ _ h => h) (Or.inl ⟨by rfl, ?_⟩) hHeld ?_
    rotate_left
    · intro w' hSw
      (try dsimp only at hSw)
      go_simp
      try with_reducible rfl
    try simp only [Act.put, List.setIfInBounds_toArray, List.set_cons_zero, List.set_cons_succ]
    refine wpAnyH_take (i := 3) (v := ?_) (show _ = some { dst := some 81, op := _, type := _, pos := _, after := _, guard := _ } from rfl) (by kernel_rfl) (by kernel_rfl) (by kernel_rfl) (fun _ _ _ h => h) (Or.inl ⟨by rfl, ?_⟩) hHeld ?_
    rotate_left
    · intro w' hSw
      (try dsimp only at hSw)
      go_simp
      try with_reducible rfl
    try simp only [Act.put, List.setIfInBounds_toArray, List.set_cons_zero, List.set_cons_succ]
    refine wpAnyH_take (i := 4) (v := ?_) (show _ = some { dst := some 82, op := _, type := _, pos := _, after := _, guard := _ } from rfl) (by kernel_rfl) (by kernel_rfl) (by kernel_rfl) (fun _ _ _ h => h) (Or.inl ⟨by rfl, ?_⟩) hHeld ?_
    rotate_left
    · intro w' hSw
      (try dsimp only at hSw)
      go_simp
      try with_reducible rfl
    try simp only [Act.put, List.setIfInBounds_toArray, List.set_cons_zero, List.set_cons_succ]
    refine wpAnyH_take (i := 5) (v := ?_) (show _ = some { dst := some 83, op := _, type := _, pos := _, after := _, guard := _ } from rfl) (by kernel_rfl) (by kernel_rfl) (by kernel_rfl) (fun _ _ _ h => h) (Or.inl ⟨by rfl, ?_⟩) hHeld ?_
    rotate_left
    · intro w' hSw
      (try dsimp only at hSw)
      go_simp
      try with_reducible rfl
    try simp only [Act.put, List.setIfInBounds_toArray, List.set_cons_zero, List.set_cons_succ]
    refine wpAnyH_take (i := 6) (v := ?_) (show _ = some { dst := some 84, op := _, type := _, pos := _, after := _, guard := _ } from rfl) (by kernel_rfl) (by kernel_rfl) (by kernel_rfl) (fun _ _ _ h => h) (Or.inl ⟨by rfl, ?_⟩) hHeld ?_
    rotate_left
    · intro w' hSw
      (try dsimp only at hSw)
      go_simp
      try with_reducible rfl
    try simp only [Act.put, List.setIfInBounds_toArray, List.set_cons_zero, List.set_cons_succ]
    refine wpAnyH_take (i := 7) (v := ?_) (show _ = some { dst := some 85, op := _, type := _, pos := _, after := _, guard := _ } from rfl) (by kernel_rfl) (by kernel_rfl) (by kernel_rfl) (fun _ _ _ h => h) (Or.inl ⟨by rfl, ?_⟩) hHeld ?_
    rotate_left
    · intro w' hSw
      (try dsimp only at hSw)
      go_simp
      try with_reducible rfl
    try simp only [Act.put, List.setIfInBounds_toArray, List.set_cons_zero, List.set_cons_succ]
    refine wpAnyH_take (i := 8) (v := ?_) (show _ = some { dst := some 86, op := _, type := _, pos := _, after := _, guard := _ } from rfl) (by kernel_rfl) (by kernel_rfl) (by kernel_rfl) (fun _ _ _ h => h) (Or.inl ⟨by rfl, ?_⟩) hHeld ?_
    rotate_left
    · intro w' hSw
      (try dsimp only at hSw)
      go_simp
      try with_reducible rfl
    try simp only [Act.put, List.setIfInBounds_toArray, List.set_cons_zero, List.set_cons_succ]
    refine wpAnyH_take (i := 9) (v := ?_) (show _ = some { dst := some 87, op := _, type := _, pos := _, after := _, guard := _ } from rfl) (by kernel_rfl) (by kernel_rfl) (by kernel_rfl) (fun _ _ _ h => h) (Or.inl ⟨by rfl, ?_⟩) hHeld ?_
    rotate_left
    · intro w' hSw
      (try dsimp only at hSw)
      go_simp
      try with_reducible rfl
    try simp only [Act.put, List.setIfInBounds_toArray, List.set_cons_zero, List.set_cons_succ]
    refine wpAnyH_take (i := 10) (v := ?_) (show _ = some { dst := some 88, op := _, type := _, pos := _, after := _, guard := _ } from rfl) (by kernel_rfl) (by kernel_rfl) (by kernel_rfl) (fun _ _ _ h => h) (Or.inl ⟨by rfl, ?_⟩) hHeld ?_
    rotate_left
    · intro w' hSw
      (try dsimp only at hSw)
      go_simp
      try with_reducible rfl
    try simp only [Act.put, List.setIfInBounds_toArray, List.set_cons_zero, List.set_cons_succ]
    refine wpAnyH_take (i := 11) (v := ?_) (show _ = some { dst := some 89, op := _, type := _, pos := _, after := _, guard := _ } from rfl) (by kernel_rfl) (by kernel_rfl) (by kernel_rfl) (fun _ _ _ h => h) (Or.inl ⟨by rfl, ?_⟩) hHeld ?_
    rotate_left
    · intro w' hSw
      (try dsimp only at hSw)
      go_simp
      try with_reducible rfl
    try simp only [Act.put, List.setIfInBounds_toArray, List.set_cons_zero, List.set_cons_succ]
    refine wpAnyH_ready (rs := [12]) (by kernel_rfl) (by simp) ?_
    refine AllReadyH.cons (show _ = some { dst := some 90, op := _, type := _, pos := _, after := _, guard := _ } from rfl) (fun K hK => ?_) AllReadyH.nil
    go_simp
    refine hK.out _ _ (hHeld) (fun hHeld => ?_)
    clear hK K
    try simp only [Act.put, List.setIfInBounds_toArray, List.set_cons_zero, List.set_cons_succ]
    refine wpAnyH_take (i := 13) (v := ?_) (show _ = some { dst := some 91, op := _, type := _, pos := _, after := _, guard := _ } from rfl) (by kernel_rfl) (by kernel_rfl) (by kernel_rfl) (fun _ _ _ h => h) (Or.inl ⟨by rfl, ?_⟩) hHeld ?_
    rotate_left
    · intro w' hSw
      (try dsimp only at hSw)
      go_simp
      try with_reducible rfl
    try simp only [Act.put, List.setIfInBounds_toArray, List.set_cons_zero, List.set_cons_succ]
    refine wpAnyH_ready (rs := [14]) (by kernel_rfl) (by simp) ?_
    refine AllReadyH.cons (show _ = some { dst := some 92, op := _, type := _, pos := _, after := _, guard := _ } from rfl) (fun K hK => ?_) AllReadyH.nil
    go_simp
    refine (KR.out _ _ ?_ ?_ ?_).mono ?_
    · exact hHeld.1
    · first | rfl | (simp; done)
    · omega
    rintro e w3 ⟨rfl, hbel⟩
    go_wp2_with fail
    refine hK.out _ _ (MS.out _ _ hHeld hbel) (fun hHeld => ?_)
    clear hK K
    try simp only [Act.put, List.setIfInBounds_toArray, List.set_cons_zero, List.set_cons_succ]
    refine wpAnyH_take (i := 15) (v := ?_) (show _ = some { dst := some 93, op := _, type := _, pos := _, after := _, guard := _ } from rfl) (by kernel_rfl) (by kernel_rfl) (by kernel_rfl) (fun _ _ _ h => h) (Or.inl ⟨by rfl, ?_⟩) hHeld ?_
    rotate_left
    · intro w' hSw
      (try dsimp only at hSw)
      go_simp
      try with_reducible rfl
    try simp only [Act.put, List.setIfInBounds_toArray, List.set_cons_zero, List.set_cons_succ]
    refine wpAnyH_take (i := 16) (v := ?_) (show _ = some { dst := some 2, op := _, type := _, pos := _, after := _, guard := _ } from rfl) (by kernel_rfl) (by kernel_rfl) (by kernel_rfl) (fun _ _ _ h => h) (Or.inl ⟨by rfl, ?_⟩) hHeld ?_
    rotate_left
    · intro w' hSw
      (try dsimp only at hSw)
      go_simp
      try with_reducible rfl
    try simp only [Act.put, List.setIfInBounds_toArray, List.set_cons_zero, List.set_cons_succ]
    refine wpAnyH_done (by kernel_rfl) ?_ _
    have hS5 := hHeld
    clear hHeld
    have HB5 := Lib.hid hS5.1
    clear hS5
    go_wp2_with fail
    go_ret
    exact ⟨rfl, HB5.out⟩
set_option maxRecDepth 100000 in
set_option maxHeartbeats 8000000 in
theorem decl_80_l (P : Fo) (t : ByteArray) (n m a : Int) (ad : Addr) (c : Nat) (w : World) (hH : Holds w w.heap.size P (some ad) 0) (hlc : P.len ≤ c) (hcc : c ≤ 1000000000000000) (ht : t.size ≤ 1000000000000000) (hm : m = 0 ∨ m = 1) (hid : idB t = true) (r : Nat) (hr0 : runN 73 P.inf = r) (hcr : r < c) (h0 : 0 < P.len) (hv : runB 73 (·.var) P.inf = true) :
    Calls Try.prog 59 #[.agg #[.int .i64 80, .string t, .int .i64 n, .int .i64 m, .int .i64 a, .slice (some ad) P.len c]] w fun e w' => e = .returned (.bool (funcD n P.inf true)) ∧ Below w.heap.size w w' := by
  obtain ⟨y, hy⟩ : ∃ y, funcD n P.inf true = y := ⟨_, rfl⟩
  rw [hy]
  unfold funcD at hy
  have HS := Lib.hid (fun o => Wk.start w o P (some ad) c hH)
  have KI := Lib.hid (fun W => isname_any 80 t n m a P.len (some ad) c ht W)
  rw [hid] at KI
  rw [hv] at hy
  rw [Bool.true_and] at hy
  have KWH := Lib.hid (fun W (h : Wk (w.heap.size + 1) 0 P (some ad) c (w.heap.size + 1) W) => (while_variable P (allV P) h (Nat.zero_le _) hlc hcc).mono (fun (e : Ending) (w' : World) ⟨b, he, hb, hk, hB⟩ => by
    rw [List.drop_zero] at hb hk
    rw [hv] at hb
    have hk2 := hk hb
    rw [Nat.zero_add] at hk2
    exact (show e = Ending.returned (.bool true) ∧ Wk (w.heap.size + 1) (runN 73 P.inf) P (some ad) c (w.heap.size + 1) w' ∧ w'.cell? ⟨w.heap.size + 1, 0, none⟩ = some (.int .i64 (runN 73 P.inf : Nat)) ∧ Below (w.heap.size + 1) W w' from ⟨by rw [he, hb], hk2, hk2.c0, hB⟩)))
  have hr : r ≤ P.len := by have := runN_le 73 P.inf; rw [inf_len] at this; omega
  rw [hr0] at hy KWH
  have KR : Hid (∀ (A' : Option Addr) (c' : Nat) {W : World}, Below w.heap.size w W → A' = (some (ad.add (r * 6))) → P.len - r ≤ c' ∧ c' ≤ 1000000000000000 → Calls Try.prog 47 #[.agg #[.int .i64 80, .string t, .int .i64 n, .int .i64 m, .int .i64 a, .slice (some ad) P.len c], .slice A' (P.len - r) c', .bool true] W fun e w' => e = .returned (.bool y) ∧ Below W.heap.size W w') := Lib.hid (fun A' c' W hW hA h2 => by
    subst hA
    have hT : Holds w w.heap.size (P.drop r) (some (ad.add (r * 6))) 0 := hH.tail r (.inl rfl)
    have h3 := routine_any (P.drop r) (allB _) 80 t n m a P.len (some ad) c true (some (ad.add (r * 6))) c' W ((hT.below hW).more hW.size) (by rw [drop_len]; exact h2.1) h2.2
    rw [drop_len, drop_inf, hy] at h3
    exact h3)
  clear hH hy hv hr0
  have hne : ¬ c = r := by omega
  have tm : (m != 0) = false ∨ (m != 0) = true ∧ (m != 1) = false := by rcases hm with rfl | rfl <;> simp
  clear hm
  rcases tm with t0 | ⟨t0, t1m⟩
  all_goals
    go_enter Try.func59, Try.ntmps59
    go_wp2_with fail
    refine (KI.out _).mono ?_
    rintro e w1 ⟨rfl, hb1⟩
    have HK := Lib.hid ((HS.out _).later hb1)
    have bx := ((Box.new w 80 t n _ a P.len (some ad) c).later ((Below.refl _ _).alloc (Nat.le_refl _) (.cells #[.int .i64 0, .slice (some ad) P.len c] 56))).later hb1
    have HBx := Lib.hid bx
    have KW := Lib.hid (KWH.out _ (HK.out.later (Below.drew (Below.refl _ _))))
    have hs1 : w.heap.size + 1 < w1.heap.size := HK.out.lt
    obtain ⟨-, -, c0, c1, c2, c3, c4, c5⟩ := bx
    have p1 := HK.out.c1
    have HB01 := Lib.hid HBx.out.below
    clear hb1 HS KI
    have MK := Lib.hid (show ∀ w', BD w w' → Wk (w.heap.size + 1) r P (some ad) c (w.heap.size + 1) w' → Below (w.heap.size + 1) w1.drew w' → (fun w' => BD w w' ∧ w.heap.size + 1 < w'.heap.size ∧ w'.cell? ⟨w.heap.size, 0, none⟩ = some (.int .i64 80) ∧ w'.cell? ⟨w.heap.size, 1, none⟩ = some (.string t) ∧ w'.cell? ⟨w.heap.size, 2, none⟩ = some (.int .i64 n) ∧ w'.cell? ⟨w.heap.size, 3, none⟩ = some (.int .i64 m) ∧ w'.cell? ⟨w.heap.size, 4, none⟩ = some (.int .i64 a) ∧ w'.cell? ⟨w.heap.size, 5, none⟩ = some (.slice (some ad) P.len c) ∧ w'.cell? ⟨w.heap.size + 1, 1, none⟩ = some (.slice (some ad) P.len c)) w' from fun w' h0 hk h => ⟨h0, hk.lt, (h.cell (p := ⟨w.heap.size, 0, none⟩) (Nat.lt_succ_self _)).trans c0, (h.cell (p := ⟨w.heap.size, 1, none⟩) (Nat.lt_succ_self _)).trans c1, (h.cell (p := ⟨w.heap.size, 2, none⟩) (Nat.lt_succ_self _)).trans c2, (h.cell (p := ⟨w.heap.size, 3, none⟩) (Nat.lt_succ_self _)).trans c3, (h.cell (p := ⟨w.heap.size, 4, none⟩) (Nat.lt_succ_self _)).trans c4, (h.cell (p := ⟨w.heap.size, 5, none⟩) (Nat.lt_succ_self _)).trans c5, hk.c1⟩)
    have MS := Lib.hid (show ∀ w' w'', (fun w' => BD w w' ∧ w.heap.size + 1 < w'.heap.size ∧ w'.cell? ⟨w.heap.size, 0, none⟩ = some (.int .i64 80) ∧ w'.cell? ⟨w.heap.size, 1, none⟩ = some (.string t) ∧ w'.cell? ⟨w.heap.size, 2, none⟩ = some (.int .i64 n) ∧ w'.cell? ⟨w.heap.size, 3, none⟩ = some (.int .i64 m) ∧ w'.cell? ⟨w.heap.size, 4, none⟩ = some (.int .i64 a) ∧ w'.cell? ⟨w.heap.size, 5, none⟩ = some (.slice (some ad) P.len c) ∧ w'.cell? ⟨w.heap.size + 1, 1, none⟩ = some (.slice (some ad) P.len c)) w' → Below w'.heap.size w' w'' → (fun w' => BD w w' ∧ w.heap.size + 1 < w'.heap.size ∧ w'.cell? ⟨w.heap.size, 0, none⟩ = some (.int .i64 80) ∧ w'.cell? ⟨w.heap.size, 1, none⟩ = some (.string t) ∧ w'.cell? ⟨w.heap.size, 2, none⟩ = some (.int .i64 n) ∧ w'.cell? ⟨w.heap.size, 3, none⟩ = some (.int .i64 m) ∧ w'.cell? ⟨w.heap.size, 4, none⟩ = some (.int .i64 a) ∧ w'.cell? ⟨w.heap.size, 5, none⟩ = some (.slice (some ad) P.len c) ∧ w'.cell? ⟨w.heap.size + 1, 1, none⟩ = some (.slice (some ad) P.len c)) w'' from fun w' w'' ⟨h0, hs, d0, d1, d2, d3, d4, d5, e1⟩ h => by
      have h1 : w.heap.size < w'.heap.size := by omega
      exact ⟨below_step h0 h, by have := h.size; omega, (h.cell (p := ⟨w.heap.size, 0, none⟩) h1).trans d0, (h.cell (p := ⟨w.heap.size, 1, none⟩) h1).trans d1, (h.cell (p := ⟨w.heap.size, 2, none⟩) h1).trans d2, (h.cell (p := ⟨w.heap.size, 3, none⟩) h1).trans d3, (h.cell (p := ⟨w.heap.size, 4, none⟩) h1).trans d4, (h.cell (p := ⟨w.heap.size, 5, none⟩) h1).trans d5, (h.cell (p := ⟨w.heap.size + 1, 1, none⟩) hs).trans e1⟩)
    have MB := Lib.hid (show ∀ w', Below (w.heap.size + 1) w1.drew w' → BD w w' from fun w' h => (Below.drew HB01.out).trans (h.mono (by omega)))
    have S0 : (fun w' => BD w w' ∧ w.heap.size + 1 < w'.heap.size ∧ w'.cell? ⟨w.heap.size, 0, none⟩ = some (.int .i64 80) ∧ w'.cell? ⟨w.heap.size, 1, none⟩ = some (.string t) ∧ w'.cell? ⟨w.heap.size, 2, none⟩ = some (.int .i64 n) ∧ w'.cell? ⟨w.heap.size, 3, none⟩ = some (.int .i64 m) ∧ w'.cell? ⟨w.heap.size, 4, none⟩ = some (.int .i64 a) ∧ w'.cell? ⟨w.heap.size, 5, none⟩ = some (.slice (some ad) P.len c) ∧ w'.cell? ⟨w.heap.size + 1, 1, none⟩ = some (.slice (some ad) P.len c)) w1.drew := ⟨Below.drew HB01.out, hs1, c0, c1, c2, c3, c4, c5, p1⟩
    clear p1 HBx HK hs1 c1 c2 c4 c5
    go_wp2_with fail
    refine wp_region_held_drew (S := (fun w' => BD w w' ∧ w.heap.size + 1 < w'.heap.size ∧ w'.cell? ⟨w.heap.size, 0, none⟩ = some (.int .i64 80) ∧ w'.cell? ⟨w.heap.size, 1, none⟩ = some (.string t) ∧ w'.cell? ⟨w.heap.size, 2, none⟩ = some (.int .i64 n) ∧ w'.cell? ⟨w.heap.size, 3, none⟩ = some (.int .i64 m) ∧ w'.cell? ⟨w.heap.size, 4, none⟩ = some (.int .i64 a) ∧ w'.cell? ⟨w.heap.size, 5, none⟩ = some (.slice (some ad) P.len c) ∧ w'.cell? ⟨w.heap.size + 1, 1, none⟩ = some (.slice (some ad) P.len c))) (by kernel_rfl) S0 (fun hHeld => ?_)
    refine wpAnyH_take (i := 0) (v := ?_) (show _ = some { dst := some 78, op := _, type := _, pos := _, after := _, guard := _ } from rfl) (by kernel_rfl) (by kernel_rfl) (by kernel_rfl) (fun _ _ _ h => h) (Or.inl ⟨by rfl, ?_⟩) hHeld ?_
    rotate_left
    · intro w' hSw
      (try dsimp only at hSw)
      go_simp
      try with_reducible rfl
    try simp only [Act.put, List.setIfInBounds_toArray, List.set_cons_zero, List.set_cons_succ]
    refine wpAnyH_ready (rs := [1]) (by kernel_rfl) (by simp) ?_
    refine AllReadyH.cons (show _ = some { dst := some 79, op := _, type := _, pos := _, after := _, guard := _ } from rfl) (fun K hK => ?_) AllReadyH.nil
    go_simp
    refine KW.out.mono ?_
    rintro e w2 ⟨rfl, hk, hk0, hbel⟩
    go_wp2_with fail
    refine hK.out _ _ (MK.out _ (MB.out _ hbel) hk hbel) (fun hHeld => ?_)
    clear hK K
    try simp only [Act.put, List.setIfInBounds_toArray, List.set_cons_zero, List.set_cons_succ]
    refine wpAnyH_take (i := 2) (v := ?_) (show _ = some { dst := some 80, op := _, type := _, pos := _, after := _, guard := _ } from rfl) (by kernel_rfl) (by kernel_rfl) (by kernel_rfl) (fun _ _ _ h => h) (Or.inl ⟨by rfl, ?_⟩) hHeld ?_
    rotate_left
    · intro w' hSw
      (try dsimp only at hSw)
      go_simp
      try with_reducible rfl
    try simp only [Act.put, List.setIfInBounds_toArray, List.set_cons_zero, List.set_cons_succ]
    refine wpAnyH_take (i := 3) (v := ?_) (show _ = some { dst := some 81, op := _, type := _, pos := _, after := _, guard := _ } from rfl) (by kernel_rfl) (by kernel_rfl) (by kernel_rfl) (fun _ _ _ h => h) (Or.inl ⟨by rfl, ?_⟩) hHeld ?_
    rotate_left
    · intro w' hSw
      (try dsimp only at hSw)
      go_simp
      try with_reducible rfl
    try simp only [Act.put, List.setIfInBounds_toArray, List.set_cons_zero, List.set_cons_succ]
    refine wpAnyH_take (i := 4) (v := ?_) (show _ = some { dst := some 82, op := _, type := _, pos := _, after := _, guard := _ } from rfl) (by kernel_rfl) (by kernel_rfl) (by kernel_rfl) (fun _ _ _ h => h) (Or.inl ⟨by rfl, ?_⟩) hHeld ?_
    rotate_left
    · intro w' hSw
      (try dsimp only at hSw)
      go_simp
      try with_reducible rfl
    try simp only [Act.put, List.setIfInBounds_toArray, List.set_cons_zero, List.set_cons_succ]
    refine wpAnyH_take (i := 5) (v := ?_) (show _ = some { dst := some 83, op := _, type := _, pos := _, after := _, guard := _ } from rfl) (by kernel_rfl) (by kernel_rfl) (by kernel_rfl) (fun _ _ _ h => h) (Or.inl ⟨by rfl, ?_⟩) hHeld ?_
    rotate_left
    · intro w' hSw
      (try dsimp only at hSw)
      go_simp
      try with_reducible rfl
    try simp only [Act.put, List.setIfInBounds_toArray, List.set_cons_zero, List.set_cons_succ]
    refine wpAnyH_take (i := 6) (v := ?_) (show _ = some { dst := some 84, op := _, type := _, pos := _, after := _, guard := _ } from rfl) (by kernel_rfl) (by kernel_rfl) (by kernel_rfl) (fun _ _ _ h => h) (Or.inl ⟨by rfl, ?_⟩) hHeld ?_
    rotate_left
    · intro w' hSw
      (try dsimp only at hSw)
      go_simp
      try with_reducible rfl
    try simp only [Act.put, List.setIfInBounds_toArray, List.set_cons_zero, List.set_cons_succ]
    refine wpAnyH_take (i := 7) (v := ?_) (show _ = some { dst := some 85, op := _, type := _, pos := _, after := _, guard := _ } from rfl) (by kernel_rfl) (by kernel_rfl) (by kernel_rfl) (fun _ _ _ h => h) (Or.inl ⟨by rfl, ?_⟩) hHeld ?_
    rotate_left
    · intro w' hSw
      (try dsimp only at hSw)
      go_simp
      try with_reducible rfl
    try simp only [Act.put, List.setIfInBounds_toArray, List.set_cons_zero, List.set_cons_succ]
    refine wpAnyH_take (i := 8) (v := ?_) (show _ = some { dst := some 86, op := _, type := _, pos := _, after := _, guard := _ } from rfl) (by kernel_rfl) (by kernel_rfl) (by kernel_rfl) (fun _ _ _ h => h) (Or.inl ⟨by rfl, ?_⟩) hHeld ?_
    rotate_left
    · intro w' hSw
      (try dsimp only at hSw)
      go_simp
      try with_reducible rfl
    try simp only [Act.put, List.setIfInBounds_toArray, List.set_cons_zero, List.set_cons_succ]
    refine wpAnyH_take (i := 9) (v := ?_) (show _ = some { dst := some 87, op := _, type := _, pos := _, after := _, guard := _ } from rfl) (by kernel_rfl) (by kernel_rfl) (by kernel_rfl) (fun _ _ _ h => h) (Or.inl ⟨by rfl, ?_⟩) hHeld ?_
    rotate_left
    · intro w' hSw
      (try dsimp only at hSw)
      go_simp
      try with_reducible rfl
    try simp only [Act.put, List.setIfInBounds_toArray, List.set_cons_zero, List.set_cons_succ]
    refine wpAnyH_take (i := 10) (v := ?_) (show _ = some { dst := some 88, op := _, type := _, pos := _, after := _, guard := _ } from rfl) (by kernel_rfl) (by kernel_rfl) (by kernel_rfl) (fun _ _ _ h => h) (Or.inl ⟨by rfl, ?_⟩) hHeld ?_
    rotate_left
    · intro w' hSw
      (try dsimp only at hSw)
      go_simp
      try with_reducible rfl
    try simp only [Act.put, List.setIfInBounds_toArray, List.set_cons_zero, List.set_cons_succ]
    refine wpAnyH_take (i := 11) (v := ?_) (show _ = some { dst := some 89, op := _, type := _, pos := _, after := _, guard := _ } from rfl) (by kernel_rfl) (by kernel_rfl) (by kernel_rfl) (fun _ _ _ h => h) (Or.inl ⟨by rfl, ?_⟩) hHeld ?_
    rotate_left
    · intro w' hSw
      (try dsimp only at hSw)
      go_simp
      try with_reducible rfl
    try simp only [Act.put, List.setIfInBounds_toArray, List.set_cons_zero, List.set_cons_succ]
    refine wpAnyH_ready (rs := [12]) (by kernel_rfl) (by simp) ?_
    refine AllReadyH.cons (show _ = some { dst := some 90, op := _, type := _, pos := _, after := _, guard := _ } from rfl) (fun K hK => ?_) AllReadyH.nil
    go_simp
    refine hK.out _ _ (hHeld) (fun hHeld => ?_)
    clear hK K
    try simp only [Act.put, List.setIfInBounds_toArray, List.set_cons_zero, List.set_cons_succ]
    refine wpAnyH_take (i := 13) (v := ?_) (show _ = some { dst := some 91, op := _, type := _, pos := _, after := _, guard := _ } from rfl) (by kernel_rfl) (by kernel_rfl) (by kernel_rfl) (fun _ _ _ h => h) (Or.inl ⟨by rfl, ?_⟩) hHeld ?_
    rotate_left
    · intro w' hSw
      (try dsimp only at hSw)
      go_simp
      try with_reducible rfl
    try simp only [Act.put, List.setIfInBounds_toArray, List.set_cons_zero, List.set_cons_succ]
    refine wpAnyH_ready (rs := [14]) (by kernel_rfl) (by simp) ?_
    refine AllReadyH.cons (show _ = some { dst := some 92, op := _, type := _, pos := _, after := _, guard := _ } from rfl) (fun K hK => ?_) AllReadyH.nil
    go_simp
    refine (KR.out _ _ ?_ ?_ ?_).mono ?_
    · exact hHeld.1
    · first | rfl | (simp; done)
    · omega
    rintro e w3 ⟨rfl, hbel⟩
    go_wp2_with fail
    refine hK.out _ _ (MS.out _ _ hHeld hbel) (fun hHeld => ?_)
    clear hK K
    try simp only [Act.put, List.setIfInBounds_toArray, List.set_cons_zero, List.set_cons_succ]
    refine wpAnyH_take (i := 15) (v := ?_) (show _ = some { dst := some 93, op := _, type := _, pos := _, after := _, guard := _ } from rfl) (by kernel_rfl) (by kernel_rfl) (by kernel_rfl) (fun _ _ _ h => h) (Or.inl ⟨by rfl, ?_⟩) hHeld ?_
    rotate_left
    · intro w' hSw
      (try dsimp only at hSw)
      go_simp
      try with_reducible rfl
    try simp only [Act.put, List.setIfInBounds_toArray, List.set_cons_zero, List.set_cons_succ]
    refine wpAnyH_take (i := 16) (v := ?_) (show _ = some { dst := some 2, op := _, type := _, pos := _, after := _, guard := _ } from rfl) (by kernel_rfl) (by kernel_rfl) (by kernel_rfl) (fun _ _ _ h => h) (Or.inl ⟨by rfl, ?_⟩) hHeld ?_
    rotate_left
    · intro w' hSw
      (try dsimp only at hSw)
      go_simp
      try with_reducible rfl
    try simp only [Act.put, List.setIfInBounds_toArray, List.set_cons_zero, List.set_cons_succ]
    refine wpAnyH_done (by kernel_rfl) ?_ _
    have hS5 := hHeld
    clear hHeld
    have HB5 := Lib.hid hS5.1
    clear hS5
    go_wp2_with fail
    go_ret
    exact ⟨rfl, HB5.out⟩
set_option maxRecDepth 100000 in
set_option maxHeartbeats 8000000 in
theorem decl_80_any (P : Fo) (t : ByteArray) (n m a : Int) (A : Option Addr) (c : Nat) (w : World) (hH : Holds w w.heap.size P A 0) (hlc : P.len ≤ c) (hcc : c ≤ 1000000000000000) (ht : t.size ≤ 1000000000000000) (hm : m = 0 ∨ m = 1) (hid : idB t = true)  :
    Calls Try.prog 59 #[.agg #[.int .i64 80, .string t, .int .i64 n, .int .i64 m, .int .i64 a, .slice A P.len c]] w fun e w' => e = .returned (.bool (funcD n P.inf true)) ∧ Below w.heap.size w w' := by
  cases hv : runB 73 (·.var) P.inf with
  | false => exact decl_80_no P t n m a A c w hH hlc hcc ht hm hid hv
  | true =>
    rcases Nat.eq_zero_or_pos P.len with h0 | h0
    · have hP : P = .nil := by
        cases P with
        | nil => rfl
        | cons => simp [Fo.len] at h0
      subst hP
      clear h0
      simp only [show Fo.nil.len = 0 from rfl] at hlc ⊢
      rcases Nat.eq_zero_or_pos c with rfl | hc
      · cases A with
        | none => exact decl_80_n0 t n m a w hH hlc hcc ht hm hid hv
        | some ad => exact decl_80_s0 t n m a ad w hH hlc hcc ht hm hid hv
      · cases A with
        | none => exact decl_80_n1 t n m a c w hH hlc hcc ht hm hid hc hv
        | some ad => exact decl_80_s1 t n m a ad c w hH hlc hcc ht hm hid hc hv
    · obtain ⟨k9, t9, n9, m9, a9, Q9, ad, A9, d9, R9, rfl, -, -, -⟩ := part_at hH (j := 0) h0
      have hr : runN 73 P.inf ≤ P.len := by have := runN_le 73 P.inf; rwa [inf_len] at this
      by_cases hc : c = runN 73 P.inf
      · exact decl_80_c P t n m a ad c w hH hlc hcc ht hm hid _ rfl hc h0 hv
      · exact decl_80_l P t n m a ad c w hH hlc hcc ht hm hid _ rfl (by omega) h0 hv
end Go.Proofs.Ytogoolpgajopcaa
