import Derived.Test.YtnnjbgjhhbmfgaaGreatDoorTyF
namespace Go.Proofs.YtnnjbgjhhbmfgaaGreatDoor
open Go.RowKit
set_option maxRecDepth 100000 in
set_option maxHeartbeats 8000000 in
theorem all_fields {α : Type} (E : α → List Tok) (hE : ∀ x y, Clean (E x) (E y) (lexC (E x) (E y))) (R R' : α → World → Nat → Nat → Prop) (hR : ∀ x w w' b o, Below w.heap.size w w' → R x w b o → R x w' b o) (hR' : ∀ x w w' b o, Below w.heap.size w w' → R' x w b o → R' x w' b o)
    (l l' : List α) (hl : ∀ x ∈ l, ∀ y, OrdP 27 (R x) (R' y) (lexC (E x) (E y))) (A A' : Option Addr) (c c' : Nat) (w : World) (b o b' o' : Nat) (hA : 0 < l.length → A = some ⟨b, o, none⟩) (hA' : 0 < l'.length → A' = some ⟨b', o', none⟩) (hlen : l.length ≤ 1000000000000000) (_hlen' : l'.length ≤ 1000000000000000)
    (hx : ∀ i (h : i < l.length), R l[i] w b (o + i * 8)) (hx' : ∀ i (h : i < l'.length), R' l'[i] w b' (o' + i * 8)) :
    Calls Tryz.prog 26 #[.slice A l.length c, .slice A' l'.length c', .func (.func 27) #[] #[]] w fun e w' => e = .returned (.int .i64 (lexC (rowE E l) (rowE E l'))) ∧ Gw w w' := by
  by_cases heq : l.length = l'.length
  case neg =>
    rw [row_len E heq]
    have tc : (cmpZ l.length l'.length != 0) = true := by
      rw [bne_iff_ne]
      exact fun h => heq (by have := cmpZ_zero h; omega)
    have KC := Lib.hid (compare_i (l.length : Int) (l'.length : Int))
    generalize cmpZ (l.length : Int) (l'.length : Int) = cz at tc KC
    clear heq hx hx' hl hR hR' hA hA'
    go_enter Tryz.func26, Tryz.ntmps26
    go_wp2_with fail
    refine (KC.out _).mono ?_
    rintro e w1 ⟨rfl, rfl⟩
    go_wp2_with fail
    go_ret
    exact ⟨rfl, Gw.refl _⟩
  rw [row_same E heq]
  have HE := Lib.hid hE
  have HR := Lib.hid hR
  have HR' := Lib.hid hR'
  have HO := Lib.hid hl
  have HA := Lib.hid hA
  have HA' := Lib.hid hA'
  have HX := Lib.hid hx
  have HX' := Lib.hid hx'
  have HBg := Lib.hid hlen
  have HQ := Lib.hid heq
  have KC := Lib.hid (compare_i (l.length : Int) (l'.length : Int))
  rw [show cmpZ (l.length : Int) (l'.length : Int) = 0 from by rw [heq]; exact cmpZ_self _] at KC
  generalize hres : restC E l l' 0 = res
  have HRes := Lib.hid hres
  clear hE hR hR' hl hA hA' hx hx' hres
  obtain ⟨m, hm⟩ : ∃ m, m = l.length := ⟨_, rfl⟩
  obtain ⟨m', hm'⟩ : ∃ m', m' = l'.length := ⟨_, rfl⟩
  rw [← hm, ← hm'] at heq KC
  rw [← hm, ← hm']
  rw [← hm] at hlen HBg
  have HM := Lib.hid (And.intro hm hm')
  subst heq
  clear _hlen' hm hm'
  go_enter Tryz.func26, Tryz.ntmps26
  go_wp2_with fail
  refine (KC.out _).mono ?_
  rintro e w1 ⟨rfl, rfl⟩
  go_wp2_with fail
  go_loopw [20] (fun v wr => ∃ n : Nat, n ≤ m ∧ v = .int .i64 n ∧ Gw w wr ∧ restC E l l' n = res) (fun v _ => m - (intOf v).toNat)
  case atStart => exact ⟨0, by omega, rfl, Gw.refl _, HRes.out⟩
  case round =>
    obtain ⟨n, hn, rfl, hb, hrest⟩ := hrel
    have HB := Lib.hid hb
    have HRst := Lib.hid hrest
    clear hb hrest
    by_cases hlt : n < m
    case neg =>
      obtain rfl : n = m := by omega
      have tl : decide ((n : Int) < (n : Int)) = false := by simp
      have h0 : res = 0 := by rw [← HRst.out, HM.out.1]; exact rest_end E HQ.out
      have H0 := Lib.hid h0
      clear hlt h0
      go_wp2_with fail
      go_ret
      exact ⟨by rw [H0.out]; rfl, HB.out⟩
    have tl : decide ((n : Int) < (m : Int)) = true := by simp; omega
    have hn1 : n < l.length := by rw [← HM.out.1]; exact hlt
    have hn2 : n < l'.length := by rw [← HM.out.2]; exact hlt
    have hA := HA.out (by omega)
    have hA' := HA'.out (by omega)
    subst hA hA'
    have HL := Lib.hid hlt
    have hstep := rest_step E HE.out HQ.out hn1 hn2
    rw [HRst.out] at hstep
    have K7 := Lib.hid ((HO.out l[n] (List.getElem_mem hn1) l'[n]).ok wr.drew b (o + n * 8) b' (o' + n * 8) (HR.out _ _ _ _ _ HB.out.drew.below (HX.out n hn1)) (HR'.out _ _ _ _ _ HB.out.drew.below (HX'.out n hn2)))
    generalize lexC (E l[n]) (E l'[n]) = c7 at hstep K7
    have HNext : Hid (c7 = 0 → restC E l l' (n + 1) = res) := Lib.hid fun h => by rw [hstep, h, or2_zero]
    have HStop : Hid (c7 ≠ 0 → res = c7) := Lib.hid fun h => by rw [hstep, or2_ne h]
    have hltn : n < m := hlt
    clear hstep hlt hn1 hn2
    go_wp2_with fail
    go_wp2_with fail
    refine wp_region_held_drew (S := (fun _ => True)) (by kernel_rfl) trivial (fun hHeld => ?_)
    refine wpAnyH_take (i := 0) (v := ?_) (show _ = some { dst := some 23, op := _, type := _, pos := _, after := _, guard := _ } from rfl) (by kernel_rfl) (by kernel_rfl) (by kernel_rfl) (fun _ _ _ h => h) (Or.inl ⟨by rfl, ?_⟩) hHeld ?_
    rotate_left
    · intro w' hSw
      (try dsimp only at hSw)
      go_simp
      try with_reducible rfl
    try simp only [Act.put, List.setIfInBounds_toArray, List.set_cons_zero, List.set_cons_succ]
    refine wpAnyH_take (i := 1) (v := ?_) (show _ = some { dst := some 24, op := _, type := _, pos := _, after := _, guard := _ } from rfl) (by kernel_rfl) (by kernel_rfl) (by kernel_rfl) (fun _ _ _ h => h) (Or.inl ⟨by rfl, ?_⟩) hHeld ?_
    rotate_left
    · intro w' hSw
      (try dsimp only at hSw)
      go_simp
      try with_reducible rfl
    try simp only [Act.put, List.setIfInBounds_toArray, List.set_cons_zero, List.set_cons_succ]
    refine wpAnyH_take (i := 2) (v := ?_) (show _ = some { dst := some 25, op := _, type := _, pos := _, after := _, guard := _ } from rfl) (by kernel_rfl) (by kernel_rfl) (by kernel_rfl) (fun _ _ _ h => h) (Or.inl ⟨by rfl, ?_⟩) hHeld ?_
    rotate_left
    · intro w' hSw
      (try dsimp only at hSw)
      go_simp
      try with_reducible rfl
    try simp only [Act.put, List.setIfInBounds_toArray, List.set_cons_zero, List.set_cons_succ]
    refine wpAnyH_take (i := 3) (v := ?_) (show _ = some { dst := some 26, op := _, type := _, pos := _, after := _, guard := _ } from rfl) (by kernel_rfl) (by kernel_rfl) (by kernel_rfl) (fun _ _ _ h => h) (Or.inl ⟨by rfl, ?_⟩) hHeld ?_
    rotate_left
    · intro w' hSw
      (try dsimp only at hSw)
      go_simp
      try with_reducible rfl
    try simp only [Act.put, List.setIfInBounds_toArray, List.set_cons_zero, List.set_cons_succ]
    refine wpAnyH_take (i := 4) (v := ?_) (show _ = some { dst := some 27, op := _, type := _, pos := _, after := _, guard := _ } from rfl) (by kernel_rfl) (by kernel_rfl) (by kernel_rfl) (fun _ _ _ h => h) (Or.inl ⟨by rfl, ?_⟩) hHeld ?_
    rotate_left
    · intro w' hSw
      (try dsimp only at hSw)
      go_simp
      try with_reducible rfl
    try simp only [Act.put, List.setIfInBounds_toArray, List.set_cons_zero, List.set_cons_succ]
    refine wpAnyH_take (i := 5) (v := ?_) (show _ = some { dst := some 28, op := _, type := _, pos := _, after := _, guard := _ } from rfl) (by kernel_rfl) (by kernel_rfl) (by kernel_rfl) (fun _ _ _ h => h) (Or.inl ⟨by rfl, ?_⟩) hHeld ?_
    rotate_left
    · intro w' hSw
      (try dsimp only at hSw)
      go_simp
      try with_reducible rfl
    try simp only [Act.put, List.setIfInBounds_toArray, List.set_cons_zero, List.set_cons_succ]
    refine wpAnyH_take (i := 6) (v := ?_) (show _ = some { dst := some 29, op := _, type := _, pos := _, after := _, guard := _ } from rfl) (by kernel_rfl) (by kernel_rfl) (by kernel_rfl) (fun _ _ _ h => h) (Or.inl ⟨by rfl, ?_⟩) hHeld ?_
    rotate_left
    · intro w' hSw
      (try dsimp only at hSw)
      go_simp
      try with_reducible rfl
    try simp only [Act.put, List.setIfInBounds_toArray, List.set_cons_zero, List.set_cons_succ]
    refine wpAnyH_ready (rs := [7]) (by kernel_rfl) (by simp) ?_
    refine AllReadyH.cons (show _ = some { dst := some 30, op := _, type := _, pos := _, after := _, guard := _ } from rfl) (fun K hK => ?_) AllReadyH.nil
    go_simp
    refine K7.out.mono ?_
    rintro e w7 ⟨rfl, hb7⟩
    have HB7 := Lib.hid hb7
    clear hb7
    go_wp2_with fail
    refine hK.out _ _ (trivial) (fun hHeld => ?_)
    clear hK K
    try simp only [Act.put, List.setIfInBounds_toArray, List.set_cons_zero, List.set_cons_succ]
    refine wpAnyH_take (i := 8) (v := ?_) (show _ = some { dst := some 9, op := _, type := _, pos := _, after := _, guard := _ } from rfl) (by kernel_rfl) (by kernel_rfl) (by kernel_rfl) (fun _ _ _ h => h) (Or.inl ⟨by rfl, ?_⟩) hHeld ?_
    rotate_left
    · intro w' hSw
      (try dsimp only at hSw)
      go_simp
      try with_reducible rfl
    try simp only [Act.put, List.setIfInBounds_toArray, List.set_cons_zero, List.set_cons_succ]
    refine wpAnyH_done (by kernel_rfl) ?_ _
    clear hHeld
    by_cases hc : c7 = 0
    · have tc : (c7 != 0) = false := by simpa using hc
      have HR2 := Lib.hid (HNext.out hc)
      clear hc
      go_wp2_with fail
      refine ⟨⟨n + 1, HL.out, by go_num, HB.out.drew.trans HB7.out, HR2.out⟩, ?meas⟩
      case meas => exact measT HL.out
    · have tc : (c7 != 0) = true := by simpa using hc
      have HR2 := Lib.hid (HStop.out hc)
      clear hc
      go_wp2_with fail
      go_ret
      exact ⟨by rw [← HR2.out]; rfl, HB.out.drew.trans HB7.out⟩
set_option maxRecDepth 100000 in
set_option maxHeartbeats 8000000 in
theorem all_vars {α : Type} (E : α → List Tok) (hE : ∀ x y, Clean (E x) (E y) (lexC (E x) (E y))) (R R' : α → World → Nat → Nat → Prop) (hR : ∀ x w w' b o, Below w.heap.size w w' → R x w b o → R x w' b o) (hR' : ∀ x w w' b o, Below w.heap.size w w' → R' x w b o → R' x w' b o)
    (l l' : List α) (hl : ∀ x ∈ l, ∀ y, OrdP 29 (R x) (R' y) (lexC (E x) (E y))) (A A' : Option Addr) (c c' : Nat) (w : World) (b o b' o' : Nat) (hA : 0 < l.length → A = some ⟨b, o, none⟩) (hA' : 0 < l'.length → A' = some ⟨b', o', none⟩) (hlen : l.length ≤ 1000000000000000) (_hlen' : l'.length ≤ 1000000000000000)
    (hx : ∀ i (h : i < l.length), R l[i] w b (o + i * 2)) (hx' : ∀ i (h : i < l'.length), R' l'[i] w b' (o' + i * 2)) :
    Calls Tryz.prog 28 #[.slice A l.length c, .slice A' l'.length c', .func (.func 29) #[] #[]] w fun e w' => e = .returned (.int .i64 (lexC (rowE E l) (rowE E l'))) ∧ Gw w w' := by
  by_cases heq : l.length = l'.length
  case neg =>
    rw [row_len E heq]
    have tc : (cmpZ l.length l'.length != 0) = true := by
      rw [bne_iff_ne]
      exact fun h => heq (by have := cmpZ_zero h; omega)
    have KC := Lib.hid (compare_i (l.length : Int) (l'.length : Int))
    generalize cmpZ (l.length : Int) (l'.length : Int) = cz at tc KC
    clear heq hx hx' hl hR hR' hA hA'
    go_enter Tryz.func28, Tryz.ntmps28
    go_wp2_with fail
    refine (KC.out _).mono ?_
    rintro e w1 ⟨rfl, rfl⟩
    go_wp2_with fail
    go_ret
    exact ⟨rfl, Gw.refl _⟩
  rw [row_same E heq]
  have HE := Lib.hid hE
  have HR := Lib.hid hR
  have HR' := Lib.hid hR'
  have HO := Lib.hid hl
  have HA := Lib.hid hA
  have HA' := Lib.hid hA'
  have HX := Lib.hid hx
  have HX' := Lib.hid hx'
  have HBg := Lib.hid hlen
  have HQ := Lib.hid heq
  have KC := Lib.hid (compare_i (l.length : Int) (l'.length : Int))
  rw [show cmpZ (l.length : Int) (l'.length : Int) = 0 from by rw [heq]; exact cmpZ_self _] at KC
  generalize hres : restC E l l' 0 = res
  have HRes := Lib.hid hres
  clear hE hR hR' hl hA hA' hx hx' hres
  obtain ⟨m, hm⟩ : ∃ m, m = l.length := ⟨_, rfl⟩
  obtain ⟨m', hm'⟩ : ∃ m', m' = l'.length := ⟨_, rfl⟩
  rw [← hm, ← hm'] at heq KC
  rw [← hm, ← hm']
  rw [← hm] at hlen HBg
  have HM := Lib.hid (And.intro hm hm')
  subst heq
  clear _hlen' hm hm'
  go_enter Tryz.func28, Tryz.ntmps28
  go_wp2_with fail
  refine (KC.out _).mono ?_
  rintro e w1 ⟨rfl, rfl⟩
  go_wp2_with fail
  go_loopw [20] (fun v wr => ∃ n : Nat, n ≤ m ∧ v = .int .i64 n ∧ Gw w wr ∧ restC E l l' n = res) (fun v _ => m - (intOf v).toNat)
  case atStart => exact ⟨0, by omega, rfl, Gw.refl _, HRes.out⟩
  case round =>
    obtain ⟨n, hn, rfl, hb, hrest⟩ := hrel
    have HB := Lib.hid hb
    have HRst := Lib.hid hrest
    clear hb hrest
    by_cases hlt : n < m
    case neg =>
      obtain rfl : n = m := by omega
      have tl : decide ((n : Int) < (n : Int)) = false := by simp
      have h0 : res = 0 := by rw [← HRst.out, HM.out.1]; exact rest_end E HQ.out
      have H0 := Lib.hid h0
      clear hlt h0
      go_wp2_with fail
      go_ret
      exact ⟨by rw [H0.out]; rfl, HB.out⟩
    have tl : decide ((n : Int) < (m : Int)) = true := by simp; omega
    have hn1 : n < l.length := by rw [← HM.out.1]; exact hlt
    have hn2 : n < l'.length := by rw [← HM.out.2]; exact hlt
    have hA := HA.out (by omega)
    have hA' := HA'.out (by omega)
    subst hA hA'
    have HL := Lib.hid hlt
    have hstep := rest_step E HE.out HQ.out hn1 hn2
    rw [HRst.out] at hstep
    have K7 := Lib.hid ((HO.out l[n] (List.getElem_mem hn1) l'[n]).ok wr.drew b (o + n * 2) b' (o' + n * 2) (HR.out _ _ _ _ _ HB.out.drew.below (HX.out n hn1)) (HR'.out _ _ _ _ _ HB.out.drew.below (HX'.out n hn2)))
    generalize lexC (E l[n]) (E l'[n]) = c7 at hstep K7
    have HNext : Hid (c7 = 0 → restC E l l' (n + 1) = res) := Lib.hid fun h => by rw [hstep, h, or2_zero]
    have HStop : Hid (c7 ≠ 0 → res = c7) := Lib.hid fun h => by rw [hstep, or2_ne h]
    have hltn : n < m := hlt
    clear hstep hlt hn1 hn2
    go_wp2_with fail
    go_wp2_with fail
    refine wp_region_held_drew (S := (fun _ => True)) (by kernel_rfl) trivial (fun hHeld => ?_)
    refine wpAnyH_take (i := 0) (v := ?_) (show _ = some { dst := some 23, op := _, type := _, pos := _, after := _, guard := _ } from rfl) (by kernel_rfl) (by kernel_rfl) (by kernel_rfl) (fun _ _ _ h => h) (Or.inl ⟨by rfl, ?_⟩) hHeld ?_
    rotate_left
    · intro w' hSw
      (try dsimp only at hSw)
      go_simp
      try with_reducible rfl
    try simp only [Act.put, List.setIfInBounds_toArray, List.set_cons_zero, List.set_cons_succ]
    refine wpAnyH_take (i := 1) (v := ?_) (show _ = some { dst := some 24, op := _, type := _, pos := _, after := _, guard := _ } from rfl) (by kernel_rfl) (by kernel_rfl) (by kernel_rfl) (fun _ _ _ h => h) (Or.inl ⟨by rfl, ?_⟩) hHeld ?_
    rotate_left
    · intro w' hSw
      (try dsimp only at hSw)
      go_simp
      try with_reducible rfl
    try simp only [Act.put, List.setIfInBounds_toArray, List.set_cons_zero, List.set_cons_succ]
    refine wpAnyH_take (i := 2) (v := ?_) (show _ = some { dst := some 25, op := _, type := _, pos := _, after := _, guard := _ } from rfl) (by kernel_rfl) (by kernel_rfl) (by kernel_rfl) (fun _ _ _ h => h) (Or.inl ⟨by rfl, ?_⟩) hHeld ?_
    rotate_left
    · intro w' hSw
      (try dsimp only at hSw)
      go_simp
      try with_reducible rfl
    try simp only [Act.put, List.setIfInBounds_toArray, List.set_cons_zero, List.set_cons_succ]
    refine wpAnyH_take (i := 3) (v := ?_) (show _ = some { dst := some 26, op := _, type := _, pos := _, after := _, guard := _ } from rfl) (by kernel_rfl) (by kernel_rfl) (by kernel_rfl) (fun _ _ _ h => h) (Or.inl ⟨by rfl, ?_⟩) hHeld ?_
    rotate_left
    · intro w' hSw
      (try dsimp only at hSw)
      go_simp
      try with_reducible rfl
    try simp only [Act.put, List.setIfInBounds_toArray, List.set_cons_zero, List.set_cons_succ]
    refine wpAnyH_take (i := 4) (v := ?_) (show _ = some { dst := some 27, op := _, type := _, pos := _, after := _, guard := _ } from rfl) (by kernel_rfl) (by kernel_rfl) (by kernel_rfl) (fun _ _ _ h => h) (Or.inl ⟨by rfl, ?_⟩) hHeld ?_
    rotate_left
    · intro w' hSw
      (try dsimp only at hSw)
      go_simp
      try with_reducible rfl
    try simp only [Act.put, List.setIfInBounds_toArray, List.set_cons_zero, List.set_cons_succ]
    refine wpAnyH_take (i := 5) (v := ?_) (show _ = some { dst := some 28, op := _, type := _, pos := _, after := _, guard := _ } from rfl) (by kernel_rfl) (by kernel_rfl) (by kernel_rfl) (fun _ _ _ h => h) (Or.inl ⟨by rfl, ?_⟩) hHeld ?_
    rotate_left
    · intro w' hSw
      (try dsimp only at hSw)
      go_simp
      try with_reducible rfl
    try simp only [Act.put, List.setIfInBounds_toArray, List.set_cons_zero, List.set_cons_succ]
    refine wpAnyH_take (i := 6) (v := ?_) (show _ = some { dst := some 29, op := _, type := _, pos := _, after := _, guard := _ } from rfl) (by kernel_rfl) (by kernel_rfl) (by kernel_rfl) (fun _ _ _ h => h) (Or.inl ⟨by rfl, ?_⟩) hHeld ?_
    rotate_left
    · intro w' hSw
      (try dsimp only at hSw)
      go_simp
      try with_reducible rfl
    try simp only [Act.put, List.setIfInBounds_toArray, List.set_cons_zero, List.set_cons_succ]
    refine wpAnyH_ready (rs := [7]) (by kernel_rfl) (by simp) ?_
    refine AllReadyH.cons (show _ = some { dst := some 30, op := _, type := _, pos := _, after := _, guard := _ } from rfl) (fun K hK => ?_) AllReadyH.nil
    go_simp
    refine K7.out.mono ?_
    rintro e w7 ⟨rfl, hb7⟩
    have HB7 := Lib.hid hb7
    clear hb7
    go_wp2_with fail
    refine hK.out _ _ (trivial) (fun hHeld => ?_)
    clear hK K
    try simp only [Act.put, List.setIfInBounds_toArray, List.set_cons_zero, List.set_cons_succ]
    refine wpAnyH_take (i := 8) (v := ?_) (show _ = some { dst := some 9, op := _, type := _, pos := _, after := _, guard := _ } from rfl) (by kernel_rfl) (by kernel_rfl) (by kernel_rfl) (fun _ _ _ h => h) (Or.inl ⟨by rfl, ?_⟩) hHeld ?_
    rotate_left
    · intro w' hSw
      (try dsimp only at hSw)
      go_simp
      try with_reducible rfl
    try simp only [Act.put, List.setIfInBounds_toArray, List.set_cons_zero, List.set_cons_succ]
    refine wpAnyH_done (by kernel_rfl) ?_ _
    clear hHeld
    by_cases hc : c7 = 0
    · have tc : (c7 != 0) = false := by simpa using hc
      have HR2 := Lib.hid (HNext.out hc)
      clear hc
      go_wp2_with fail
      refine ⟨⟨n + 1, HL.out, by go_num, HB.out.drew.trans HB7.out, HR2.out⟩, ?meas⟩
      case meas => exact measT HL.out
    · have tc : (c7 != 0) = true := by simpa using hc
      have HR2 := Lib.hid (HStop.out hc)
      clear hc
      go_wp2_with fail
      go_ret
      exact ⟨by rw [← HR2.out]; rfl, HB.out.drew.trans HB7.out⟩
end Go.Proofs.YtnnjbgjhhbmfgaaGreatDoor
