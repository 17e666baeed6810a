import Derived.Test.YtnnjbgjhhbmfgaaGreatDoorTyE
import Derived.Test.YtnnjbgjhhbmfgaaGreatDoorTyB
import Derived.Deep.RegionHeld3
import Derived.Sort.Grow
import Derived.Deep.Light
namespace Go.Proofs.YtnnjbgjhhbmfgaaGreatDoor
open Go.RowKit
theorem or2_assoc (a b c : Int) : or2 (or2 a b) c = or2 a (or2 b c) := by
  unfold or2
  by_cases h : a = 0 <;> simp [h]
/-- What a call leaves that only draws and makes memory. -/
def Gw (w w' : World) : Prop := ∃ q os, w' = Go.Sort.grow (w.drewN q) os
theorem Gw.refl (w : World) : Gw w w := ⟨0, #[], by rw [Go.Sort.grow_empty]; rfl⟩
theorem drewN_add (w : World) (m n : Nat) : (w.drewN m).drewN n = w.drewN (m + n) := by
  simp only [World.drewN, Nat.add_assoc]
theorem Gw.trans {a b c : World} (h : Gw a b) (h' : Gw b c) : Gw a c := by
  obtain ⟨q, os, rfl⟩ := h
  obtain ⟨q', os', rfl⟩ := h'
  refine ⟨q + q', os ++ os', ?_⟩
  rw [← drewN_add, ← Go.Sort.grow_grow]
  rfl
theorem Gw.drew {a b : World} (h : Gw a b) : Gw a b.drew := h.trans ⟨1, #[], by rw [Go.Sort.grow_empty]; rfl⟩
theorem Gw.alloc {a b : World} (h : Gw a b) (o : Obj) : Gw a (b.alloc o) := h.trans ⟨0, #[o], by rw [Go.Sort.alloc_eq_grow]; rfl⟩
theorem Gw.below {a b : World} (h : Gw a b) : Below a.heap.size a b := by
  obtain ⟨q, os, rfl⟩ := h
  exact ⟨rfl, rfl, rfl, by simp [Go.Sort.grow, World.drewN], fun k hk => by
    show (a.heap ++ os)[k]? = a.heap[k]?
    rw [Array.getElem?_append_left hk]⟩
theorem drewB {B : Nat} {a w : World} (h : Below B a w) : Below B a w.drew := h.drew
theorem boxZ3 (W : World) (x y z : Int) : (W.alloc (.cells #[.int .i64 x, .int .i64 y, .int .i64 z] 3)).drew.cell? ⟨W.heap.size, 0, none⟩ = some (.int .i64 x) ∧ (W.alloc (.cells #[.int .i64 x, .int .i64 y, .int .i64 z] 3)).drew.cell? ⟨W.heap.size, 1, none⟩ = some (.int .i64 y) ∧ (W.alloc (.cells #[.int .i64 x, .int .i64 y, .int .i64 z] 3)).drew.cell? ⟨W.heap.size, 2, none⟩ = some (.int .i64 z) :=
  ⟨World.cell?_alloc_at _ _ _ _ rfl, World.cell?_alloc_at _ _ _ _ rfl, World.cell?_alloc_at _ _ _ _ rfl⟩
theorem boxZ2 (W : World) (x y : Int) : (W.alloc (.cells #[.int .i64 x, .int .i64 y] 3)).drew.cell? ⟨W.heap.size, 0, none⟩ = some (.int .i64 x) ∧ (W.alloc (.cells #[.int .i64 x, .int .i64 y] 3)).drew.cell? ⟨W.heap.size, 1, none⟩ = some (.int .i64 y) :=
  ⟨World.cell?_alloc_at _ _ _ _ rfl, World.cell?_alloc_at _ _ _ _ rfl⟩
theorem measT {n k : Nat} (h : n < k) : k - (intOf (Value.int .i64 ((n : Int) + 1))).toNat < k - (intOf (Value.int .i64 (n : Int))).toNat := by
  simp only [intOf]
  omega
def fnV (f : Nat) : Value := .func (.func f) #[] #[]
/-- Two pointed things are told their order by a function. -/
structure OrdP (f : Nat) (R : World → Nat → Nat → Prop) (R' : World → Nat → Nat → Prop) (c : Int) : Prop where
  ok : ∀ (w : World) (b o b' o' : Nat), R w b o → R' w b' o' → Calls Tryz.prog f #[.pointer (some ⟨b, o, none⟩), .pointer (some ⟨b', o', none⟩)] w fun e w' => e = .returned (.int .i64 c) ∧ Gw w w'
set_option maxRecDepth 100000 in
set_option maxHeartbeats 8000000 in
theorem all_types {α : Type} (E : α → List Tok) (hE : ∀ x y, Clean (E x) (E y) (lexC (E x) (E y))) (R R' : α → World → Nat → Nat → Prop) (hR : ∀ x w w' b o, Below w.heap.size w w' → R x w b o → R x w' b o) (hR' : ∀ x w w' b o, Below w.heap.size w w' → R' x w b o → R' x w' b o)
    (l l' : List α) (hl : ∀ x ∈ l, ∀ y, OrdP 11 (R x) (R' y) (lexC (E x) (E y))) (A A' : Option Addr) (c c' : Nat) (w : World) (b o b' o' : Nat) (hA : 0 < l.length → A = some ⟨b, o, none⟩) (hA' : 0 < l'.length → A' = some ⟨b', o', none⟩) (hlen : l.length ≤ 1000000000000000) (_hlen' : l'.length ≤ 1000000000000000)
    (hx : ∀ i (h : i < l.length), R l[i] w b (o + i * 6)) (hx' : ∀ i (h : i < l'.length), R' l'[i] w b' (o' + i * 6)) :
    Calls Tryz.prog 25 #[.slice A l.length c, .slice A' l'.length c', .func (.func 11) #[] #[]] w fun e w' => e = .returned (.int .i64 (lexC (rowE E l) (rowE E l'))) ∧ Gw w w' := by
  by_cases heq : l.length = l'.length
  case neg =>
    rw [row_len E heq]
    have tc : (cmpZ l.length l'.length != 0) = true := by
      rw [bne_iff_ne]
      exact fun h => heq (by have := cmpZ_zero h; omega)
    have KC := Lib.hid (compare_i (l.length : Int) (l'.length : Int))
    generalize cmpZ (l.length : Int) (l'.length : Int) = cz at tc KC
    clear heq hx hx' hl hR hR' hA hA'
    go_enter Tryz.func25, Tryz.ntmps25
    go_wp2_with fail
    refine (KC.out _).mono ?_
    rintro e w1 ⟨rfl, rfl⟩
    go_wp2_with fail
    go_ret
    exact ⟨rfl, Gw.refl _⟩
  rw [row_same E heq]
  have HE := Lib.hid hE
  have HR := Lib.hid hR
  have HR' := Lib.hid hR'
  have HO := Lib.hid hl
  have HA := Lib.hid hA
  have HA' := Lib.hid hA'
  have HX := Lib.hid hx
  have HX' := Lib.hid hx'
  have HBg := Lib.hid hlen
  have HQ := Lib.hid heq
  have KC := Lib.hid (compare_i (l.length : Int) (l'.length : Int))
  rw [show cmpZ (l.length : Int) (l'.length : Int) = 0 from by rw [heq]; exact cmpZ_self _] at KC
  generalize hres : restC E l l' 0 = res
  have HRes := Lib.hid hres
  clear hE hR hR' hl hA hA' hx hx' hres
  obtain ⟨m, hm⟩ : ∃ m, m = l.length := ⟨_, rfl⟩
  obtain ⟨m', hm'⟩ : ∃ m', m' = l'.length := ⟨_, rfl⟩
  rw [← hm, ← hm'] at heq KC
  rw [← hm, ← hm']
  rw [← hm] at hlen HBg
  have HM := Lib.hid (And.intro hm hm')
  subst heq
  clear _hlen' hm hm'
  go_enter Tryz.func25, Tryz.ntmps25
  go_wp2_with fail
  refine (KC.out _).mono ?_
  rintro e w1 ⟨rfl, rfl⟩
  go_wp2_with fail
  go_loopw [20] (fun v wr => ∃ n : Nat, n ≤ m ∧ v = .int .i64 n ∧ Gw w wr ∧ restC E l l' n = res) (fun v _ => m - (intOf v).toNat)
  case atStart => exact ⟨0, by omega, rfl, Gw.refl _, HRes.out⟩
  case round =>
    obtain ⟨n, hn, rfl, hb, hrest⟩ := hrel
    have HB := Lib.hid hb
    have HRst := Lib.hid hrest
    clear hb hrest
    by_cases hlt : n < m
    case neg =>
      obtain rfl : n = m := by omega
      have tl : decide ((n : Int) < (n : Int)) = false := by simp
      have h0 : res = 0 := by rw [← HRst.out, HM.out.1]; exact rest_end E HQ.out
      have H0 := Lib.hid h0
      clear hlt h0
      go_wp2_with fail
      go_ret
      exact ⟨by rw [H0.out]; rfl, HB.out⟩
    have tl : decide ((n : Int) < (m : Int)) = true := by simp; omega
    have hn1 : n < l.length := by rw [← HM.out.1]; exact hlt
    have hn2 : n < l'.length := by rw [← HM.out.2]; exact hlt
    have hA := HA.out (by omega)
    have hA' := HA'.out (by omega)
    subst hA hA'
    have HL := Lib.hid hlt
    have hstep := rest_step E HE.out HQ.out hn1 hn2
    rw [HRst.out] at hstep
    have K7 := Lib.hid ((HO.out l[n] (List.getElem_mem hn1) l'[n]).ok wr.drew b (o + n * 6) b' (o' + n * 6) (HR.out _ _ _ _ _ HB.out.drew.below (HX.out n hn1)) (HR'.out _ _ _ _ _ HB.out.drew.below (HX'.out n hn2)))
    generalize lexC (E l[n]) (E l'[n]) = c7 at hstep K7
    have HNext : Hid (c7 = 0 → restC E l l' (n + 1) = res) := Lib.hid fun h => by rw [hstep, h, or2_zero]
    have HStop : Hid (c7 ≠ 0 → res = c7) := Lib.hid fun h => by rw [hstep, or2_ne h]
    have hltn : n < m := hlt
    clear hstep hlt hn1 hn2
    go_wp2_with fail
    go_wp2_with fail
    refine wp_region_held_drew (S := (fun _ => True)) (by kernel_rfl) trivial (fun hHeld => ?_)
    refine wpAnyH_take (i := 0) (v := ?_) (show _ = some { dst := some 23, op := _, type := _, pos := _, after := _, guard := _ } from rfl) (by kernel_rfl) (by kernel_rfl) (by kernel_rfl) (fun _ _ _ h => h) (Or.inl ⟨by rfl, ?_⟩) hHeld ?_
    rotate_left
    · intro w' hSw
      (try dsimp only at hSw)
      go_simp
      try with_reducible rfl
    try simp only [Act.put, List.setIfInBounds_toArray, List.set_cons_zero, List.set_cons_succ]
    refine wpAnyH_take (i := 1) (v := ?_) (show _ = some { dst := some 24, op := _, type := _, pos := _, after := _, guard := _ } from rfl) (by kernel_rfl) (by kernel_rfl) (by kernel_rfl) (fun _ _ _ h => h) (Or.inl ⟨by rfl, ?_⟩) hHeld ?_
    rotate_left
    · intro w' hSw
      (try dsimp only at hSw)
      go_simp
      try with_reducible rfl
    try simp only [Act.put, List.setIfInBounds_toArray, List.set_cons_zero, List.set_cons_succ]
    refine wpAnyH_take (i := 2) (v := ?_) (show _ = some { dst := some 25, op := _, type := _, pos := _, after := _, guard := _ } from rfl) (by kernel_rfl) (by kernel_rfl) (by kernel_rfl) (fun _ _ _ h => h) (Or.inl ⟨by rfl, ?_⟩) hHeld ?_
    rotate_left
    · intro w' hSw
      (try dsimp only at hSw)
      go_simp
      try with_reducible rfl
    try simp only [Act.put, List.setIfInBounds_toArray, List.set_cons_zero, List.set_cons_succ]
    refine wpAnyH_take (i := 3) (v := ?_) (show _ = some { dst := some 26, op := _, type := _, pos := _, after := _, guard := _ } from rfl) (by kernel_rfl) (by kernel_rfl) (by kernel_rfl) (fun _ _ _ h => h) (Or.inl ⟨by rfl, ?_⟩) hHeld ?_
    rotate_left
    · intro w' hSw
      (try dsimp only at hSw)
      go_simp
      try with_reducible rfl
    try simp only [Act.put, List.setIfInBounds_toArray, List.set_cons_zero, List.set_cons_succ]
    refine wpAnyH_take (i := 4) (v := ?_) (show _ = some { dst := some 27, op := _, type := _, pos := _, after := _, guard := _ } from rfl) (by kernel_rfl) (by kernel_rfl) (by kernel_rfl) (fun _ _ _ h => h) (Or.inl ⟨by rfl, ?_⟩) hHeld ?_
    rotate_left
    · intro w' hSw
      (try dsimp only at hSw)
      go_simp
      try with_reducible rfl
    try simp only [Act.put, List.setIfInBounds_toArray, List.set_cons_zero, List.set_cons_succ]
    refine wpAnyH_take (i := 5) (v := ?_) (show _ = some { dst := some 28, op := _, type := _, pos := _, after := _, guard := _ } from rfl) (by kernel_rfl) (by kernel_rfl) (by kernel_rfl) (fun _ _ _ h => h) (Or.inl ⟨by rfl, ?_⟩) hHeld ?_
    rotate_left
    · intro w' hSw
      (try dsimp only at hSw)
      go_simp
      try with_reducible rfl
    try simp only [Act.put, List.setIfInBounds_toArray, List.set_cons_zero, List.set_cons_succ]
    refine wpAnyH_take (i := 6) (v := ?_) (show _ = some { dst := some 29, op := _, type := _, pos := _, after := _, guard := _ } from rfl) (by kernel_rfl) (by kernel_rfl) (by kernel_rfl) (fun _ _ _ h => h) (Or.inl ⟨by rfl, ?_⟩) hHeld ?_
    rotate_left
    · intro w' hSw
      (try dsimp only at hSw)
      go_simp
      try with_reducible rfl
    try simp only [Act.put, List.setIfInBounds_toArray, List.set_cons_zero, List.set_cons_succ]
    refine wpAnyH_ready (rs := [7]) (by kernel_rfl) (by simp) ?_
    refine AllReadyH.cons (show _ = some { dst := some 30, op := _, type := _, pos := _, after := _, guard := _ } from rfl) (fun K hK => ?_) AllReadyH.nil
    go_simp
    refine K7.out.mono ?_
    rintro e w7 ⟨rfl, hb7⟩
    have HB7 := Lib.hid hb7
    clear hb7
    go_wp2_with fail
    refine hK.out _ _ (trivial) (fun hHeld => ?_)
    clear hK K
    try simp only [Act.put, List.setIfInBounds_toArray, List.set_cons_zero, List.set_cons_succ]
    refine wpAnyH_take (i := 8) (v := ?_) (show _ = some { dst := some 9, op := _, type := _, pos := _, after := _, guard := _ } from rfl) (by kernel_rfl) (by kernel_rfl) (by kernel_rfl) (fun _ _ _ h => h) (Or.inl ⟨by rfl, ?_⟩) hHeld ?_
    rotate_left
    · intro w' hSw
      (try dsimp only at hSw)
      go_simp
      try with_reducible rfl
    try simp only [Act.put, List.setIfInBounds_toArray, List.set_cons_zero, List.set_cons_succ]
    refine wpAnyH_done (by kernel_rfl) ?_ _
    clear hHeld
    by_cases hc : c7 = 0
    · have tc : (c7 != 0) = false := by simpa using hc
      have HR2 := Lib.hid (HNext.out hc)
      clear hc
      go_wp2_with fail
      refine ⟨⟨n + 1, HL.out, by go_num, HB.out.drew.trans HB7.out, HR2.out⟩, ?meas⟩
      case meas => exact measT HL.out
    · have tc : (c7 != 0) = true := by simpa using hc
      have HR2 := Lib.hid (HStop.out hc)
      clear hc
      go_wp2_with fail
      go_ret
      exact ⟨by rw [← HR2.out]; rfl, HB.out.drew.trans HB7.out⟩
end Go.Proofs.YtnnjbgjhhbmfgaaGreatDoor
