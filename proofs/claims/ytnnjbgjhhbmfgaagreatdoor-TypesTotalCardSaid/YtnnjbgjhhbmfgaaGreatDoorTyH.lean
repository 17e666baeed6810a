import Derived.Test.YtnnjbgjhhbmfgaaGreatDoorTyG
import Derived.Test.YtnnjbgjhhbmfgaaGreatDoorTyC
namespace Go.Proofs.YtnnjbgjhhbmfgaaGreatDoor
open Go.RowKit
def OrdT (t : Ty) : Prop := ∀ (K K' : Nat → Prop) (t' : Ty), OrdP 11 (fun w b o => AtT K w t b o) (fun w b o => AtT K' w t' b o) (ordT t t')
theorem list_any (l l' : List Ty) (h : ∀ p ∈ l, OrdT p) {K K' : Nat → Prop} {w : World} {A A' : Option Addr} {c c' : Nat} (h1 : ListT K w l A c) (h2 : ListT K' w l' A' c') :
    Calls Tryz.prog 25 #[.slice A l.length c, .slice A' l'.length c', .func (.func 11) #[] #[]] w fun e w' => e = .returned (.int .i64 (lexC (flatL l) (flatL l'))) ∧ Gw w w' := by
  obtain ⟨b, o, hr, hx⟩ := h1
  obtain ⟨b', o', hr', hx'⟩ := h2
  exact all_types flat cleanT (fun x w b o => AtT K w x b o) (fun x w b o => AtT K' w x b o) (fun _ _ _ _ _ hb h => h.later hb) (fun _ _ _ _ _ hb h => h.later hb) l l' (fun x hx y => h x hx K K' y) A A' c c' w b o b' o' (fun h => (hr.some h).1) (fun h => (hr'.some h).1) (Nat.le_trans hr.le hr.big) (Nat.le_trans hr'.le hr'.big) hx hx'
def FieldAt (K : Nat → Prop) (f : ByteArray × Int × Ty) (w : World) (b o : Nat) : Prop := w.cell? ⟨b, o, none⟩ = some (.string f.1) ∧ w.cell? ⟨b, o + 1, none⟩ = some (.int .i64 f.2.1) ∧ AtT K w f.2.2 b (o + 2)
theorem FieldAt.later {K : Nat → Prop} {f : ByteArray × Int × Ty} {w w' : World} {b o : Nat} (h : FieldAt K f w b o) (hb : Below w.heap.size w w') : FieldAt K f w' b o := ⟨cell_stays hb h.1, cell_stays hb h.2.1, h.2.2.later hb⟩
def VarAt (K : Nat → Prop) (v : ByteArray × List Ty) (w : World) (b o : Nat) : Prop := ∃ B d, w.cell? ⟨b, o, none⟩ = some (.string v.1) ∧ w.cell? ⟨b, o + 1, none⟩ = some (.slice B v.2.length d) ∧ ListT K w v.2 B d
theorem VarAt.later {K : Nat → Prop} {v : ByteArray × List Ty} {w w' : World} {b o : Nat} (h : VarAt K v w b o) (hb : Below w.heap.size w w') : VarAt K v w' b o := by
  obtain ⟨B, d, h1, h2, h3⟩ := h
  exact ⟨B, d, cell_stays hb h1, cell_stays hb h2, h3.later hb⟩
set_option maxRecDepth 100000 in
set_option maxHeartbeats 8000000 in
theorem vars_one (v : ByteArray × List Ty) (h : ∀ b ∈ v.2, OrdT b) (K K' : Nat → Prop) (v' : ByteArray × List Ty) : OrdP 29 (VarAt K v) (VarAt K' v') (lexC (Tok.s v.1 :: flatL v.2) (.s v'.1 :: flatL v'.2)) := by
  refine ⟨fun w b o b' o' h1 h2 => ?_⟩
  rw [var_steps]
  obtain ⟨vn, vl⟩ := v
  obtain ⟨vn', vl'⟩ := v'
  obtain ⟨B, d, a0, a1, a2⟩ := h1
  obtain ⟨B', d', b0, b1, b2⟩ := h2
  have KL := Lib.hid (list_any vl vl' h (w := w.drew.drew) (a2.later (Below.refl _ _).drew.drew) (b2.later (Below.refl _ _).drew.drew))
  have HS := Lib.hid (And.intro a1 b1)
  have HS1 := Lib.hid (And.intro a0 b0)
  simp only at HS HS1 KL ⊢
  have KC := Lib.hid (fun w => compare_s vn vn' w)
  generalize cmpB vn vn' = cn at KC ⊢
  generalize lexC (flatL vl) (flatL vl') = cl at KL ⊢
  clear h a0 a1 a2 b0 b1 b2
  go_enter Tryz.func29, Tryz.ntmps29
  go_wp2_with fail
  refine wp_region_held_drew (S := (fun w' => w'.cell? ⟨b, o, none⟩ = some (.string vn) ∧ w'.cell? ⟨b', o', none⟩ = some (.string vn'))) (by kernel_rfl) HS1.out (fun hHeld => ?_)
  refine wpAnyH_take (i := 0) (v := ?_) (show _ = some { dst := some 6, op := _, type := _, pos := _, after := _, guard := _ } from rfl) (by kernel_rfl) (by kernel_rfl) (by kernel_rfl) (fun _ _ _ h => h) (Or.inl ⟨by rfl, ?_⟩) hHeld ?_
  rotate_left
  · intro w' hSw
    (try dsimp only at hSw)
    go_simp
    try with_reducible rfl
  try simp only [Act.put, List.setIfInBounds_toArray, List.set_cons_zero, List.set_cons_succ]
  refine wpAnyH_take (i := 1) (v := ?_) (show _ = some { dst := some 7, op := _, type := _, pos := _, after := _, guard := _ } from rfl) (by kernel_rfl) (by kernel_rfl) (by kernel_rfl) (fun _ _ _ h => h) (Or.inl ⟨by rfl, ?_⟩) hHeld ?_
  rotate_left
  · intro w' hSw
    (try dsimp only at hSw)
    go_simp
    try with_reducible rfl
  try simp only [Act.put, List.setIfInBounds_toArray, List.set_cons_zero, List.set_cons_succ]
  refine wpAnyH_take (i := 2) (v := ?_) (show _ = some { dst := some 8, op := _, type := _, pos := _, after := _, guard := _ } from rfl) (by kernel_rfl) (by kernel_rfl) (by kernel_rfl) (fun _ _ _ h => h) (Or.inl ⟨by rfl, ?_⟩) hHeld ?_
  rotate_left
  · intro w' hSw
    (try dsimp only at hSw)
    go_simp
    try with_reducible rfl
  try simp only [Act.put, List.setIfInBounds_toArray, List.set_cons_zero, List.set_cons_succ]
  refine wpAnyH_take (i := 3) (v := ?_) (show _ = some { dst := some 9, op := _, type := _, pos := _, after := _, guard := _ } from rfl) (by kernel_rfl) (by kernel_rfl) (by kernel_rfl) (fun _ _ _ h => h) (Or.inl ⟨by rfl, ?_⟩) hHeld ?_
  rotate_left
  · intro w' hSw
    (try dsimp only at hSw)
    go_simp
    try with_reducible rfl
  try simp only [Act.put, List.setIfInBounds_toArray, List.set_cons_zero, List.set_cons_succ]
  refine wpAnyH_take (i := 4) (v := ?_) (show _ = some { dst := some 10, op := _, type := _, pos := _, after := _, guard := _ } from rfl) (by kernel_rfl) (by kernel_rfl) (by kernel_rfl) (fun _ _ _ h => h) (Or.inl ⟨by rfl, ?_⟩) hHeld ?_
  rotate_left
  · intro w' hSw
    (try dsimp only at hSw)
    go_simp
    try with_reducible rfl
  try simp only [Act.put, List.setIfInBounds_toArray, List.set_cons_zero, List.set_cons_succ]
  refine wpAnyH_take (i := 5) (v := ?_) (show _ = some { dst := some 11, op := _, type := _, pos := _, after := _, guard := _ } from rfl) (by kernel_rfl) (by kernel_rfl) (by kernel_rfl) (fun _ _ _ h => h) (Or.inl ⟨by rfl, ?_⟩) hHeld ?_
  rotate_left
  · intro w' hSw
    (try dsimp only at hSw)
    go_simp
    try with_reducible rfl
  try simp only [Act.put, List.setIfInBounds_toArray, List.set_cons_zero, List.set_cons_succ]
  refine wpAnyH_take (i := 6) (v := ?_) (show _ = some { dst := some 12, op := _, type := _, pos := _, after := _, guard := _ } from rfl) (by kernel_rfl) (by kernel_rfl) (by kernel_rfl) (fun _ _ _ h => h) (Or.inl ⟨by rfl, ?_⟩) hHeld ?_
  rotate_left
  · intro w' hSw
    (try dsimp only at hSw)
    go_simp
    try with_reducible rfl
  try simp only [Act.put, List.setIfInBounds_toArray, List.set_cons_zero, List.set_cons_succ]
  refine wpAnyH_take (i := 7) (v := ?_) (show _ = some { dst := some 13, op := _, type := _, pos := _, after := _, guard := _ } from rfl) (by kernel_rfl) (by kernel_rfl) (by kernel_rfl) (fun _ _ _ h => h) (Or.inl ⟨by rfl, ?_⟩) hHeld ?_
  rotate_left
  · intro w' hSw
    (try dsimp only at hSw)
    go_simp
    try with_reducible rfl
  try simp only [Act.put, List.setIfInBounds_toArray, List.set_cons_zero, List.set_cons_succ]
  refine wpAnyH_ready (rs := [8]) (by kernel_rfl) (by simp) ?_
  refine AllReadyH.cons (show _ = some { dst := some 14, op := _, type := _, pos := _, after := _, guard := _ } from rfl) (fun K hK => ?_) AllReadyH.nil
  go_simp
  refine (KC.out _).mono ?_
  rintro e w2 ⟨rfl, rfl⟩
  go_wp2_with fail
  refine hK.out _ _ (HS1.out) (fun hHeld => ?_)
  clear hK K
  try simp only [Act.put, List.setIfInBounds_toArray, List.set_cons_zero, List.set_cons_succ]
  refine wpAnyH_take (i := 9) (v := ?_) (show _ = some { dst := some 5, op := _, type := _, pos := _, after := _, guard := _ } from rfl) (by kernel_rfl) (by kernel_rfl) (by kernel_rfl) (fun _ _ _ h => h) (Or.inl ⟨by rfl, ?_⟩) hHeld ?_
  rotate_left
  · intro w' hSw
    (try dsimp only at hSw)
    go_simp
    try with_reducible rfl
  try simp only [Act.put, List.setIfInBounds_toArray, List.set_cons_zero, List.set_cons_succ]
  refine wpAnyH_done (by kernel_rfl) ?_ _
  clear hHeld
  by_cases hc : cn = 0
  case neg =>
    have tc : (cn != 0) = true := by simpa using hc
    have HC := Lib.hid hc
    clear hc
    go_wp2_with fail
    go_ret
    exact ⟨by rw [or2_ne HC.out]; rfl, (Gw.refl w).drew⟩
  have tc : (cn != 0) = false := by simpa using hc
  have HC0 := Lib.hid hc
  clear hc
  go_wp2_with fail
  refine wp_region_held_drew (S := (fun w' => w'.cell? ⟨b, o + 1, none⟩ = some (.slice B vl.length d) ∧ w'.cell? ⟨b', o' + 1, none⟩ = some (.slice B' vl'.length d'))) (by kernel_rfl) HS.out (fun hHeld => ?_)
  refine wpAnyH_take (i := 0) (v := ?_) (show _ = some { dst := some 18, op := _, type := _, pos := _, after := _, guard := _ } from rfl) (by kernel_rfl) (by kernel_rfl) (by kernel_rfl) (fun _ _ _ h => h) (Or.inl ⟨by rfl, ?_⟩) hHeld ?_
  rotate_left
  · intro w' hSw
    (try dsimp only at hSw)
    go_simp
    try with_reducible rfl
  try simp only [Act.put, List.setIfInBounds_toArray, List.set_cons_zero, List.set_cons_succ]
  refine wpAnyH_take (i := 1) (v := ?_) (show _ = some { dst := some 19, op := _, type := _, pos := _, after := _, guard := _ } from rfl) (by kernel_rfl) (by kernel_rfl) (by kernel_rfl) (fun _ _ _ h => h) (Or.inl ⟨by rfl, ?_⟩) hHeld ?_
  rotate_left
  · intro w' hSw
    (try dsimp only at hSw)
    go_simp
    try with_reducible rfl
  try simp only [Act.put, List.setIfInBounds_toArray, List.set_cons_zero, List.set_cons_succ]
  refine wpAnyH_take (i := 2) (v := ?_) (show _ = some { dst := some 20, op := _, type := _, pos := _, after := _, guard := _ } from rfl) (by kernel_rfl) (by kernel_rfl) (by kernel_rfl) (fun _ _ _ h => h) (Or.inl ⟨by rfl, ?_⟩) hHeld ?_
  rotate_left
  · intro w' hSw
    (try dsimp only at hSw)
    go_simp
    try with_reducible rfl
  try simp only [Act.put, List.setIfInBounds_toArray, List.set_cons_zero, List.set_cons_succ]
  refine wpAnyH_take (i := 3) (v := ?_) (show _ = some { dst := some 21, op := _, type := _, pos := _, after := _, guard := _ } from rfl) (by kernel_rfl) (by kernel_rfl) (by kernel_rfl) (fun _ _ _ h => h) (Or.inl ⟨by rfl, ?_⟩) hHeld ?_
  rotate_left
  · intro w' hSw
    (try dsimp only at hSw)
    go_simp
    try with_reducible rfl
  try simp only [Act.put, List.setIfInBounds_toArray, List.set_cons_zero, List.set_cons_succ]
  refine wpAnyH_take (i := 4) (v := ?_) (show _ = some { dst := some 22, op := _, type := _, pos := _, after := _, guard := _ } from rfl) (by kernel_rfl) (by kernel_rfl) (by kernel_rfl) (fun _ _ _ h => h) (Or.inl ⟨by rfl, ?_⟩) hHeld ?_
  rotate_left
  · intro w' hSw
    (try dsimp only at hSw)
    go_simp
    try with_reducible rfl
  try simp only [Act.put, List.setIfInBounds_toArray, List.set_cons_zero, List.set_cons_succ]
  refine wpAnyH_take (i := 5) (v := ?_) (show _ = some { dst := some 23, op := _, type := _, pos := _, after := _, guard := _ } from rfl) (by kernel_rfl) (by kernel_rfl) (by kernel_rfl) (fun _ _ _ h => h) (Or.inl ⟨by rfl, ?_⟩) hHeld ?_
  rotate_left
  · intro w' hSw
    (try dsimp only at hSw)
    go_simp
    try with_reducible rfl
  try simp only [Act.put, List.setIfInBounds_toArray, List.set_cons_zero, List.set_cons_succ]
  refine wpAnyH_take (i := 6) (v := ?_) (show _ = some { dst := some 24, op := _, type := _, pos := _, after := _, guard := _ } from rfl) (by kernel_rfl) (by kernel_rfl) (by kernel_rfl) (fun _ _ _ h => h) (Or.inl ⟨by rfl, ?_⟩) hHeld ?_
  rotate_left
  · intro w' hSw
    (try dsimp only at hSw)
    go_simp
    try with_reducible rfl
  try simp only [Act.put, List.setIfInBounds_toArray, List.set_cons_zero, List.set_cons_succ]
  refine wpAnyH_take (i := 7) (v := ?_) (show _ = some { dst := some 25, op := _, type := _, pos := _, after := _, guard := _ } from rfl) (by kernel_rfl) (by kernel_rfl) (by kernel_rfl) (fun _ _ _ h => h) (Or.inl ⟨by rfl, ?_⟩) hHeld ?_
  rotate_left
  · intro w' hSw
    (try dsimp only at hSw)
    go_simp
    try with_reducible rfl
  try simp only [Act.put, List.setIfInBounds_toArray, List.set_cons_zero, List.set_cons_succ]
  refine wpAnyH_ready (rs := [8]) (by kernel_rfl) (by simp) ?_
  refine AllReadyH.cons (show _ = some { dst := some 26, op := _, type := _, pos := _, after := _, guard := _ } from rfl) (fun K hK => ?_) AllReadyH.nil
  go_simp
  refine KL.out.mono ?_
  rintro e w4 ⟨rfl, hb4⟩
  have HB4 : Hid (Gw w w4) := Lib.hid ((Gw.refl w).drew.drew.trans hb4)
  have HS4 := Lib.hid (And.intro (cell_stays HB4.out.below HS.out.1) (cell_stays HB4.out.below HS.out.2))
  clear hb4
  go_wp2_with fail
  refine hK.out _ _ (HS4.out) (fun hHeld => ?_)
  clear hK K
  try simp only [Act.put, List.setIfInBounds_toArray, List.set_cons_zero, List.set_cons_succ]
  refine wpAnyH_take (i := 9) (v := ?_) (show _ = some { dst := some 4, op := _, type := _, pos := _, after := _, guard := _ } from rfl) (by kernel_rfl) (by kernel_rfl) (by kernel_rfl) (fun _ _ _ h => h) (Or.inl ⟨by rfl, ?_⟩) hHeld ?_
  rotate_left
  · intro w' hSw
    (try dsimp only at hSw)
    go_simp
    try with_reducible rfl
  try simp only [Act.put, List.setIfInBounds_toArray, List.set_cons_zero, List.set_cons_succ]
  refine wpAnyH_done (by kernel_rfl) ?_ _
  clear hHeld
  go_wp2_with fail
  go_ret
  exact ⟨by rw [HC0.out, or2_zero]; rfl, HB4.out⟩
set_option maxRecDepth 100000 in
set_option maxHeartbeats 8000000 in
theorem field_one (f : ByteArray × Int × Ty) (h : OrdT f.2.2) (K K' : Nat → Prop) (f' : ByteArray × Int × Ty) : OrdP 27 (FieldAt K f) (FieldAt K' f') (lexC ([Tok.s f.1, .i f.2.1] ++ flat f.2.2) ([.s f'.1, .i f'.2.1] ++ flat f'.2.2)) := by
  refine ⟨fun w b o b' o' h1 h2 => ?_⟩
  rw [field_steps]
  obtain ⟨fn, fi, ft⟩ := f
  obtain ⟨fn', fi', ft'⟩ := f'
  obtain ⟨a0, a1, a2⟩ := h1
  obtain ⟨b0, b1, b2⟩ := h2
  simp only at a0 a1 a2 b0 b1 b2 h ⊢
  rw [← or2_assoc]
  have KA := Lib.hid (fun w => compare_s fn fn' w)
  have KB := Lib.hid (fun w => compare_i fi fi' w)
  generalize cmpB fn fn' = ca at KA ⊢
  generalize cmpZ fi fi' = cb at KB ⊢
  have HBx : Hid (Gw w (w.alloc (.cells #[.int .i64 ca, .int .i64 cb] 3)).drew) := Lib.hid ((Gw.refl _).alloc _).drew
  have KL := Lib.hid ((h K K' ft').ok (w.alloc (.cells #[.int .i64 ca, .int .i64 cb] 3)).drew.drew b (o + 2) b' (o' + 2) (a2.later HBx.out.drew.below) (b2.later HBx.out.drew.below))
  generalize ordT ft ft' = cl at KL ⊢
  have HS1 : Hid (w.drew.cell? ⟨b, o, none⟩ = some (.string fn) ∧ w.drew.cell? ⟨b', o', none⟩ = some (.string fn') ∧ w.drew.cell? ⟨b, o + 1, none⟩ = some (.int .i64 fi) ∧ w.drew.cell? ⟨b', o' + 1, none⟩ = some (.int .i64 fi')) := Lib.hid ⟨a0, b0, a1, b1⟩
  have HK3 : Hid ((w.alloc (.cells #[.int .i64 ca, .int .i64 cb] 3)).drew.cell? ⟨b, o, none⟩ = some (.string fn) ∧ (w.alloc (.cells #[.int .i64 ca, .int .i64 cb] 3)).drew.cell? ⟨b', o', none⟩ = some (.string fn') ∧ (w.alloc (.cells #[.int .i64 ca, .int .i64 cb] 3)).drew.cell? ⟨b, o + 1, none⟩ = some (.int .i64 fi) ∧ (w.alloc (.cells #[.int .i64 ca, .int .i64 cb] 3)).drew.cell? ⟨b', o' + 1, none⟩ = some (.int .i64 fi')) := Lib.hid ⟨cell_stays HBx.out.below a0, cell_stays HBx.out.below b0, cell_stays HBx.out.below a1, cell_stays HBx.out.below b1⟩
  clear h a0 a1 a2 b0 b1 b2
  go_enter Tryz.func27, Tryz.ntmps27
  go_wp2_with fail
  refine wp_region_held_drew (S := (fun w' => w'.cell? ⟨b, o, none⟩ = some (.string fn) ∧ w'.cell? ⟨b', o', none⟩ = some (.string fn') ∧ w'.cell? ⟨b, o + 1, none⟩ = some (.int .i64 fi) ∧ w'.cell? ⟨b', o' + 1, none⟩ = some (.int .i64 fi'))) (by kernel_rfl) HS1.out (fun hHeld => ?_)
  refine wpAnyH_take (i := 0) (v := ?_) (show _ = some { dst := some 6, op := _, type := _, pos := _, after := _, guard := _ } from rfl) (by kernel_rfl) (by kernel_rfl) (by kernel_rfl) (fun _ _ _ h => h) (Or.inl ⟨by rfl, ?_⟩) hHeld ?_
  rotate_left
  · intro w' hSw
    (try dsimp only at hSw)
    go_simp
    try with_reducible rfl
  try simp only [Act.put, List.setIfInBounds_toArray, List.set_cons_zero, List.set_cons_succ]
  refine wpAnyH_take (i := 1) (v := ?_) (show _ = some { dst := some 7, op := _, type := _, pos := _, after := _, guard := _ } from rfl) (by kernel_rfl) (by kernel_rfl) (by kernel_rfl) (fun _ _ _ h => h) (Or.inl ⟨by rfl, ?_⟩) hHeld ?_
  rotate_left
  · intro w' hSw
    (try dsimp only at hSw)
    go_simp
    try with_reducible rfl
  try simp only [Act.put, List.setIfInBounds_toArray, List.set_cons_zero, List.set_cons_succ]
  refine wpAnyH_take (i := 2) (v := ?_) (show _ = some { dst := some 8, op := _, type := _, pos := _, after := _, guard := _ } from rfl) (by kernel_rfl) (by kernel_rfl) (by kernel_rfl) (fun _ _ _ h => h) (Or.inl ⟨by rfl, ?_⟩) hHeld ?_
  rotate_left
  · intro w' hSw
    (try dsimp only at hSw)
    go_simp
    try with_reducible rfl
  try simp only [Act.put, List.setIfInBounds_toArray, List.set_cons_zero, List.set_cons_succ]
  refine wpAnyH_take (i := 3) (v := ?_) (show _ = some { dst := some 9, op := _, type := _, pos := _, after := _, guard := _ } from rfl) (by kernel_rfl) (by kernel_rfl) (by kernel_rfl) (fun _ _ _ h => h) (Or.inl ⟨by rfl, ?_⟩) hHeld ?_
  rotate_left
  · intro w' hSw
    (try dsimp only at hSw)
    go_simp
    try with_reducible rfl
  try simp only [Act.put, List.setIfInBounds_toArray, List.set_cons_zero, List.set_cons_succ]
  refine wpAnyH_take (i := 4) (v := ?_) (show _ = some { dst := some 10, op := _, type := _, pos := _, after := _, guard := _ } from rfl) (by kernel_rfl) (by kernel_rfl) (by kernel_rfl) (fun _ _ _ h => h) (Or.inl ⟨by rfl, ?_⟩) hHeld ?_
  rotate_left
  · intro w' hSw
    (try dsimp only at hSw)
    go_simp
    try with_reducible rfl
  try simp only [Act.put, List.setIfInBounds_toArray, List.set_cons_zero, List.set_cons_succ]
  refine wpAnyH_take (i := 5) (v := ?_) (show _ = some { dst := some 11, op := _, type := _, pos := _, after := _, guard := _ } from rfl) (by kernel_rfl) (by kernel_rfl) (by kernel_rfl) (fun _ _ _ h => h) (Or.inl ⟨by rfl, ?_⟩) hHeld ?_
  rotate_left
  · intro w' hSw
    (try dsimp only at hSw)
    go_simp
    try with_reducible rfl
  try simp only [Act.put, List.setIfInBounds_toArray, List.set_cons_zero, List.set_cons_succ]
  refine wpAnyH_take (i := 6) (v := ?_) (show _ = some { dst := some 12, op := _, type := _, pos := _, after := _, guard := _ } from rfl) (by kernel_rfl) (by kernel_rfl) (by kernel_rfl) (fun _ _ _ h => h) (Or.inl ⟨by rfl, ?_⟩) hHeld ?_
  rotate_left
  · intro w' hSw
    (try dsimp only at hSw)
    go_simp
    try with_reducible rfl
  try simp only [Act.put, List.setIfInBounds_toArray, List.set_cons_zero, List.set_cons_succ]
  refine wpAnyH_take (i := 7) (v := ?_) (show _ = some { dst := some 13, op := _, type := _, pos := _, after := _, guard := _ } from rfl) (by kernel_rfl) (by kernel_rfl) (by kernel_rfl) (fun _ _ _ h => h) (Or.inl ⟨by rfl, ?_⟩) hHeld ?_
  rotate_left
  · intro w' hSw
    (try dsimp only at hSw)
    go_simp
    try with_reducible rfl
  try simp only [Act.put, List.setIfInBounds_toArray, List.set_cons_zero, List.set_cons_succ]
  refine wpAnyH_take (i := 9) (v := ?_) (show _ = some { dst := some 15, op := _, type := _, pos := _, after := _, guard := _ } from rfl) (by kernel_rfl) (by kernel_rfl) (by kernel_rfl) (fun _ _ _ h => h) (Or.inl ⟨by rfl, ?_⟩) hHeld ?_
  rotate_left
  · intro w' hSw
    (try dsimp only at hSw)
    go_simp
    try with_reducible rfl
  try simp only [Act.put, List.setIfInBounds_toArray, List.set_cons_zero, List.set_cons_succ]
  refine wpAnyH_take (i := 10) (v := ?_) (show _ = some { dst := some 16, op := _, type := _, pos := _, after := _, guard := _ } from rfl) (by kernel_rfl) (by kernel_rfl) (by kernel_rfl) (fun _ _ _ h => h) (Or.inl ⟨by rfl, ?_⟩) hHeld ?_
  rotate_left
  · intro w' hSw
    (try dsimp only at hSw)
    go_simp
    try with_reducible rfl
  try simp only [Act.put, List.setIfInBounds_toArray, List.set_cons_zero, List.set_cons_succ]
  refine wpAnyH_take (i := 11) (v := ?_) (show _ = some { dst := some 17, op := _, type := _, pos := _, after := _, guard := _ } from rfl) (by kernel_rfl) (by kernel_rfl) (by kernel_rfl) (fun _ _ _ h => h) (Or.inl ⟨by rfl, ?_⟩) hHeld ?_
  rotate_left
  · intro w' hSw
    (try dsimp only at hSw)
    go_simp
    try with_reducible rfl
  try simp only [Act.put, List.setIfInBounds_toArray, List.set_cons_zero, List.set_cons_succ]
  refine wpAnyH_take (i := 12) (v := ?_) (show _ = some { dst := some 18, op := _, type := _, pos := _, after := _, guard := _ } from rfl) (by kernel_rfl) (by kernel_rfl) (by kernel_rfl) (fun _ _ _ h => h) (Or.inl ⟨by rfl, ?_⟩) hHeld ?_
  rotate_left
  · intro w' hSw
    (try dsimp only at hSw)
    go_simp
    try with_reducible rfl
  try simp only [Act.put, List.setIfInBounds_toArray, List.set_cons_zero, List.set_cons_succ]
  refine wpAnyH_take (i := 13) (v := ?_) (show _ = some { dst := some 19, op := _, type := _, pos := _, after := _, guard := _ } from rfl) (by kernel_rfl) (by kernel_rfl) (by kernel_rfl) (fun _ _ _ h => h) (Or.inl ⟨by rfl, ?_⟩) hHeld ?_
  rotate_left
  · intro w' hSw
    (try dsimp only at hSw)
    go_simp
    try with_reducible rfl
  try simp only [Act.put, List.setIfInBounds_toArray, List.set_cons_zero, List.set_cons_succ]
  refine wpAnyH_take (i := 14) (v := ?_) (show _ = some { dst := some 20, op := _, type := _, pos := _, after := _, guard := _ } from rfl) (by kernel_rfl) (by kernel_rfl) (by kernel_rfl) (fun _ _ _ h => h) (Or.inl ⟨by rfl, ?_⟩) hHeld ?_
  rotate_left
  · intro w' hSw
    (try dsimp only at hSw)
    go_simp
    try with_reducible rfl
  try simp only [Act.put, List.setIfInBounds_toArray, List.set_cons_zero, List.set_cons_succ]
  refine wpAnyH_take (i := 15) (v := ?_) (show _ = some { dst := some 21, op := _, type := _, pos := _, after := _, guard := _ } from rfl) (by kernel_rfl) (by kernel_rfl) (by kernel_rfl) (fun _ _ _ h => h) (Or.inl ⟨by rfl, ?_⟩) hHeld ?_
  rotate_left
  · intro w' hSw
    (try dsimp only at hSw)
    go_simp
    try with_reducible rfl
  try simp only [Act.put, List.setIfInBounds_toArray, List.set_cons_zero, List.set_cons_succ]
  refine wpAnyH_take (i := 16) (v := ?_) (show _ = some { dst := some 22, op := _, type := _, pos := _, after := _, guard := _ } from rfl) (by kernel_rfl) (by kernel_rfl) (by kernel_rfl) (fun _ _ _ h => h) (Or.inl ⟨by rfl, ?_⟩) hHeld ?_
  rotate_left
  · intro w' hSw
    (try dsimp only at hSw)
    go_simp
    try with_reducible rfl
  try simp only [Act.put, List.setIfInBounds_toArray, List.set_cons_zero, List.set_cons_succ]
  refine wpAnyH_ready (rs := [8]) (by kernel_rfl) (by simp) ?_
  refine AllReadyH.cons (show _ = some { dst := some 14, op := _, type := _, pos := _, after := _, guard := _ } from rfl) (fun K hK => ?_) AllReadyH.nil
  go_simp
  refine (KA.out _).mono ?_
  rintro e w2 ⟨rfl, rfl⟩
  go_wp2_with fail
  refine hK.out _ _ (HS1.out) (fun hHeld => ?_)
  clear hK K
  try simp only [Act.put, List.setIfInBounds_toArray, List.set_cons_zero, List.set_cons_succ]
  refine wpAnyH_ready (rs := [17]) (by kernel_rfl) (by simp) ?_
  refine AllReadyH.cons (show _ = some { dst := some 23, op := _, type := _, pos := _, after := _, guard := _ } from rfl) (fun K hK => ?_) AllReadyH.nil
  go_simp
  refine (KB.out _).mono ?_
  rintro e w2 ⟨rfl, rfl⟩
  go_wp2_with fail
  refine hK.out _ _ (HS1.out) (fun hHeld => ?_)
  clear hK K
  try simp only [Act.put, List.setIfInBounds_toArray, List.set_cons_zero, List.set_cons_succ]
  refine wpAnyH_ready (rs := [18]) (by kernel_rfl) (by simp) ?_
  refine AllReadyH.cons (show _ = some { dst := some 24, op := _, type := _, pos := _, after := _, guard := _ } from rfl) (fun K hK => ?_) AllReadyH.nil
  go_simp
  refine hK.out _ _ (HK3.out) (fun hHeld => ?_)
  clear hK K
  try simp only [Act.put, List.setIfInBounds_toArray, List.set_cons_zero, List.set_cons_succ]
  refine wpAnyH_ready (rs := [19]) (by kernel_rfl) (by simp) ?_
  refine AllReadyH.cons (show _ = some { dst := some 25, op := _, type := _, pos := _, after := _, guard := _ } from rfl) (fun K hK => ?_) AllReadyH.nil
  go_simp
  refine (or_2 _ _ _ _ (boxZ2 w ca cb).1 (boxZ2 w ca cb).2).mono ?_
  rintro e w2 ⟨rfl, rfl⟩
  go_wp2_with fail
  refine hK.out _ _ (HK3.out) (fun hHeld => ?_)
  clear hK K
  try simp only [Act.put, List.setIfInBounds_toArray, List.set_cons_zero, List.set_cons_succ]
  refine wpAnyH_take (i := 20) (v := ?_) (show _ = some { dst := some 5, op := _, type := _, pos := _, after := _, guard := _ } from rfl) (by kernel_rfl) (by kernel_rfl) (by kernel_rfl) (fun _ _ _ h => h) (Or.inl ⟨by rfl, ?_⟩) hHeld ?_
  rotate_left
  · intro w' hSw
    (try dsimp only at hSw)
    go_simp
    try with_reducible rfl
  try simp only [Act.put, List.setIfInBounds_toArray, List.set_cons_zero, List.set_cons_succ]
  refine wpAnyH_done (by kernel_rfl) ?_ _
  clear hHeld
  by_cases hc : or2 ca cb = 0
  case neg =>
    have tc : (or2 ca cb != 0) = true := by simpa using hc
    have HC := Lib.hid hc
    clear hc
    go_wp2_with fail
    go_ret
    exact ⟨by rw [or2_ne HC.out]; rfl, HBx.out⟩
  have tc : (or2 ca cb != 0) = false := by simpa using hc
  have HC0 := Lib.hid hc
  clear hc
  go_wp2_with fail
  refine wp_region_held_drew (S := (fun _ => True)) (by kernel_rfl) trivial (fun hHeld => ?_)
  refine wpAnyH_take (i := 0) (v := ?_) (show _ = some { dst := some 29, op := _, type := _, pos := _, after := _, guard := _ } from rfl) (by kernel_rfl) (by kernel_rfl) (by kernel_rfl) (fun _ _ _ h => h) (Or.inl ⟨by rfl, ?_⟩) hHeld ?_
  rotate_left
  · intro w' hSw
    (try dsimp only at hSw)
    go_simp
    try with_reducible rfl
  try simp only [Act.put, List.setIfInBounds_toArray, List.set_cons_zero, List.set_cons_succ]
  refine wpAnyH_take (i := 1) (v := ?_) (show _ = some { dst := some 30, op := _, type := _, pos := _, after := _, guard := _ } from rfl) (by kernel_rfl) (by kernel_rfl) (by kernel_rfl) (fun _ _ _ h => h) (Or.inl ⟨by rfl, ?_⟩) hHeld ?_
  rotate_left
  · intro w' hSw
    (try dsimp only at hSw)
    go_simp
    try with_reducible rfl
  try simp only [Act.put, List.setIfInBounds_toArray, List.set_cons_zero, List.set_cons_succ]
  refine wpAnyH_take (i := 2) (v := ?_) (show _ = some { dst := some 31, op := _, type := _, pos := _, after := _, guard := _ } from rfl) (by kernel_rfl) (by kernel_rfl) (by kernel_rfl) (fun _ _ _ h => h) (Or.inl ⟨by rfl, ?_⟩) hHeld ?_
  rotate_left
  · intro w' hSw
    (try dsimp only at hSw)
    go_simp
    try with_reducible rfl
  try simp only [Act.put, List.setIfInBounds_toArray, List.set_cons_zero, List.set_cons_succ]
  refine wpAnyH_take (i := 3) (v := ?_) (show _ = some { dst := some 32, op := _, type := _, pos := _, after := _, guard := _ } from rfl) (by kernel_rfl) (by kernel_rfl) (by kernel_rfl) (fun _ _ _ h => h) (Or.inl ⟨by rfl, ?_⟩) hHeld ?_
  rotate_left
  · intro w' hSw
    (try dsimp only at hSw)
    go_simp
    try with_reducible rfl
  try simp only [Act.put, List.setIfInBounds_toArray, List.set_cons_zero, List.set_cons_succ]
  refine wpAnyH_take (i := 4) (v := ?_) (show _ = some { dst := some 33, op := _, type := _, pos := _, after := _, guard := _ } from rfl) (by kernel_rfl) (by kernel_rfl) (by kernel_rfl) (fun _ _ _ h => h) (Or.inl ⟨by rfl, ?_⟩) hHeld ?_
  rotate_left
  · intro w' hSw
    (try dsimp only at hSw)
    go_simp
    try with_reducible rfl
  try simp only [Act.put, List.setIfInBounds_toArray, List.set_cons_zero, List.set_cons_succ]
  refine wpAnyH_take (i := 5) (v := ?_) (show _ = some { dst := some 34, op := _, type := _, pos := _, after := _, guard := _ } from rfl) (by kernel_rfl) (by kernel_rfl) (by kernel_rfl) (fun _ _ _ h => h) (Or.inl ⟨by rfl, ?_⟩) hHeld ?_
  rotate_left
  · intro w' hSw
    (try dsimp only at hSw)
    go_simp
    try with_reducible rfl
  try simp only [Act.put, List.setIfInBounds_toArray, List.set_cons_zero, List.set_cons_succ]
  refine wpAnyH_ready (rs := [6]) (by kernel_rfl) (by simp) ?_
  refine AllReadyH.cons (show _ = some { dst := some 35, op := _, type := _, pos := _, after := _, guard := _ } from rfl) (fun K hK => ?_) AllReadyH.nil
  go_simp
  refine KL.out.mono ?_
  rintro e w4 ⟨rfl, hb4⟩
  have HB4 : Hid (Gw w w4) := Lib.hid (HBx.out.drew.trans hb4)
  clear hb4
  go_wp2_with fail
  refine hK.out _ _ (trivial) (fun hHeld => ?_)
  clear hK K
  try simp only [Act.put, List.setIfInBounds_toArray, List.set_cons_zero, List.set_cons_succ]
  refine wpAnyH_take (i := 7) (v := ?_) (show _ = some { dst := some 4, op := _, type := _, pos := _, after := _, guard := _ } from rfl) (by kernel_rfl) (by kernel_rfl) (by kernel_rfl) (fun _ _ _ h => h) (Or.inl ⟨by rfl, ?_⟩) hHeld ?_
  rotate_left
  · intro w' hSw
    (try dsimp only at hSw)
    go_simp
    try with_reducible rfl
  try simp only [Act.put, List.setIfInBounds_toArray, List.set_cons_zero, List.set_cons_succ]
  refine wpAnyH_done (by kernel_rfl) ?_ _
  clear hHeld
  go_wp2_with fail
  go_ret
  exact ⟨by rw [HC0.out, or2_zero]; rfl, HB4.out⟩
theorem fields_any (l l' : List (ByteArray × Int × Ty)) (h : ∀ f ∈ l, OrdT f.2.2) {K K' : Nat → Prop} {w : World} {A A' : Option Addr} {c c' : Nat} (h1 : ListF K w l A c) (h2 : ListF K' w l' A' c') :
    Calls Tryz.prog 26 #[.slice A l.length c, .slice A' l'.length c', .func (.func 27) #[] #[]] w fun e w' => e = .returned (.int .i64 (lexC (flatF l) (flatF l'))) ∧ Gw w w' := by
  obtain ⟨b, o, hr, hx⟩ := h1
  obtain ⟨b', o', hr', hx'⟩ := h2
  exact all_fields (fun f => [.s f.1, .i f.2.1] ++ flat f.2.2) cleanFd (fun x w b o => FieldAt K x w b o) (fun x w b o => FieldAt K' x w b o) (fun _ _ _ _ _ hb h => h.later hb) (fun _ _ _ _ _ hb h => h.later hb) l l' (fun x hx y => field_one x (h x hx) K K' y) A A' c c' w b o b' o' (fun h => (hr.some h).1) (fun h => (hr'.some h).1) (Nat.le_trans hr.le hr.big) (Nat.le_trans hr'.le hr'.big) (fun i hi => ⟨(hx i hi).1, (hx i hi).2.1, (hx i hi).2.2.2⟩) (fun i hi => ⟨(hx' i hi).1, (hx' i hi).2.1, (hx' i hi).2.2.2⟩)
theorem vars_any (l l' : List (ByteArray × List Ty)) (h : ∀ v ∈ l, ∀ b ∈ v.2, OrdT b) {K K' : Nat → Prop} {w : World} {A A' : Option Addr} {c c' : Nat} (h1 : ListV K w l A c) (h2 : ListV K' w l' A' c') :
    Calls Tryz.prog 28 #[.slice A l.length c, .slice A' l'.length c', .func (.func 29) #[] #[]] w fun e w' => e = .returned (.int .i64 (lexC (flatV l) (flatV l'))) ∧ Gw w w' := by
  obtain ⟨b, o, hr, hx⟩ := h1
  obtain ⟨b', o', hr', hx'⟩ := h2
  exact all_vars (fun v => .s v.1 :: flatL v.2) cleanVr (fun x w b o => VarAt K x w b o) (fun x w b o => VarAt K' x w b o) (fun _ _ _ _ _ hb h => h.later hb) (fun _ _ _ _ _ hb h => h.later hb) l l' (fun x hx y => vars_one x (h x hx) K K' y) A A' c c' w b o b' o' (fun h => (hr.some h).1) (fun h => (hr'.some h).1) (Nat.le_trans hr.le hr.big) (Nat.le_trans hr'.le hr'.big)
    (fun i hi => by obtain ⟨B, d, x0, x1, _, x3⟩ := hx i hi; exact ⟨B, d, x0, x1, x3⟩) (fun i hi => by obtain ⟨B, d, x0, x1, _, x3⟩ := hx' i hi; exact ⟨B, d, x0, x1, x3⟩)
end Go.Proofs.YtnnjbgjhhbmfgaaGreatDoor
