import Derived.Test.YtlgklkokadbpeaaDoorStG
namespace Go.Proofs.YtlgklkokadbpeaaDoor
open Go.RowKit Go.Maps Go.ChangeMaps
def putE (L : List Fi) (s t : ByteArray) : Int :=
  if nameR s = true then (if (checkR t).2 = 0 then (if (find L s).isSome = false ∧ 64 ≤ L.length then 10 else 0) else (checkR t).2) else 4
/-- Does the call write? -/
def writes (L : List Fi) (s t : ByteArray) : Bool := nameR s && (decide ((checkR t).2 = 0) && (match find L s with
  | none => decide (L.length < 64)
  | some f => !(f.t == t)))
set_option maxRecDepth 100000 in
set_option maxHeartbeats 2000000 in
theorem put_name {W : World} {B : Nat → Prop} {b : Nat} {L : List Fi} {n : Int} (h : St W B b L n) (_hT : Lib.Utf8Tabs 0 1 W) (s t : ByteArray) (hs : s.size ≤ 1000000000000000) (hnm : nameR s = false) :
    Calls Tryd.prog 24 #[.pointer (some ⟨b, 0, none⟩), .string s, .string t] W fun e w' => e = .returned (.int .i64 4) ∧ St w' B b L n ∧ Kp B W w' := by
  have KN := Lib.hid (fun W => name_prog s W hs)
  rw [hnm] at KN
  have HS := Lib.hid h
  clear h _hT
  go_enter Tryd.func24, Tryd.ntmps24
  go_wp2_with (go_at_call 22; refine (KN.out _).mono ?_; rintro e w0 ⟨rfl, rfl⟩)
  go_ret
  exact ⟨rfl, HS.out, Kp.refl _ _⟩
set_option maxRecDepth 100000 in
set_option maxHeartbeats 2000000 in
theorem put_text {W : World} {B : Nat → Prop} {b : Nat} {L : List Fi} {n : Int} (h : St W B b L n) (hT : Lib.Utf8Tabs 0 1 W) (s t : ByteArray) (hs : s.size ≤ 1000000000000000) (hnm : nameR s = true) (hc : (checkR t).2 ≠ 0) :
    Calls Tryd.prog 24 #[.pointer (some ⟨b, 0, none⟩), .string s, .string t] W fun e w' => e = .returned (.int .i64 (checkR t).2) ∧ St w' B b L n ∧ Kp B W w' := by
  have KN := Lib.hid (fun W => name_prog s W hs)
  rw [hnm] at KN
  have KC := Lib.hid (check_prog t W hT)
  have HS := Lib.hid h
  have tc : ((checkR t).2 != 0) = true := by simpa using hc
  clear h hT hc
  generalize (checkR t).2 = c2 at *
  generalize (checkR t).1 = c1 at *
  go_enter Tryd.func24, Tryd.ntmps24
  go_wp2_with (first | (go_at_call 22; refine (KN.out _).mono ?_; rintro e w0 ⟨rfl, rfl⟩) | (go_at_call 47; refine KC.out.mono ?_; rintro e w1 ⟨rfl, hb1⟩))
  go_ret
  exact ⟨rfl, HS.out.later hb1, kp_of hb1⟩
/-- What a look-up tells, and how many files there are, of the map at hand. -/
theorem look_m {W : World} {B : Nat → Prop} {b : Nat} {L : List Fi} {n : Int} (h : St W B b L n) {m : Option Nat} (hc : W.cell? ⟨b, 1, none⟩ = some (.map m)) (s : ByteArray) (hs : s.size ≤ maxLen) :
    ∀ W', Below W.heap.size W W' → (Instr.lookup 50 (.map m) (.string s) true).run Tryd.prog W' = .ok (.tuple #[((find L s).getD zeroF).val, .bool (find L s).isSome]) W' := by
  obtain ⟨m', h1, h2⟩ := look_any h s hs
  have e : m' = m := by rw [h1] at hc; injection hc with hc; injection hc
  rwa [e] at h2
theorem len_m {W : World} {B : Nat → Prop} {b : Nat} {L : List Fi} {n : Int} (h : St W B b L n) {m : Option Nat} (hc : W.cell? ⟨b, 1, none⟩ = some (.map m)) :
    ∀ W', Below W.heap.size W W' → (Builtin.len_ #[50] 3 #[.map m]).run Tryd.prog W' = .ok (.int .i64 L.length) W' := by
  obtain ⟨m', h1, h2⟩ := len_any h
  have e : m' = m := by rw [h1] at hc; injection hc with hc; injection hc
  rwa [e] at h2
set_option maxRecDepth 100000 in
set_option maxHeartbeats 2000000 in
theorem put_full {W : World} {B : Nat → Prop} {b : Nat} {L : List Fi} {n : Int} (h : St W B b L n) (hT : Lib.Utf8Tabs 0 1 W) (s t : ByteArray) (hs : s.size ≤ 1000000000000000) (hnm : nameR s = true) (hc : (checkR t).2 = 0) (hf : find L s = none) (hL : 64 ≤ L.length) :
    Calls Tryd.prog 24 #[.pointer (some ⟨b, 0, none⟩), .string s, .string t] W fun e w' => e = .returned (.int .i64 10) ∧ St w' B b L n ∧ Kp B W w' := by
  have KN := Lib.hid (fun W => name_prog s W hs)
  rw [hnm] at KN
  have KC := Lib.hid (check_prog t W hT)
  have HS := Lib.hid h
  rw [hc] at KC
  generalize (checkR t).1 = c1 at *
  have hsm : s.size ≤ maxLen := Nat.le_trans hs (by unfold maxLen; decide)
  have tl : decide ((64 : Int) ≤ (L.length : Int)) = true := by simp; omega
  have tl2 : decide (64 ≤ L.length) = true := by simp; omega
  clear h hT hc
  go_enter Tryd.func24, Tryd.ntmps24
  go_wp2_with (first | (go_at_call 22; refine (KN.out _).mono ?_; rintro e w0 ⟨rfl, rfl⟩))
  refine KC.out.mono ?_
  rintro e w1 ⟨rfl, hb1⟩
  have H1 := Lib.hid (HS.out.later hb1)
  have hbX : Below w1.heap.size w1 (w1.alloc (.cells #[.string ⟨#[]⟩, .string ⟨#[]⟩, .int .i64 0] 45)) := (Below.refl _ _).alloc (Nat.le_refl _) _
  have HX := Lib.hid (H1.out.later hbX)
  have HBX := Lib.hid ((kp_of hb1 : Kp B W w1).alloc (.cells #[.string ⟨#[]⟩, .string ⟨#[]⟩, .int .i64 0] 45))
  obtain ⟨m, hc1, -⟩ := look_any H1.out s hsm
  have hl := (look_m H1.out hc1 s hsm) w1 (Below.refl _ _)
  rw [hf] at hl
  simp only [Option.getD_none, Option.isSome_none, zeroF, Fi.val] at hl
  have hc2 := cell_later hbX hc1
  have hn := (len_m H1.out hc1) _ hbX
  clear hb1 hf hbX
  go_wp2_with fail
  go_ret
  exact ⟨rfl, HX.out, HBX.out⟩
set_option maxRecDepth 100000 in
set_option maxHeartbeats 2000000 in
theorem put_same {W : World} {B : Nat → Prop} {b : Nat} {L : List Fi} {n : Int} (h : St W B b L n) (hT : Lib.Utf8Tabs 0 1 W) (s t : ByteArray) (hs : s.size ≤ 1000000000000000) (hnm : nameR s = true) (hc : (checkR t).2 = 0) {f : Fi} (hf : find L s = some f) (ht : f.t = t) :
    Calls Tryd.prog 24 #[.pointer (some ⟨b, 0, none⟩), .string s, .string t] W fun e w' => e = .returned (.int .i64 0) ∧ St w' B b L n ∧ Kp B W w' := by
  have KN := Lib.hid (fun W => name_prog s W hs)
  rw [hnm] at KN
  have KC := Lib.hid (check_prog t W hT)
  have HS := Lib.hid h
  rw [hc] at KC
  generalize (checkR t).1 = c1 at *
  have hsm : s.size ≤ maxLen := Nat.le_trans hs (by unfold maxLen; decide)
  obtain ⟨fn, ft, fv⟩ := f
  have ht : ft = t := ht
  subst ht
  have tt : (ft == ft) = true := (MapKept.bytes_beq _ _).2 rfl
  clear h hT hc
  go_enter Tryd.func24, Tryd.ntmps24
  go_wp2_with (first | (go_at_call 22; refine (KN.out _).mono ?_; rintro e w0 ⟨rfl, rfl⟩))
  refine KC.out.mono ?_
  rintro e w1 ⟨rfl, hb1⟩
  have H1 := Lib.hid (HS.out.later hb1)
  have hbX : Below w1.heap.size w1 (w1.alloc (.cells #[.string fn, .string ft, .int .i64 fv] 45)) := (Below.refl _ _).alloc (Nat.le_refl _) _
  have HX := Lib.hid (H1.out.later hbX)
  have HBX := Lib.hid ((kp_of hb1 : Kp B W w1).alloc (.cells #[.string fn, .string ft, .int .i64 fv] 45))
  obtain ⟨m, hc1, -⟩ := look_any H1.out s hsm
  have hl := (look_m H1.out hc1 s hsm) w1 (Below.refl _ _)
  rw [hf] at hl
  simp only [Option.getD_some, Option.isSome_some, zeroF, Fi.val] at hl
  have hc2 := cell_later hbX hc1
  clear hb1 hf hbX
  go_wp2_with fail
  go_ret
  exact ⟨rfl, HX.out, HBX.out⟩
set_option maxRecDepth 100000 in
set_option maxHeartbeats 2000000 in
theorem put_new {W : World} {B : Nat → Prop} {b : Nat} {R : Nat} {L : List Fi} {n : Int} (h : Stm W B b R L n) (hT : Lib.Utf8Tabs 0 1 W) (s t : ByteArray) (hs : s.size ≤ 1000000000000000) (hnm : nameR s = true) (hc : (checkR t).2 = 0) (hf : find L s = none) (hL : L.length < 64) (hn : 0 ≤ n) (hm : n ≤ 1000000000000000) :
    Calls Tryd.prog 24 #[.pointer (some ⟨b, 0, none⟩), .string s, .string t] W fun e w' => e = .returned (.int .i64 0) ∧ St w' B b (putL L ⟨s, t, n + 1⟩) (n + 1) ∧ Kp B W w' := by
  have KN := Lib.hid (fun W => name_prog s W hs)
  rw [hnm] at KN
  have KC := Lib.hid (check_prog t W hT)
  have HS := Lib.hid h.st
  rw [hc] at KC
  generalize (checkR t).1 = c1 at *
  have hsm : s.size ≤ maxLen := Nat.le_trans hs (by unfold maxLen; decide)
  have HSm := Lib.hid h
  have tl : decide ((64 : Int) ≤ (L.length : Int)) = false := by simp; omega
  have tl2 : decide (64 ≤ L.length) = false := by simp; omega
  have hL3 : L.length ≤ 1000 := by omega
  have hme : ∀ W, (binOp .eql 50 (.map (some R)) (.map none)).run Tryd.prog W = .ok (.bool false) W := fun _ => by kernel_rfl
  clear h hT hc
  go_enter Tryd.func24, Tryd.ntmps24
  go_wp2_with (first | (go_at_call 22; refine (KN.out _).mono ?_; rintro e w0 ⟨rfl, rfl⟩))
  refine KC.out.mono ?_
  rintro e w1 ⟨rfl, hb1⟩
  have H1 := Lib.hid (HS.out.later hb1)
  have hbX : Below w1.heap.size w1 (w1.alloc (.cells #[.string ⟨#[]⟩, .string ⟨#[]⟩, .int .i64 0] 45)) := (Below.refl _ _).alloc (Nat.le_refl _) _
  have HX := Lib.hid (H1.out.later hbX)
  have HBX := Lib.hid ((kp_of hb1 : Kp B W w1).alloc (.cells #[.string ⟨#[]⟩, .string ⟨#[]⟩, .int .i64 0] 45))
  have H1m := HSm.out.later hb1
  have hc1 := H1m.c1
  have hl := (look_m H1.out hc1 s hsm) w1 (Below.refl _ _)
  rw [hf] at hl
  simp only [Option.getD_none, Option.isSome_none, zeroF, Fi.val] at hl
  have hc2 := cell_later hbX hc1
  have hln := (len_m H1.out hc1) _ hbX
  have HY := Lib.hid (Stm.later H1m hbX)
  have HBY := HBX
  clear hb1 hf hbX H1m
  go_wp2_with fail
  have HYd := Lib.hid (HY.out.later (Below.drew (Below.refl _ _)))
  have HBd := Lib.hid (Kp.drew HBY.out)
  have hy1 := HYd.out.c1
  refine wp_region_held_drew (S := (fun w' => w'.cell? ⟨b, 1, none⟩ = some (.map (some R)) ∧ True)) (by kernel_rfl) ⟨hy1, trivial⟩ (fun hHeld => ?_)
  refine wpAnyH_take (i := 0) (v := ?_) (show _ = some { dst := some 59, op := _, type := _, pos := _, after := _, guard := _ } from rfl) (by kernel_rfl) (by kernel_rfl) (by kernel_rfl) (fun _ _ _ h => h) (Or.inl ⟨by rfl, ?_⟩) hHeld ?_
  rotate_left
  · intro w' hSw
    (try dsimp only at hSw)
    go_simp
    try with_reducible rfl
  try simp only [Act.put, List.setIfInBounds_toArray, List.set_cons_zero, List.set_cons_succ]
  refine wpAnyH_take (i := 1) (v := ?_) (show _ = some { dst := some 60, op := _, type := _, pos := _, after := _, guard := _ } from rfl) (by kernel_rfl) (by kernel_rfl) (by kernel_rfl) (fun _ _ _ h => h) (Or.inl ⟨by rfl, ?_⟩) hHeld ?_
  rotate_left
  · intro w' hSw
    (try dsimp only at hSw)
    go_simp
    try with_reducible rfl
  try simp only [Act.put, List.setIfInBounds_toArray, List.set_cons_zero, List.set_cons_succ]
  refine wpAnyH_take (i := 2) (v := ?_) (show _ = some { dst := some 61, op := _, type := _, pos := _, after := _, guard := _ } from rfl) (by kernel_rfl) (by kernel_rfl) (by kernel_rfl) (fun _ _ _ h => h) (Or.inl ⟨by rfl, ?_⟩) hHeld ?_
  rotate_left
  · intro w' hSw
    (try dsimp only at hSw)
    go_simp
    try with_reducible rfl
  try simp only [Act.put, List.setIfInBounds_toArray, List.set_cons_zero, List.set_cons_succ]
  refine wpAnyH_take (i := 3) (v := ?_) (show _ = some { dst := some 62, op := _, type := _, pos := _, after := _, guard := _ } from rfl) (by kernel_rfl) (by kernel_rfl) (by kernel_rfl) (fun _ _ _ h => h) (Or.inl ⟨by rfl, ?_⟩) hHeld ?_
  rotate_left
  · intro w' hSw
    (try dsimp only at hSw)
    go_simp
    try with_reducible rfl
  try simp only [Act.put, List.setIfInBounds_toArray, List.set_cons_zero, List.set_cons_succ]
  refine wpAnyH_take (i := 4) (v := ?_) (show _ = some { dst := some 63, op := _, type := _, pos := _, after := _, guard := _ } from rfl) (by kernel_rfl) (by kernel_rfl) (by kernel_rfl) (fun _ _ _ h => h) (Or.inl ⟨by rfl, ?_⟩) hHeld ?_
  rotate_left
  · intro w' hSw
    (try dsimp only at hSw)
    go_simp
    try with_reducible rfl
  try simp only [Act.put, List.setIfInBounds_toArray, List.set_cons_zero, List.set_cons_succ]
  refine wpAnyH_take (i := 5) (v := ?_) (show _ = some { dst := some 64, op := _, type := _, pos := _, after := _, guard := _ } from rfl) (by kernel_rfl) (by kernel_rfl) (by kernel_rfl) (fun _ _ _ h => h) (Or.inl ⟨by rfl, ?_⟩) hHeld ?_
  rotate_left
  · intro w' hSw
    (try dsimp only at hSw)
    go_simp
    try with_reducible rfl
  try simp only [Act.put, List.setIfInBounds_toArray, List.set_cons_zero, List.set_cons_succ]
  refine wpAnyH_take (i := 6) (v := ?_) (show _ = some { dst := some 65, op := _, type := _, pos := _, after := _, guard := _ } from rfl) (by kernel_rfl) (by kernel_rfl) (by kernel_rfl) (fun _ _ _ h => h) (Or.inl ⟨by rfl, ?_⟩) hHeld ?_
  rotate_left
  · intro w' hSw
    (try dsimp only at hSw)
    go_simp
    try with_reducible rfl
  try simp only [Act.put, List.setIfInBounds_toArray, List.set_cons_zero, List.set_cons_succ]
  refine wpAnyH_take (i := 7) (v := ?_) (show _ = some { dst := some 66, op := _, type := _, pos := _, after := _, guard := _ } from rfl) (by kernel_rfl) (by kernel_rfl) (by kernel_rfl) (fun _ _ _ h => h) (Or.inl ⟨by rfl, ?_⟩) hHeld ?_
  rotate_left
  · intro w' hSw
    (try dsimp only at hSw)
    go_simp
    try with_reducible rfl
  try simp only [Act.put, List.setIfInBounds_toArray, List.set_cons_zero, List.set_cons_succ]
  refine wpAnyH_take (i := 8) (v := ?_) (show _ = some { dst := some 67, op := _, type := _, pos := _, after := _, guard := _ } from rfl) (by kernel_rfl) (by kernel_rfl) (by kernel_rfl) (fun _ _ _ h => h) (Or.inl ⟨by rfl, ?_⟩) hHeld ?_
  rotate_left
  · intro w' hSw
    (try dsimp only at hSw)
    go_simp
    try with_reducible rfl
  try simp only [Act.put, List.setIfInBounds_toArray, List.set_cons_zero, List.set_cons_succ]
  refine wpAnyH_take (i := 9) (v := ?_) (show _ = some { dst := some 68, op := _, type := _, pos := _, after := _, guard := _ } from rfl) (by kernel_rfl) (by kernel_rfl) (by kernel_rfl) (fun _ _ _ h => h) (Or.inl ⟨by rfl, ?_⟩) hHeld ?_
  rotate_left
  · intro w' hSw
    (try dsimp only at hSw)
    go_simp
    try with_reducible rfl
  try simp only [Act.put, List.setIfInBounds_toArray, List.set_cons_zero, List.set_cons_succ]
  refine wpAnyH_ready (rs := [10]) (by kernel_rfl) (by simp) ?_
  refine AllReadyH.cons (show _ = some { dst := some 69, op := _, type := _, pos := _, after := _, guard := _ } from rfl) (fun K hK => ?_) AllReadyH.nil
  go_simp
  refine (Stm.count HYd.out hn hm).mono ?_
  rintro e w5 ⟨rfl, h5, hb5⟩
  obtain ⟨w6, hmu, h6, hb6⟩ := h5.put hL3 s t (n + 1) hsm
  have H5c := Lib.hid h5.c1
  have H6 := Lib.hid h6
  have HB56 := Lib.hid (hb5.trans hb6)
  clear h5 h6 hb5 hb6
  go_wp2_with fail
  refine hK.out _ _ (⟨H5c.out, trivial⟩) (fun hHeld => ?_)
  clear hK K
  try simp only [Act.put, List.setIfInBounds_toArray, List.set_cons_zero, List.set_cons_succ]
  refine wpAnyH_take (i := 11) (v := ?_) (show _ = some { dst := some 70, op := _, type := _, pos := _, after := _, guard := _ } from rfl) (by kernel_rfl) (by kernel_rfl) (by kernel_rfl) (fun _ _ _ h => h) (Or.inl ⟨by rfl, ?_⟩) hHeld ?_
  rotate_left
  · intro w' hSw
    (try dsimp only at hSw)
    go_simp
    try with_reducible rfl
  try simp only [Act.put, List.setIfInBounds_toArray, List.set_cons_zero, List.set_cons_succ]
  refine wpAnyH_ready (rs := [12]) (by kernel_rfl) (by simp) ?_
  refine AllReadyH.cons (show _ = some { dst := none, op := _, type := _, pos := _, after := _, guard := _ } from rfl) (fun K hK => ?_) AllReadyH.nil
  go_simp
  refine hK.out _ _ (⟨H6.out.c1, trivial⟩) (fun hHeld => ?_)
  clear hK K
  try simp only [Act.put, List.setIfInBounds_toArray, List.set_cons_zero, List.set_cons_succ]
  refine wpAnyH_done (by kernel_rfl) ?_ _
  clear hHeld
  go_wp2_with fail
  go_ret
  exact ⟨rfl, H6.out.st, HBd.out.trans HB56.out⟩
set_option maxRecDepth 100000 in
set_option maxHeartbeats 2000000 in
theorem put_text2 {W : World} {B : Nat → Prop} {b : Nat} {R : Nat} {L : List Fi} {n : Int} (h : Stm W B b R L n) (hT : Lib.Utf8Tabs 0 1 W) (s t : ByteArray) (hs : s.size ≤ 1000000000000000) (hnm : nameR s = true) (hc : (checkR t).2 = 0) {f : Fi} (hf : find L s = some f) (ht : f.t ≠ t) (hL3 : L.length ≤ 1000) (hn : 0 ≤ n) (hm : n ≤ 1000000000000000) :
    Calls Tryd.prog 24 #[.pointer (some ⟨b, 0, none⟩), .string s, .string t] W fun e w' => e = .returned (.int .i64 0) ∧ St w' B b (putL L ⟨s, t, n + 1⟩) (n + 1) ∧ Kp B W w' := by
  have KN := Lib.hid (fun W => name_prog s W hs)
  rw [hnm] at KN
  have KC := Lib.hid (check_prog t W hT)
  have HS := Lib.hid h.st
  rw [hc] at KC
  generalize (checkR t).1 = c1 at *
  have hsm : s.size ≤ maxLen := Nat.le_trans hs (by unfold maxLen; decide)
  have HSm := Lib.hid h
  obtain ⟨fn, ft, fv⟩ := f
  have ht : ft ≠ t := ht
  have tt : (ft == t) = false := Bool.eq_false_iff.2 (fun e => ht ((MapKept.bytes_beq _ _).1 e))
  have td : (ft.toList == t.toList) = false := beq_eq_false_iff_ne.2 (fun e => ht (toList_inj (by rw [← ByteArray.toList_eq, ← ByteArray.toList_eq]; exact e)))
  have hme : ∀ W, (binOp .eql 50 (.map (some R)) (.map none)).run Tryd.prog W = .ok (.bool false) W := fun _ => by kernel_rfl
  clear h hT hc
  go_enter Tryd.func24, Tryd.ntmps24
  go_wp2_with (first | (go_at_call 22; refine (KN.out _).mono ?_; rintro e w0 ⟨rfl, rfl⟩))
  refine KC.out.mono ?_
  rintro e w1 ⟨rfl, hb1⟩
  have H1 := Lib.hid (HS.out.later hb1)
  have hbX : Below w1.heap.size w1 (w1.alloc (.cells #[.string fn, .string ft, .int .i64 fv] 45)) := (Below.refl _ _).alloc (Nat.le_refl _) _
  have HX := Lib.hid (H1.out.later hbX)
  have HBX := Lib.hid ((kp_of hb1 : Kp B W w1).alloc (.cells #[.string fn, .string ft, .int .i64 fv] 45))
  have H1m := HSm.out.later hb1
  have hc1 := H1m.c1
  have hl := (look_m H1.out hc1 s hsm) w1 (Below.refl _ _)
  rw [hf] at hl
  simp only [Option.getD_some, Option.isSome_some, zeroF, Fi.val] at hl
  have hc2 := cell_later hbX hc1
  have HY := Lib.hid (Stm.later H1m hbX)
  have HBY := HBX
  clear hb1 hf hbX H1m
  go_wp2_with fail
  have HYd := Lib.hid (HY.out.later (Below.drew (Below.refl _ _)))
  have HBd := Lib.hid (Kp.drew HBY.out)
  have hy1 := HYd.out.c1
  refine wp_region_held_drew (S := (fun w' => w'.cell? ⟨b, 1, none⟩ = some (.map (some R)) ∧ True)) (by kernel_rfl) ⟨hy1, trivial⟩ (fun hHeld => ?_)
  refine wpAnyH_take (i := 0) (v := ?_) (show _ = some { dst := some 59, op := _, type := _, pos := _, after := _, guard := _ } from rfl) (by kernel_rfl) (by kernel_rfl) (by kernel_rfl) (fun _ _ _ h => h) (Or.inl ⟨by rfl, ?_⟩) hHeld ?_
  rotate_left
  · intro w' hSw
    (try dsimp only at hSw)
    go_simp
    try with_reducible rfl
  try simp only [Act.put, List.setIfInBounds_toArray, List.set_cons_zero, List.set_cons_succ]
  refine wpAnyH_take (i := 1) (v := ?_) (show _ = some { dst := some 60, op := _, type := _, pos := _, after := _, guard := _ } from rfl) (by kernel_rfl) (by kernel_rfl) (by kernel_rfl) (fun _ _ _ h => h) (Or.inl ⟨by rfl, ?_⟩) hHeld ?_
  rotate_left
  · intro w' hSw
    (try dsimp only at hSw)
    go_simp
    try with_reducible rfl
  try simp only [Act.put, List.setIfInBounds_toArray, List.set_cons_zero, List.set_cons_succ]
  refine wpAnyH_take (i := 2) (v := ?_) (show _ = some { dst := some 61, op := _, type := _, pos := _, after := _, guard := _ } from rfl) (by kernel_rfl) (by kernel_rfl) (by kernel_rfl) (fun _ _ _ h => h) (Or.inl ⟨by rfl, ?_⟩) hHeld ?_
  rotate_left
  · intro w' hSw
    (try dsimp only at hSw)
    go_simp
    try with_reducible rfl
  try simp only [Act.put, List.setIfInBounds_toArray, List.set_cons_zero, List.set_cons_succ]
  refine wpAnyH_take (i := 3) (v := ?_) (show _ = some { dst := some 62, op := _, type := _, pos := _, after := _, guard := _ } from rfl) (by kernel_rfl) (by kernel_rfl) (by kernel_rfl) (fun _ _ _ h => h) (Or.inl ⟨by rfl, ?_⟩) hHeld ?_
  rotate_left
  · intro w' hSw
    (try dsimp only at hSw)
    go_simp
    try with_reducible rfl
  try simp only [Act.put, List.setIfInBounds_toArray, List.set_cons_zero, List.set_cons_succ]
  refine wpAnyH_take (i := 4) (v := ?_) (show _ = some { dst := some 63, op := _, type := _, pos := _, after := _, guard := _ } from rfl) (by kernel_rfl) (by kernel_rfl) (by kernel_rfl) (fun _ _ _ h => h) (Or.inl ⟨by rfl, ?_⟩) hHeld ?_
  rotate_left
  · intro w' hSw
    (try dsimp only at hSw)
    go_simp
    try with_reducible rfl
  try simp only [Act.put, List.setIfInBounds_toArray, List.set_cons_zero, List.set_cons_succ]
  refine wpAnyH_take (i := 5) (v := ?_) (show _ = some { dst := some 64, op := _, type := _, pos := _, after := _, guard := _ } from rfl) (by kernel_rfl) (by kernel_rfl) (by kernel_rfl) (fun _ _ _ h => h) (Or.inl ⟨by rfl, ?_⟩) hHeld ?_
  rotate_left
  · intro w' hSw
    (try dsimp only at hSw)
    go_simp
    try with_reducible rfl
  try simp only [Act.put, List.setIfInBounds_toArray, List.set_cons_zero, List.set_cons_succ]
  refine wpAnyH_take (i := 6) (v := ?_) (show _ = some { dst := some 65, op := _, type := _, pos := _, after := _, guard := _ } from rfl) (by kernel_rfl) (by kernel_rfl) (by kernel_rfl) (fun _ _ _ h => h) (Or.inl ⟨by rfl, ?_⟩) hHeld ?_
  rotate_left
  · intro w' hSw
    (try dsimp only at hSw)
    go_simp
    try with_reducible rfl
  try simp only [Act.put, List.setIfInBounds_toArray, List.set_cons_zero, List.set_cons_succ]
  refine wpAnyH_take (i := 7) (v := ?_) (show _ = some { dst := some 66, op := _, type := _, pos := _, after := _, guard := _ } from rfl) (by kernel_rfl) (by kernel_rfl) (by kernel_rfl) (fun _ _ _ h => h) (Or.inl ⟨by rfl, ?_⟩) hHeld ?_
  rotate_left
  · intro w' hSw
    (try dsimp only at hSw)
    go_simp
    try with_reducible rfl
  try simp only [Act.put, List.setIfInBounds_toArray, List.set_cons_zero, List.set_cons_succ]
  refine wpAnyH_take (i := 8) (v := ?_) (show _ = some { dst := some 67, op := _, type := _, pos := _, after := _, guard := _ } from rfl) (by kernel_rfl) (by kernel_rfl) (by kernel_rfl) (fun _ _ _ h => h) (Or.inl ⟨by rfl, ?_⟩) hHeld ?_
  rotate_left
  · intro w' hSw
    (try dsimp only at hSw)
    go_simp
    try with_reducible rfl
  try simp only [Act.put, List.setIfInBounds_toArray, List.set_cons_zero, List.set_cons_succ]
  refine wpAnyH_take (i := 9) (v := ?_) (show _ = some { dst := some 68, op := _, type := _, pos := _, after := _, guard := _ } from rfl) (by kernel_rfl) (by kernel_rfl) (by kernel_rfl) (fun _ _ _ h => h) (Or.inl ⟨by rfl, ?_⟩) hHeld ?_
  rotate_left
  · intro w' hSw
    (try dsimp only at hSw)
    go_simp
    try with_reducible rfl
  try simp only [Act.put, List.setIfInBounds_toArray, List.set_cons_zero, List.set_cons_succ]
  refine wpAnyH_ready (rs := [10]) (by kernel_rfl) (by simp) ?_
  refine AllReadyH.cons (show _ = some { dst := some 69, op := _, type := _, pos := _, after := _, guard := _ } from rfl) (fun K hK => ?_) AllReadyH.nil
  go_simp
  refine (Stm.count HYd.out hn hm).mono ?_
  rintro e w5 ⟨rfl, h5, hb5⟩
  obtain ⟨w6, hmu, h6, hb6⟩ := h5.put hL3 s t (n + 1) hsm
  have H5c := Lib.hid h5.c1
  have H6 := Lib.hid h6
  have HB56 := Lib.hid (hb5.trans hb6)
  clear h5 h6 hb5 hb6
  go_wp2_with fail
  refine hK.out _ _ (⟨H5c.out, trivial⟩) (fun hHeld => ?_)
  clear hK K
  try simp only [Act.put, List.setIfInBounds_toArray, List.set_cons_zero, List.set_cons_succ]
  refine wpAnyH_take (i := 11) (v := ?_) (show _ = some { dst := some 70, op := _, type := _, pos := _, after := _, guard := _ } from rfl) (by kernel_rfl) (by kernel_rfl) (by kernel_rfl) (fun _ _ _ h => h) (Or.inl ⟨by rfl, ?_⟩) hHeld ?_
  rotate_left
  · intro w' hSw
    (try dsimp only at hSw)
    go_simp
    try with_reducible rfl
  try simp only [Act.put, List.setIfInBounds_toArray, List.set_cons_zero, List.set_cons_succ]
  refine wpAnyH_ready (rs := [12]) (by kernel_rfl) (by simp) ?_
  refine AllReadyH.cons (show _ = some { dst := none, op := _, type := _, pos := _, after := _, guard := _ } from rfl) (fun K hK => ?_) AllReadyH.nil
  go_simp
  refine hK.out _ _ (⟨H6.out.c1, trivial⟩) (fun hHeld => ?_)
  clear hK K
  try simp only [Act.put, List.setIfInBounds_toArray, List.set_cons_zero, List.set_cons_succ]
  refine wpAnyH_done (by kernel_rfl) ?_ _
  clear hHeld
  go_wp2_with fail
  go_ret
  exact ⟨rfl, H6.out.st, HBd.out.trans HB56.out⟩
theorem made_any {w : World} {B : Nat → Prop} {b : Nat} {n : Int} (h : St w B b [] n) (h1 : w.cell? ⟨b, 1, none⟩ = some (.map none)) (hB : ∀ k, B k → k < w.heap.size) : Stm (madeW w b) B b (w.heap.size + 1) [] n ∧ Kp B w (madeW w b) := by
  have hb1 : Below w.heap.size w (w.alloc fileO) := (Below.refl _ _).alloc (Nat.le_refl _) _
  have hb2 : Below w.heap.size w ((w.alloc fileO).alloc (.map #[] 0)) := hb1.alloc (by simp) _
  have hl := h.lt
  have h2 := h.later hb2
  have e : (w.alloc fileO).heap.size = w.heap.size + 1 := by simp
  have ho := World.ownsMap_made (H := Unit) (w.alloc fileO) Tryd.prog 9 fileR
  rw [e] at ho
  have hne : w.heap.size + 1 ≠ b := by omega
  refine ⟨⟨(World.cell?_setCell_other _ _ _ _ (by simp)).trans h2.c0, World.cell?_setCell_same _ _ _ (cell_later hb2 h1), ho.setCell hne _, fun k => by unfold madeW; rw [World.frozen?_setCell]; exact h2.fz k, h.ge, fun e => by have := hB _ e; omega, hne⟩, ?_⟩
  exact (((Kp.refl B w).alloc _).alloc _).setCell h.ge _
set_option maxRecDepth 100000 in
set_option maxHeartbeats 2000000 in
theorem put_first {W : World} {B : Nat → Prop} {b : Nat} {n : Int} (h : St W B b [] n) (hT : Lib.Utf8Tabs 0 1 W) (s t : ByteArray) (hs : s.size ≤ 1000000000000000) (hB : ∀ k, B k → k < W.heap.size) (h1 : W.cell? ⟨b, 1, none⟩ = some (.map none)) (hnm : nameR s = true) (hc : (checkR t).2 = 0) (hn : 0 ≤ n) (hm : n ≤ 1000000000000000) :
    Calls Tryd.prog 24 #[.pointer (some ⟨b, 0, none⟩), .string s, .string t] W fun e w' => e = .returned (.int .i64 0) ∧ St w' B b (putL [] ⟨s, t, n + 1⟩) (n + 1) ∧ Kp B W w' := by
  have KN := Lib.hid (fun W => name_prog s W hs)
  rw [hnm] at KN
  have KC := Lib.hid (check_prog t W hT)
  have HS := Lib.hid h
  rw [hc] at KC
  generalize (checkR t).1 = c1 at *
  have hsm : s.size ≤ maxLen := Nat.le_trans hs (by unfold maxLen; decide)
  have hL3 : ([] : List Fi).length ≤ 1000 := by decide
  have hme : ∀ W, (binOp .eql 50 (.map none) (.map none)).run Tryd.prog W = .ok (.bool true) W := fun _ => by kernel_rfl
  have hmm := @run_makeMap Tryd.prog
  have hf : find [] s = none := rfl
  have hbl := h.lt
  clear h hT hc
  go_enter Tryd.func24, Tryd.ntmps24
  go_wp2_with (first | (go_at_call 22; refine (KN.out _).mono ?_; rintro e w0 ⟨rfl, rfl⟩))
  refine KC.out.mono ?_
  rintro e w1 ⟨rfl, hb1⟩
  have H1 := Lib.hid (HS.out.later hb1)
  have hbX : Below w1.heap.size w1 (w1.alloc (.cells #[.string ⟨#[]⟩, .string ⟨#[]⟩, .int .i64 0] 45)) := (Below.refl _ _).alloc (Nat.le_refl _) _
  have HX := Lib.hid (H1.out.later hbX)
  have HBX := Lib.hid ((kp_of hb1 : Kp B W w1).alloc (.cells #[.string ⟨#[]⟩, .string ⟨#[]⟩, .int .i64 0] 45))
  have hc1 := cell_later hb1 h1
  have hl := (look_m H1.out hc1 s hsm) w1 (Below.refl _ _)
  rw [hf] at hl
  simp only [Option.getD_none, Option.isSome_none, zeroF, Fi.val] at hl
  have hc2 := cell_later hbX hc1
  have hln := (len_m H1.out hc1) _ hbX
  have F0 := obj_keep w1 b (.cells #[.string ⟨#[]⟩, .string ⟨#[]⟩, .int .i64 0] 45) H1.out.c0 hc1 H1.out.fz
  have G0 := obj_keep _ b (.map #[] 0) F0.1 F0.2.1 F0.2.2
  obtain ⟨-, d1, df⟩ := G0
  have hdf := df 1
  have MM := Lib.hid (made_any H1.out hc1 (fun k hk => Nat.lt_of_lt_of_le (hB k hk) hb1.size))
  have HBm := Lib.hid ((kp_of hb1 : Kp B W w1).trans MM.out.2)
  clear hb1 hf hbX h1 F0 df
  go_wp2_with fail
  change Code.wp _ _ _ _ (madeW w1 b)
  have HY := Lib.hid MM.out.1
  have HBY := HBm
  clear MM d1 hdf hc1 hc2 hl hln hmm HX HBX HBm
  generalize madeW w1 b = X at *
  generalize w1.heap.size + 1 = R at *
  have HYd := Lib.hid (HY.out.later (Below.drew (Below.refl _ _)))
  have HBd := Lib.hid (Kp.drew HBY.out)
  have hy1 := HYd.out.c1
  refine wp_region_held_drew (S := (fun w' => w'.cell? ⟨b, 1, none⟩ = some (.map (some R)) ∧ True)) (by kernel_rfl) ⟨hy1, trivial⟩ (fun hHeld => ?_)
  refine wpAnyH_take (i := 0) (v := ?_) (show _ = some { dst := some 59, op := _, type := _, pos := _, after := _, guard := _ } from rfl) (by kernel_rfl) (by kernel_rfl) (by kernel_rfl) (fun _ _ _ h => h) (Or.inl ⟨by rfl, ?_⟩) hHeld ?_
  rotate_left
  · intro w' hSw
    (try dsimp only at hSw)
    go_simp
    try with_reducible rfl
  try simp only [Act.put, List.setIfInBounds_toArray, List.set_cons_zero, List.set_cons_succ]
  refine wpAnyH_take (i := 1) (v := ?_) (show _ = some { dst := some 60, op := _, type := _, pos := _, after := _, guard := _ } from rfl) (by kernel_rfl) (by kernel_rfl) (by kernel_rfl) (fun _ _ _ h => h) (Or.inl ⟨by rfl, ?_⟩) hHeld ?_
  rotate_left
  · intro w' hSw
    (try dsimp only at hSw)
    go_simp
    try with_reducible rfl
  try simp only [Act.put, List.setIfInBounds_toArray, List.set_cons_zero, List.set_cons_succ]
  refine wpAnyH_take (i := 2) (v := ?_) (show _ = some { dst := some 61, op := _, type := _, pos := _, after := _, guard := _ } from rfl) (by kernel_rfl) (by kernel_rfl) (by kernel_rfl) (fun _ _ _ h => h) (Or.inl ⟨by rfl, ?_⟩) hHeld ?_
  rotate_left
  · intro w' hSw
    (try dsimp only at hSw)
    go_simp
    try with_reducible rfl
  try simp only [Act.put, List.setIfInBounds_toArray, List.set_cons_zero, List.set_cons_succ]
  refine wpAnyH_take (i := 3) (v := ?_) (show _ = some { dst := some 62, op := _, type := _, pos := _, after := _, guard := _ } from rfl) (by kernel_rfl) (by kernel_rfl) (by kernel_rfl) (fun _ _ _ h => h) (Or.inl ⟨by rfl, ?_⟩) hHeld ?_
  rotate_left
  · intro w' hSw
    (try dsimp only at hSw)
    go_simp
    try with_reducible rfl
  try simp only [Act.put, List.setIfInBounds_toArray, List.set_cons_zero, List.set_cons_succ]
  refine wpAnyH_take (i := 4) (v := ?_) (show _ = some { dst := some 63, op := _, type := _, pos := _, after := _, guard := _ } from rfl) (by kernel_rfl) (by kernel_rfl) (by kernel_rfl) (fun _ _ _ h => h) (Or.inl ⟨by rfl, ?_⟩) hHeld ?_
  rotate_left
  · intro w' hSw
    (try dsimp only at hSw)
    go_simp
    try with_reducible rfl
  try simp only [Act.put, List.setIfInBounds_toArray, List.set_cons_zero, List.set_cons_succ]
  refine wpAnyH_take (i := 5) (v := ?_) (show _ = some { dst := some 64, op := _, type := _, pos := _, after := _, guard := _ } from rfl) (by kernel_rfl) (by kernel_rfl) (by kernel_rfl) (fun _ _ _ h => h) (Or.inl ⟨by rfl, ?_⟩) hHeld ?_
  rotate_left
  · intro w' hSw
    (try dsimp only at hSw)
    go_simp
    try with_reducible rfl
  try simp only [Act.put, List.setIfInBounds_toArray, List.set_cons_zero, List.set_cons_succ]
  refine wpAnyH_take (i := 6) (v := ?_) (show _ = some { dst := some 65, op := _, type := _, pos := _, after := _, guard := _ } from rfl) (by kernel_rfl) (by kernel_rfl) (by kernel_rfl) (fun _ _ _ h => h) (Or.inl ⟨by rfl, ?_⟩) hHeld ?_
  rotate_left
  · intro w' hSw
    (try dsimp only at hSw)
    go_simp
    try with_reducible rfl
  try simp only [Act.put, List.setIfInBounds_toArray, List.set_cons_zero, List.set_cons_succ]
  refine wpAnyH_take (i := 7) (v := ?_) (show _ = some { dst := some 66, op := _, type := _, pos := _, after := _, guard := _ } from rfl) (by kernel_rfl) (by kernel_rfl) (by kernel_rfl) (fun _ _ _ h => h) (Or.inl ⟨by rfl, ?_⟩) hHeld ?_
  rotate_left
  · intro w' hSw
    (try dsimp only at hSw)
    go_simp
    try with_reducible rfl
  try simp only [Act.put, List.setIfInBounds_toArray, List.set_cons_zero, List.set_cons_succ]
  refine wpAnyH_take (i := 8) (v := ?_) (show _ = some { dst := some 67, op := _, type := _, pos := _, after := _, guard := _ } from rfl) (by kernel_rfl) (by kernel_rfl) (by kernel_rfl) (fun _ _ _ h => h) (Or.inl ⟨by rfl, ?_⟩) hHeld ?_
  rotate_left
  · intro w' hSw
    (try dsimp only at hSw)
    go_simp
    try with_reducible rfl
  try simp only [Act.put, List.setIfInBounds_toArray, List.set_cons_zero, List.set_cons_succ]
  refine wpAnyH_take (i := 9) (v := ?_) (show _ = some { dst := some 68, op := _, type := _, pos := _, after := _, guard := _ } from rfl) (by kernel_rfl) (by kernel_rfl) (by kernel_rfl) (fun _ _ _ h => h) (Or.inl ⟨by rfl, ?_⟩) hHeld ?_
  rotate_left
  · intro w' hSw
    (try dsimp only at hSw)
    go_simp
    try with_reducible rfl
  try simp only [Act.put, List.setIfInBounds_toArray, List.set_cons_zero, List.set_cons_succ]
  refine wpAnyH_ready (rs := [10]) (by kernel_rfl) (by simp) ?_
  refine AllReadyH.cons (show _ = some { dst := some 69, op := _, type := _, pos := _, after := _, guard := _ } from rfl) (fun K hK => ?_) AllReadyH.nil
  go_simp
  refine (Stm.count HYd.out hn hm).mono ?_
  rintro e w5 ⟨rfl, h5, hb5⟩
  obtain ⟨w6, hmu, h6, hb6⟩ := h5.put hL3 s t (n + 1) hsm
  have H5c := Lib.hid h5.c1
  have H6 := Lib.hid h6
  have HB56 := Lib.hid (hb5.trans hb6)
  clear h5 h6 hb5 hb6
  go_wp2_with fail
  refine hK.out _ _ (⟨H5c.out, trivial⟩) (fun hHeld => ?_)
  clear hK K
  try simp only [Act.put, List.setIfInBounds_toArray, List.set_cons_zero, List.set_cons_succ]
  refine wpAnyH_take (i := 11) (v := ?_) (show _ = some { dst := some 70, op := _, type := _, pos := _, after := _, guard := _ } from rfl) (by kernel_rfl) (by kernel_rfl) (by kernel_rfl) (fun _ _ _ h => h) (Or.inl ⟨by rfl, ?_⟩) hHeld ?_
  rotate_left
  · intro w' hSw
    (try dsimp only at hSw)
    go_simp
    try with_reducible rfl
  try simp only [Act.put, List.setIfInBounds_toArray, List.set_cons_zero, List.set_cons_succ]
  refine wpAnyH_ready (rs := [12]) (by kernel_rfl) (by simp) ?_
  refine AllReadyH.cons (show _ = some { dst := none, op := _, type := _, pos := _, after := _, guard := _ } from rfl) (fun K hK => ?_) AllReadyH.nil
  go_simp
  refine hK.out _ _ (⟨H6.out.c1, trivial⟩) (fun hHeld => ?_)
  clear hK K
  try simp only [Act.put, List.setIfInBounds_toArray, List.set_cons_zero, List.set_cons_succ]
  refine wpAnyH_done (by kernel_rfl) ?_ _
  clear hHeld
  go_wp2_with fail
  go_ret
  exact ⟨rfl, H6.out.st, HBd.out.trans HB56.out⟩
end Go.Proofs.YtlgklkokadbpeaaDoor
