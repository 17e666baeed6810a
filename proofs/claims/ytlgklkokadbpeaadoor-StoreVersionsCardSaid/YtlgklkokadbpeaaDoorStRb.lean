import Derived.Test.YtlgklkokadbpeaaDoorStRa
namespace Go.Proofs.YtlgklkokadbpeaaDoor
open Go.RowKit Go.Maps Go.ChangeMaps Go.Sort
set_option maxRecDepth 100000 in
set_option maxHeartbeats 4000000 in
theorem rput_name {W : World} {B b : Nat} {A : Option Addr} {c : Nat} {L : List Fi} {n : Int} (_h : RSt W B b A c L n) (s t : ByteArray) (hs : s.size ≤ 1000000000000000) (hnm : nameR s = false) :
    Calls Tryd.prog 25 #[.pointer (some ⟨b, 0, none⟩), .string s, .string t] W fun e w' => e = .returned (.int .i64 4) ∧ W = w' := by
  have KN := Lib.hid (fun W => name_ref s W hs)
  rw [hnm] at KN
  clear _h
  go_enter Tryd.func25, Tryd.ntmps25
  go_wp2_with (go_at_call 23; refine (KN.out _).mono ?_; rintro e w0 ⟨rfl, rfl⟩)
  go_ret
  exact ⟨rfl, rfl⟩
set_option maxRecDepth 100000 in
set_option maxHeartbeats 4000000 in
theorem rput_text {W : World} {B b : Nat} {A : Option Addr} {c : Nat} {L : List Fi} {n : Int} (_h : RSt W B b A c L n) (s t : ByteArray) (hs : s.size ≤ 1000000000000000) (hnm : nameR s = true) (hc : (checkR t).2 ≠ 0) :
    Calls Tryd.prog 25 #[.pointer (some ⟨b, 0, none⟩), .string s, .string t] W fun e w' => e = .returned (.int .i64 (checkR t).2) ∧ W = w' := by
  have KN := Lib.hid (fun W => name_ref s W hs)
  rw [hnm] at KN
  have KC := Lib.hid (fun W => check_ref t W)
  have tc : ((checkR t).2 != 0) = true := by simpa using hc
  clear _h hc
  generalize (checkR t).2 = c2 at *
  generalize (checkR t).1 = c1 at *
  go_enter Tryd.func25, Tryd.ntmps25
  go_wp2_with (first | (go_at_call 23; refine (KN.out _).mono ?_; rintro e w0 ⟨rfl, rfl⟩) | (go_at_call 49; refine (KC.out _).mono ?_; rintro e w0 ⟨rfl, rfl⟩))
  go_ret
  exact ⟨rfl, rfl⟩
set_option maxRecDepth 100000 in
set_option maxHeartbeats 4000000 in
theorem rput_full {W : World} {B b : Nat} {A : Option Addr} {c : Nat} {L : List Fi} {n : Int} (h : RSt W B b A c L n) (s t : ByteArray) (hs : s.size ≤ 1000000000000000) (hnm : nameR s = true) (hc : (checkR t).2 = 0) {j : Nat} (hf : fp L s 0 = (j, false)) (hL : L.length ≤ 1000) (hl : 64 ≤ L.length) :
    Calls Tryd.prog 25 #[.pointer (some ⟨b, 0, none⟩), .string s, .string t] W fun e w' => e = .returned (.int .i64 10) ∧ W = w' := by
  have KN := Lib.hid (fun W => name_ref s W hs)
  rw [hnm] at KN
  have KC := Lib.hid (fun W => check_ref t W)
  rw [hc] at KC
  generalize (checkR t).1 = cc1 at *
  have KF := Lib.hid (rfind_any h hL s)
  rw [hf] at KF
  have c0 := h.c0
  have tl : decide ((64 : Int) ≤ (L.length : Int)) = true := by simp; omega
  have tl2 : decide (64 ≤ L.length) = true := by simp; omega
  clear h hc
  go_enter Tryd.func25, Tryd.ntmps25
  go_wp2_with (first | (go_at_call 23; refine (KN.out _).mono ?_; rintro e w0 ⟨rfl, rfl⟩) | (go_at_call 49; refine (KC.out _).mono ?_; rintro e w0 ⟨rfl, rfl⟩) | (go_at_call 50; refine KF.out.mono ?_; rintro e w0 ⟨rfl, rfl⟩))
  go_ret
  exact ⟨rfl, rfl⟩
set_option maxRecDepth 100000 in
set_option maxHeartbeats 4000000 in
theorem rput_same {W : World} {B b : Nat} {A : Option Addr} {c : Nat} {L : List Fi} {n : Int} (h : RSt W B b A c L n) (s t : ByteArray) (hs : s.size ≤ 1000000000000000) (hnm : nameR s = true) (hc : (checkR t).2 = 0) {j : Nat} {f : Fi} (hj : L[j]? = some f) (ht : f.t = t) (hf : fp L s 0 = (j, true)) (hL : L.length ≤ 1000) :
    Calls Tryd.prog 25 #[.pointer (some ⟨b, 0, none⟩), .string s, .string t] W fun e w' => e = .returned (.int .i64 0) ∧ W = w' := by
  have KN := Lib.hid (fun W => name_ref s W hs)
  rw [hnm] at KN
  have KC := Lib.hid (fun W => check_ref t W)
  rw [hc] at KC
  generalize (checkR t).1 = cc1 at *
  have KF := Lib.hid (rfind_any h hL s)
  rw [hf] at KF
  have c0 := h.c0
  obtain ⟨ad, rfl, g0, g1, g2⟩ := h.add3 hj
  have hjl : j < L.length := (List.getElem?_eq_some_iff.1 hj).1
  obtain ⟨fn, ft, fv⟩ := f
  simp only at g0 g1 g2 ht
  subst ht
  have tl : decide ((j : Int) < (L.length : Int)) = true := by simp; omega
  have tt : (ft == ft) = true := (MapKept.bytes_beq _ _).2 rfl
  clear h hc hj
  go_enter Tryd.func25, Tryd.ntmps25
  go_wp2_with (first | (go_at_call 23; refine (KN.out _).mono ?_; rintro e w0 ⟨rfl, rfl⟩) | (go_at_call 49; refine (KC.out _).mono ?_; rintro e w0 ⟨rfl, rfl⟩) | (go_at_call 50; refine KF.out.mono ?_; rintro e w0 ⟨rfl, rfl⟩))
  go_ret
  exact ⟨rfl, rfl⟩
set_option maxRecDepth 100000 in
set_option maxHeartbeats 4000000 in
theorem rput_new {W : World} {B b : Nat} {g : Nat} {c : Nat} {L : List Fi} {n : Int} (h : RSt W B b (some ⟨g, 0, none⟩) c L n) (s t : ByteArray) (hs : s.size ≤ 1000000000000000) (hnm : nameR s = true) (hc : (checkR t).2 = 0) {j : Nat} (hjl : j ≤ L.length) (hf : fp L s 0 = (j, false)) (hL : L.length ≤ 1000) (hl : L.length < 64) (hn : 0 ≤ n) (hm : n ≤ 1000000000000000) :
    Calls Tryd.prog 25 #[.pointer (some ⟨b, 0, none⟩), .string s, .string t] W fun e w' => e = .returned (.int .i64 0) ∧ (∃ A' c', RSt w' B b A' c' (L.take j ++ ⟨s, t, n + 1⟩ :: L.drop (j)) (n + 1)) ∧ Kp (fun k => k ≠ b) W w' := by
  have KN := Lib.hid (fun W => name_ref s W hs)
  rw [hnm] at KN
  have KC := Lib.hid (fun W => check_ref t W)
  rw [hc] at KC
  generalize (checkR t).1 = cc1 at *
  have KF := Lib.hid (rfind_any h hL s)
  rw [hf] at KF
  have c0 := h.c0
  have tl : decide ((64 : Int) ≤ (L.length : Int)) = false := by simp; omega
  have tl2 : decide (64 ≤ L.length) = false := by simp; omega
  have hcap : L.length ≤ c ∧ c ≤ maxLen := by
    rcases h.own.2 with ⟨h1, _⟩ | ⟨g', cap, cur, h1, _, _, h2, h3, _⟩
    · cases h1
    · injection h1 with _ _ h4; subst h4; exact ⟨h2, h3⟩
  obtain ⟨hc1, hc2⟩ := hcap
  have hc3 : c ≤ 9223372036854775807 := hc2
  have c1 := h.c1
  have fz1 := h.fz 1
  have fz0 := h.fz 0
  have hbl : b < W.heap.size := World.block_lt_of_cell? W ⟨b, 0, none⟩ h.c0
  obtain ⟨HR2, HK2⟩ := rW_of h (n + 1) s t
  have HR2 := Lib.hid HR2
  have HK2 := Lib.hid HK2
  obtain ⟨i0, hi0, hz0, hz1, hz2⟩ := info_parts infoF
  have HX := Lib.hid (rW_cells W b (n + 1) s t)
  have HL1 := Lib.hid (flat3_len (L.take j))
  have HL2 := Lib.hid (flat3_len (L.drop (j)))
  have HO1 := Lib.hid (flat3_one (L.take j))
  have HO2 := Lib.hid (flat3_one (L.drop (j)))
  have HCN := Lib.hid (fun W => cell_three_new W ⟨s, t, n + 1⟩)
  have HS1 := Lib.hid (three_one ⟨s, t, n + 1⟩)
  have HC1 := Lib.hid hc1
  have HC2 := Lib.hid hc2
  have HjL := Lib.hid hjl
  have h3L := Lib.hid hL
  have tj1 : j ≤ c := by omega
  have HG := Lib.hid (show W.heap.size < (rW W b (n + 1) s t).heap.size by simp [rW])
  have HBL := Lib.hid hbl
  clear h hc hc1 hc2 hc3
  go_enter Tryd.func25, Tryd.ntmps25
  go_wp2_with (first | (go_at_call 23; refine (KN.out _).mono ?_; rintro e w0 ⟨rfl, rfl⟩) | (go_at_call 49; refine (KC.out _).mono ?_; rintro e w0 ⟨rfl, rfl⟩) | (go_at_call 50; refine KF.out.mono ?_; rintro e w0 ⟨rfl, rfl⟩) | (at_builtin; go_loud (refine wpList_append_own _ rfl _ _ 28 rfl (rW W b (n + 1) s t).heap.size 45 i0 (.agg #[.string ⟨#[]⟩, .string ⟨#[]⟩, .int .i64 0]) 3 40 Tryd.underlying28 hi0 hz0 hz1 hz2 rfl (by decide) _ _ _ rfl (World.ownsRow_nil _ _ _ _) ⟨g, 0, none⟩ j c (flat3 (L.take j)) rfl ?a0 ?a1 ?a2 ?a3 ?a4 ?a5 ?_)))
  case a0 => rw [HL1.out, List.length_take, Nat.min_eq_left (by have := HjL.out; omega)]
  case a1 => exact src_take HR2.out.own j (by have := HjL.out; omega)
  case a2 => exact HO1.out
  case a3 => exact Nat.le_trans (by have := HjL.out; have := h3L.out; omega : 0 + j ≤ 1000) small_max2
  case a4 => have := HjL.out; have := h3L.out; omega
  case a5 => exact Nat.le_refl _
  intro v3 w3 hown3 hgrow3 _
  obtain ⟨A3, c3, rfl⟩ := own_form3 hown3
  have hb3 : Go.RowKit.Below (rW W b (n + 1) s t).heap.size (rW W b (n + 1) s t) w3 := (Go.RowKit.Below.refl _ _).grown hgrow3 (Nat.le_refl _) (fun k hk => by simp [Value.ownBlock] at hk)
  have HB3 := Lib.hid hb3
  have HO3 := Lib.hid hown3
  have y0 := cell_later hb3 HX.out.1
  have y1 := cell_later hb3 HX.out.2.1
  have y2 := cell_later hb3 HX.out.2.2
  clear hown3 hgrow3 hb3
  go_wp2_with (at_builtin; go_loud (refine wpList_append_own _ rfl _ _ 28 rfl (rW W b (n + 1) s t).heap.size 45 i0 (.agg #[.string ⟨#[]⟩, .string ⟨#[]⟩, .int .i64 0]) 3 40 Tryd.underlying28 hi0 hz0 hz1 hz2 rfl (by decide) _ _ _ rfl (HO3.out.alloc _) ⟨w3.heap.size, 0, none⟩ 1 1 (cells3 ⟨s, t, n + 1⟩) rfl ?b0 ?b1 ?b2 ?b3 ?b4 ?b5 ?_))
  case b0 => rfl
  case b1 => exact HCN.out _
  case b2 => exact HS1.out
  case b3 => exact Nat.le_trans (by have := HjL.out; have := h3L.out; omega : j + 1 ≤ 1001) (by unfold maxLen; decide)
  case b4 => have := HjL.out; have := h3L.out; omega
  case b5 => have := HB3.out.size; simp; omega
  intro v4 w4 hown4 hgrow4 _
  obtain ⟨A4, c4, rfl⟩ := own_form3 hown4
  have hb4 : Go.RowKit.Below (rW W b (n + 1) s t).heap.size (rW W b (n + 1) s t) w4 := (HB3.out.alloc HB3.out.size _).grown hgrow4 (by have := HB3.out.size; simp; omega) (fun k hk => (HO3.out.lt k hk).1)
  have HB4 := Lib.hid hb4
  have HO4 := Lib.hid hown4
  have z0 := cell_later hb4 HR2.out.c0
  have HR4 := Lib.hid (HR2.out.later hb4)
  clear hown4 hgrow4 hb4 y0 y1 y2
  have tl2 : j ≤ L.length := by have := HjL.out; omega
  have hlow : j ≤ c := Nat.le_trans tl2 HC1.out
  by_cases hcl : j = c
  · subst hcl
    go_wp2_with (at_builtin; go_loud (refine wpList_append_own _ rfl _ _ 28 rfl (rW W b (n + 1) s t).heap.size 45 i0 (.agg #[.string ⟨#[]⟩, .string ⟨#[]⟩, .int .i64 0]) 3 40 Tryd.underlying28 hi0 hz0 hz1 hz2 rfl (by decide) _ _ _ rfl HO4.out (⟨g, 0, none⟩ : Addr) (L.length - (j)) 0 (flat3 (L.drop (j))) rfl ?d0 ?d1 ?d2 ?d3 ?d4 ?d5 ?_))
    case d0 => rw [HL2.out, List.length_drop]
    case d1 => intro x u hx; rw [List.drop_of_length_le HC1.out] at hx; simp [flat3] at hx
    case d2 => exact HO2.out
    case d3 => exact Nat.le_trans (by have := HjL.out; have := h3L.out; omega : j + 1 + (L.length - (j)) ≤ 2001) (by unfold maxLen; decide)
    case d4 => have := HjL.out; have := h3L.out; omega
    case d5 => exact HB4.out.size
    intro v5 w5 hown5 hgrow5 _
    obtain ⟨A5, c5, rfl⟩ := own_form3 hown5
    have hb5 : Go.RowKit.Below (rW W b (n + 1) s t).heap.size (rW W b (n + 1) s t) w5 := HB4.out.grown hgrow5 HB4.out.size (fun k hk => (HO4.out.lt k hk).1)
    have hR5 := HR2.out.later hb5
    have u0 := hR5.c0
    have uf := hR5.fz 0
    have e : flat3 (L.take j) ++ cells3 ⟨s, t, n + 1⟩ ++ flat3 (L.drop (j)) = flat3 (L.take j ++ ⟨s, t, n + 1⟩ :: L.drop (j)) := by rw [flat3_app, flat3, List.append_assoc]
    have hown6 : w5.ownsRow (rW W b (n + 1) s t).heap.size 45 3 (.slice A5 (j + 1 + (L.length - j)) c5) (j + 1 + (L.length - j)) (flat3 (L.take j ++ ⟨s, t, n + 1⟩ :: L.drop (j))) := by rw [← e]; simpa only [List.append_assoc] using hown5
    have HF := Lib.hid (HR2.out.set (m := j + 1 + (L.length - j)) hb5 (by have := HjL.out; simp; omega) hown6)
    clear hown5 hown6 hgrow5 hb5 hR5 e z0
    go_wp2_with fail
    go_ret
    exact ⟨rfl, ⟨_, _, HF.out.1⟩, HK2.out.trans HF.out.2⟩
  · have tl1 : j ≤ c := hlow
    have tl3 : ¬ c = j := fun e => hcl e.symm
    go_wp2_with (at_builtin; go_loud (refine wpList_append_own _ rfl _ _ 28 rfl (rW W b (n + 1) s t).heap.size 45 i0 (.agg #[.string ⟨#[]⟩, .string ⟨#[]⟩, .int .i64 0]) 3 40 Tryd.underlying28 hi0 hz0 hz1 hz2 rfl (by decide) _ _ _ rfl HO4.out (⟨g, (j) * 3, none⟩ : Addr) (L.length - (j)) (c - (j)) (flat3 (L.drop (j))) rfl ?d0 ?d1 ?d2 ?d3 ?d4 ?d5 ?_))
    case d0 => rw [HL2.out, List.length_drop]
    case d1 => exact src_drop HR4.out.own _ (by have := HjL.out; omega)
    case d2 => exact HO2.out
    case d3 => exact Nat.le_trans (by have := HjL.out; have := h3L.out; omega : j + 1 + (L.length - (j)) ≤ 2001) (by unfold maxLen; decide)
    case d4 => have := HjL.out; have := h3L.out; omega
    case d5 => exact HB4.out.size
    intro v5 w5 hown5 hgrow5 _
    obtain ⟨A5, c5, rfl⟩ := own_form3 hown5
    have hb5 : Go.RowKit.Below (rW W b (n + 1) s t).heap.size (rW W b (n + 1) s t) w5 := HB4.out.grown hgrow5 HB4.out.size (fun k hk => (HO4.out.lt k hk).1)
    have hR5 := HR2.out.later hb5
    have u0 := hR5.c0
    have uf := hR5.fz 0
    have e : flat3 (L.take j) ++ cells3 ⟨s, t, n + 1⟩ ++ flat3 (L.drop (j)) = flat3 (L.take j ++ ⟨s, t, n + 1⟩ :: L.drop (j)) := by rw [flat3_app, flat3, List.append_assoc]
    have hown6 : w5.ownsRow (rW W b (n + 1) s t).heap.size 45 3 (.slice A5 (j + 1 + (L.length - j)) c5) (j + 1 + (L.length - j)) (flat3 (L.take j ++ ⟨s, t, n + 1⟩ :: L.drop (j))) := by rw [← e]; simpa only [List.append_assoc] using hown5
    have HF := Lib.hid (HR2.out.set (m := j + 1 + (L.length - j)) hb5 (by have := HjL.out; simp; omega) hown6)
    clear hown5 hown6 hgrow5 hb5 hR5 e z0
    go_wp2_with fail
    go_ret
    exact ⟨rfl, ⟨_, _, HF.out.1⟩, HK2.out.trans HF.out.2⟩
set_option maxRecDepth 100000 in
set_option maxHeartbeats 4000000 in
theorem rput_over {W : World} {B b : Nat} {g : Nat} {c : Nat} {L : List Fi} {n : Int} (h : RSt W B b (some ⟨g, 0, none⟩) c L n) (s t : ByteArray) (hs : s.size ≤ 1000000000000000) (hnm : nameR s = true) (hc : (checkR t).2 = 0) {j : Nat} {f : Fi} (hj : L[j]? = some f) (ht : f.t ≠ t) (hf : fp L s 0 = (j, true)) (hL : L.length ≤ 1000) (hn : 0 ≤ n) (hm : n ≤ 1000000000000000) :
    Calls Tryd.prog 25 #[.pointer (some ⟨b, 0, none⟩), .string s, .string t] W fun e w' => e = .returned (.int .i64 0) ∧ (∃ A' c', RSt w' B b A' c' (L.take j ++ ⟨s, t, n + 1⟩ :: L.drop (j + 1)) (n + 1)) ∧ Kp (fun k => k ≠ b) W w' := by
  have KN := Lib.hid (fun W => name_ref s W hs)
  rw [hnm] at KN
  have KC := Lib.hid (fun W => check_ref t W)
  rw [hc] at KC
  generalize (checkR t).1 = cc1 at *
  have KF := Lib.hid (rfind_any h hL s)
  rw [hf] at KF
  have c0 := h.c0
  obtain ⟨g', hA, _, g0, g1, g2⟩ := h.at hj
  obtain rfl : g = g' := by injection hA with hA; injection hA
  have hjl : j < L.length := (List.getElem?_eq_some_iff.1 hj).1
  obtain ⟨fn, ft, fv⟩ := f
  simp only at g0 g1 g2 ht
  have tl : decide ((j : Int) < (L.length : Int)) = true := by simp; omega
  have tt : (ft == t) = false := Bool.eq_false_iff.2 (fun e => ht ((MapKept.bytes_beq _ _).1 e))
  have td : (ft.toList == t.toList) = false := beq_eq_false_iff_ne.2 (fun e => ht (toList_inj (by rw [← ByteArray.toList_eq, ← ByteArray.toList_eq]; exact e)))
  have hcap : L.length ≤ c ∧ c ≤ maxLen := by
    rcases h.own.2 with ⟨h1, _⟩ | ⟨g', cap, cur, h1, _, _, h2, h3, _⟩
    · cases h1
    · injection h1 with _ _ h4; subst h4; exact ⟨h2, h3⟩
  obtain ⟨hc1, hc2⟩ := hcap
  have hc3 : c ≤ 9223372036854775807 := hc2
  have c1 := h.c1
  have fz1 := h.fz 1
  have fz0 := h.fz 0
  have hbl : b < W.heap.size := World.block_lt_of_cell? W ⟨b, 0, none⟩ h.c0
  obtain ⟨HR2, HK2⟩ := rW_of h (n + 1) s t
  have HR2 := Lib.hid HR2
  have HK2 := Lib.hid HK2
  obtain ⟨i0, hi0, hz0, hz1, hz2⟩ := info_parts infoF
  have HX := Lib.hid (rW_cells W b (n + 1) s t)
  have HL1 := Lib.hid (flat3_len (L.take j))
  have HL2 := Lib.hid (flat3_len (L.drop (j + 1)))
  have HO1 := Lib.hid (flat3_one (L.take j))
  have HO2 := Lib.hid (flat3_one (L.drop (j + 1)))
  have HCN := Lib.hid (fun W => cell_three_new W ⟨s, t, n + 1⟩)
  have HS1 := Lib.hid (three_one ⟨s, t, n + 1⟩)
  have HC1 := Lib.hid hc1
  have HC2 := Lib.hid hc2
  have HjL := Lib.hid hjl
  have h3L := Lib.hid hL
  have tj1 : j ≤ c := by omega
  have HG := Lib.hid (show W.heap.size < (rW W b (n + 1) s t).heap.size by simp [rW])
  have HBL := Lib.hid hbl
  clear h hc hc1 hc2 hc3 hj ht
  go_enter Tryd.func25, Tryd.ntmps25
  go_wp2_with (first | (go_at_call 23; refine (KN.out _).mono ?_; rintro e w0 ⟨rfl, rfl⟩) | (go_at_call 49; refine (KC.out _).mono ?_; rintro e w0 ⟨rfl, rfl⟩) | (go_at_call 50; refine KF.out.mono ?_; rintro e w0 ⟨rfl, rfl⟩) | (at_builtin; go_loud (refine wpList_append_own _ rfl _ _ 28 rfl (rW W b (n + 1) s t).heap.size 45 i0 (.agg #[.string ⟨#[]⟩, .string ⟨#[]⟩, .int .i64 0]) 3 40 Tryd.underlying28 hi0 hz0 hz1 hz2 rfl (by decide) _ _ _ rfl (World.ownsRow_nil _ _ _ _) ⟨g, 0, none⟩ j c (flat3 (L.take j)) rfl ?a0 ?a1 ?a2 ?a3 ?a4 ?a5 ?_)))
  case a0 => rw [HL1.out, List.length_take, Nat.min_eq_left (by have := HjL.out; omega)]
  case a1 => exact src_take HR2.out.own j (by have := HjL.out; omega)
  case a2 => exact HO1.out
  case a3 => exact Nat.le_trans (by have := HjL.out; have := h3L.out; omega : 0 + j ≤ 1000) small_max2
  case a4 => have := HjL.out; have := h3L.out; omega
  case a5 => exact Nat.le_refl _
  intro v3 w3 hown3 hgrow3 _
  obtain ⟨A3, c3, rfl⟩ := own_form3 hown3
  have hb3 : Go.RowKit.Below (rW W b (n + 1) s t).heap.size (rW W b (n + 1) s t) w3 := (Go.RowKit.Below.refl _ _).grown hgrow3 (Nat.le_refl _) (fun k hk => by simp [Value.ownBlock] at hk)
  have HB3 := Lib.hid hb3
  have HO3 := Lib.hid hown3
  have y0 := cell_later hb3 HX.out.1
  have y1 := cell_later hb3 HX.out.2.1
  have y2 := cell_later hb3 HX.out.2.2
  clear hown3 hgrow3 hb3
  go_wp2_with (at_builtin; go_loud (refine wpList_append_own _ rfl _ _ 28 rfl (rW W b (n + 1) s t).heap.size 45 i0 (.agg #[.string ⟨#[]⟩, .string ⟨#[]⟩, .int .i64 0]) 3 40 Tryd.underlying28 hi0 hz0 hz1 hz2 rfl (by decide) _ _ _ rfl (HO3.out.alloc _) ⟨w3.heap.size, 0, none⟩ 1 1 (cells3 ⟨s, t, n + 1⟩) rfl ?b0 ?b1 ?b2 ?b3 ?b4 ?b5 ?_))
  case b0 => rfl
  case b1 => exact HCN.out _
  case b2 => exact HS1.out
  case b3 => exact Nat.le_trans (by have := HjL.out; have := h3L.out; omega : j + 1 ≤ 1001) (by unfold maxLen; decide)
  case b4 => have := HjL.out; have := h3L.out; omega
  case b5 => have := HB3.out.size; simp; omega
  intro v4 w4 hown4 hgrow4 _
  obtain ⟨A4, c4, rfl⟩ := own_form3 hown4
  have hb4 : Go.RowKit.Below (rW W b (n + 1) s t).heap.size (rW W b (n + 1) s t) w4 := (HB3.out.alloc HB3.out.size _).grown hgrow4 (by have := HB3.out.size; simp; omega) (fun k hk => (HO3.out.lt k hk).1)
  have HB4 := Lib.hid hb4
  have HO4 := Lib.hid hown4
  have z0 := cell_later hb4 HR2.out.c0
  have HR4 := Lib.hid (HR2.out.later hb4)
  clear hown4 hgrow4 hb4 y0 y1 y2
  have tl2 : j + 1 ≤ L.length := by have := HjL.out; omega
  have hlow : j + 1 ≤ c := Nat.le_trans tl2 HC1.out
  by_cases hcl : j + 1 = c
  · subst hcl
    go_wp2_with (at_builtin; go_loud (refine wpList_append_own _ rfl _ _ 28 rfl (rW W b (n + 1) s t).heap.size 45 i0 (.agg #[.string ⟨#[]⟩, .string ⟨#[]⟩, .int .i64 0]) 3 40 Tryd.underlying28 hi0 hz0 hz1 hz2 rfl (by decide) _ _ _ rfl HO4.out (⟨g, 0, none⟩ : Addr) (L.length - (j + 1)) 0 (flat3 (L.drop (j + 1))) rfl ?d0 ?d1 ?d2 ?d3 ?d4 ?d5 ?_))
    case d0 => rw [HL2.out, List.length_drop]
    case d1 => intro x u hx; rw [List.drop_of_length_le HC1.out] at hx; simp [flat3] at hx
    case d2 => exact HO2.out
    case d3 => exact Nat.le_trans (by have := HjL.out; have := h3L.out; omega : j + 1 + (L.length - (j + 1)) ≤ 2001) (by unfold maxLen; decide)
    case d4 => have := HjL.out; have := h3L.out; omega
    case d5 => exact HB4.out.size
    intro v5 w5 hown5 hgrow5 _
    obtain ⟨A5, c5, rfl⟩ := own_form3 hown5
    have hb5 : Go.RowKit.Below (rW W b (n + 1) s t).heap.size (rW W b (n + 1) s t) w5 := HB4.out.grown hgrow5 HB4.out.size (fun k hk => (HO4.out.lt k hk).1)
    have hR5 := HR2.out.later hb5
    have u0 := hR5.c0
    have uf := hR5.fz 0
    have e : flat3 (L.take j) ++ cells3 ⟨s, t, n + 1⟩ ++ flat3 (L.drop (j + 1)) = flat3 (L.take j ++ ⟨s, t, n + 1⟩ :: L.drop (j + 1)) := by rw [flat3_app, flat3, List.append_assoc]
    have hown6 : w5.ownsRow (rW W b (n + 1) s t).heap.size 45 3 (.slice A5 (L.length) c5) (L.length) (flat3 (L.take j ++ ⟨s, t, n + 1⟩ :: L.drop (j + 1))) := by rw [← e]; simpa only [List.append_assoc] using hown5
    have HF := Lib.hid (HR2.out.set (m := L.length) hb5 (by have := HjL.out; simp; omega) hown6)
    clear hown5 hown6 hgrow5 hb5 hR5 e z0
    go_wp2_with fail
    go_ret
    exact ⟨rfl, ⟨_, _, HF.out.1⟩, HK2.out.trans HF.out.2⟩
  · have tl1 : j + 1 ≤ c := hlow
    have tl3 : ¬ c = j + 1 := fun e => hcl e.symm
    go_wp2_with (at_builtin; go_loud (refine wpList_append_own _ rfl _ _ 28 rfl (rW W b (n + 1) s t).heap.size 45 i0 (.agg #[.string ⟨#[]⟩, .string ⟨#[]⟩, .int .i64 0]) 3 40 Tryd.underlying28 hi0 hz0 hz1 hz2 rfl (by decide) _ _ _ rfl HO4.out (⟨g, (j + 1) * 3, none⟩ : Addr) (L.length - (j + 1)) (c - (j + 1)) (flat3 (L.drop (j + 1))) rfl ?d0 ?d1 ?d2 ?d3 ?d4 ?d5 ?_))
    case d0 => rw [HL2.out, List.length_drop]
    case d1 => exact src_drop HR4.out.own _ (by have := HjL.out; omega)
    case d2 => exact HO2.out
    case d3 => exact Nat.le_trans (by have := HjL.out; have := h3L.out; omega : j + 1 + (L.length - (j + 1)) ≤ 2001) (by unfold maxLen; decide)
    case d4 => have := HjL.out; have := h3L.out; omega
    case d5 => exact HB4.out.size
    intro v5 w5 hown5 hgrow5 _
    obtain ⟨A5, c5, rfl⟩ := own_form3 hown5
    have hb5 : Go.RowKit.Below (rW W b (n + 1) s t).heap.size (rW W b (n + 1) s t) w5 := HB4.out.grown hgrow5 HB4.out.size (fun k hk => (HO4.out.lt k hk).1)
    have hR5 := HR2.out.later hb5
    have u0 := hR5.c0
    have uf := hR5.fz 0
    have e : flat3 (L.take j) ++ cells3 ⟨s, t, n + 1⟩ ++ flat3 (L.drop (j + 1)) = flat3 (L.take j ++ ⟨s, t, n + 1⟩ :: L.drop (j + 1)) := by rw [flat3_app, flat3, List.append_assoc]
    have hown6 : w5.ownsRow (rW W b (n + 1) s t).heap.size 45 3 (.slice A5 (L.length) c5) (L.length) (flat3 (L.take j ++ ⟨s, t, n + 1⟩ :: L.drop (j + 1))) := by rw [← e]; simpa only [List.append_assoc] using hown5
    have HF := Lib.hid (HR2.out.set (m := L.length) hb5 (by have := HjL.out; simp; omega) hown6)
    clear hown5 hown6 hgrow5 hb5 hR5 e z0
    go_wp2_with fail
    go_ret
    exact ⟨rfl, ⟨_, _, HF.out.1⟩, HK2.out.trans HF.out.2⟩
end Go.Proofs.YtlgklkokadbpeaaDoor
