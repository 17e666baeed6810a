import Derived.Test.YtlgklkokadbpeaaDoorStOn
namespace Go.Proofs.YtlgklkokadbpeaaDoor
open Go.RowKit Go.Maps Go.ChangeMaps Go.Sort
set_option maxRecDepth 100000 in
set_option maxHeartbeats 4000000 in
theorem stays_any (A : Option Addr) (n d : Nat) (os : List OpD) (name : ByteArray) (w : World) (hT : Lib.Utf8Tabs 0 1 w) (h : OA w A n d os) (hnm : name.size ≤ 1000000000000000) :
    Calls Tryd.prog 8 #[.slice A n d, .string name] w fun e w' => e = .returned (.bool true) ∧ Below w.heap.size w w' := by
  have KA := Lib.hid (fun w1 (hb : Below w.heap.size w w1) => awake_true w1 (tabs_below hT hb))
  have KF := Lib.hid (fun w1 (hb : Below w.heap.size w w1) => few_any w1 A n d os (h.later hb))
  have HT := Lib.hid hT
  have HO := Lib.hid h
  have HNM := Lib.hid hnm
  clear hT h hnm
  go_enter Tryd.func8, Tryd.ntmps8
  go_wp2_with fail
  refine (KA.out _ (Below.refl _ _)).mono ?_
  rintro e w1 ⟨rfl, hb1⟩
  go_wp2_with fail
  refine (KF.out _ hb1).mono ?_
  rintro e w2 ⟨⟨r, rfl, hr⟩, rfl⟩
  have HR := Lib.hid hr
  clear hr
  cases r with
  | false =>
    go_wp2_with fail
    refine (KA.out _ hb1).mono ?_
    rintro e w2 ⟨rfl, hb2⟩
    go_wp2_with fail
    go_ret
    exact ⟨rfl, hb1.trans (hb2.mono hb1.size)⟩
  | true =>
  have HR2 := Lib.hid (HR.out rfl)
  clear HR
  go_wp2_with fail
  refine (new_prog _).mono ?_
  rintro e w2 ⟨rfl, rfl⟩
  go_wp2_with fail
  have HB0 := Lib.hid (One.start HT.out hb1)
  unfold zeroS at HB0
  have HB1 := Lib.hid hb1
  clear hb1
  go_loopw [6] (fun v wr => ∃ (i : Nat) (L : List Fi) (q : Int), i ≤ n ∧ v = .int .i64 i ∧ One w wr w1.heap.size L q ∧ Good L ∧ Vs L q ∧ 0 ≤ q ∧ q ≤ i) (fun v _ => n - (intOf v).toNat)
  case atStart => exact ⟨0, [], 0, by omega, rfl, HB0.out, Good.nil, Vs.nil, by omega, by omega⟩
  case round =>
    obtain ⟨i, L, q, hi, rfl, hb, hg, hv, hn, hni⟩ := hrel
    have hn2 := HR2.out.1
    have HBd := Lib.hid (hb.later (Below.drew (Below.refl _ _)))
    have HB := Lib.hid hb
    have HG := Lib.hid hg
    have HV := Lib.hid hv
    have HN := Lib.hid (And.intro hn (And.intro hni hn2))
    have HI := Lib.hid hi
    clear hb hg hv hn hni
    by_cases hlt : i < n
    case neg =>
      obtain rfl : i = n := by omega
      have tl : decide ((i : Int) < (i : Int)) = false := by simp
      cases hf : find L name with
      | none =>
        have KG := Lib.hid (fun W (hW : One w W w1.heap.size L q) => get_any hW.st name (Nat.le_trans HNM.out (by unfold maxLen; decide)))
        rw [hf] at KG
        simp only [Option.getD_none, Option.isSome_none, zeroF, Fi.val, Bool.false_eq_true, if_false] at KG
        have HF := Lib.hid hf
        clear hf hlt
        go_wp2_with (first
          | (go_at_call 28; refine (KG.out _ HB.out).mono ?_; rintro e w3 ⟨rfl, hb3⟩; have H3 := Lib.hid ((HB.out.later hb3).later ((Below.refl _ _).alloc (Nat.le_refl _) (.cells #[.string ⟨#[]⟩, .string ⟨#[]⟩, .int .i64 0] 45))))
          | (go_at_call 19; refine (rev_any H3.out.st).mono ?_; rintro e w4 ⟨rfl, hb4⟩; have H4 := Lib.hid (H3.out.later hb4); have H3 := H4)
          | (go_at_call 26; refine (edit_none H3.out.st name (Nat.le_trans HNM.out (by unfold maxLen; decide)) _ HF.out).mono ?_; rintro e w5 ⟨rfl, hb5⟩; have H5 := Lib.hid (H3.out.later hb5); have H3 := H5))
        go_ret
        exact ⟨rfl, H3.out.below⟩
      | some f =>
        have hfn := find_nm hf
        have hts := (HG.out.ok f (find_mem hf)).2
        have HQ := Lib.hid (put_as_is HV.out hf)
        have HE := Lib.hid (edit_as_is HV.out hf)
        have HX : Hid (f.t.size < 262144 → _) := Lib.hid (fun hs => edit_nl HV.out hf hs)
        have KG := Lib.hid (fun W (hW : One w W w1.heap.size L q) => get_any hW.st name (Nat.le_trans HNM.out (by unfold maxLen; decide)))
        rw [hf] at KG
        obtain ⟨fn, ft, fv⟩ := f
        simp only at hfn hts
        subst hfn
        simp only [Option.getD_some, Option.isSome_some, Fi.val, if_true] at KG
        simp only at HQ HE HX
        have q0 := HN.out.1
        have q1 : q ≤ 200000 := by have := HN.out.2.1; have := HN.out.2.2; omega
        have HS := Lib.hid hts
        clear hf hlt
        go_wp2_with fail
        refine (KG.out _ HB.out).mono ?_
        rintro e w3 ⟨rfl, hb3⟩
        have H3 := Lib.hid (HB.out.later hb3)
        have H4 := Lib.hid (H3.out.later ((Below.refl _ _).alloc (Nat.le_refl _) (.cells #[.string fn, .string ft, .int .i64 fv] 45)))
        have HP7 : Hid (w3.heap.size ≠ w1.heap.size) := Lib.hid (by have := H3.out.st.lt; omega)
        have hN := three_new w3 (.string fn) (.string ft) (.int .i64 fv) 45
        have HNw := Lib.hid hN
        clear hb3 hN
        go_wp2_with fail
        refine (rev_any H4.out.st).mono ?_
        rintro e w5 ⟨rfl, hb5⟩
        have H5 := Lib.hid (H4.out.later hb5)
        have f5_0 := cell_later hb5 HNw.out.1
        have f5_1 := cell_later hb5 HNw.out.2.1
        have f5_2 := cell_later hb5 HNw.out.2.2
        clear hb5
        go_wp2_with fail
        refine (H5.out.put HG.out _ _ HNM.out HN.out.1 (by omega)).mono ?_
        rintro e w6 ⟨he, h6, hk6⟩
        rw [HQ.out.1] at he
        rw [HQ.out.2.1, HQ.out.2.2] at h6
        subst he
        have H6 := Lib.hid h6
        have H6a := Lib.hid (h6.later ((Below.refl _ _).alloc (Nat.le_refl _) (.cells #[.int .i64 0, .int .i64 ft.size, .string ft] 55)))
        have f6_0 := kS_cell hk6 f5_0 HP7.out
        have f6_1 := kS_cell hk6 f5_1 HP7.out
        have f6_2 := kS_cell hk6 f5_2 HP7.out
        have F6 := Lib.hid (And.intro f6_0 (And.intro f6_1 f6_2))
        clear f5_0 f5_1 f5_2 h6 hk6 f6_0 f6_2
        go_wp2_with fail
        refine (H6a.out.edit HG.out _ HNM.out (EA_one w6 0 ft.size ft (by have := HS.out; omega) 55) (by omega) HN.out.1 (by omega)).mono ?_
        rintro e w7 ⟨he, h7, hk7⟩
        rw [HE.out.1] at he
        rw [HE.out.2.1, HE.out.2.2] at h7
        subst he
        have H7 := Lib.hid h7
        have f7_0 := kS_cell hk7 (cell_later ((Below.refl _ _).alloc (Nat.le_refl _) _) F6.out.1) HP7.out
        have f7_1 := kS_cell hk7 (cell_later ((Below.refl _ _).alloc (Nat.le_refl _) _) F6.out.2.1) HP7.out
        have f7_2 := kS_cell hk7 (cell_later ((Below.refl _ _).alloc (Nat.le_refl _) _) F6.out.2.2) HP7.out
        have F7 := Lib.hid (And.intro f7_0 (And.intro f7_1 f7_2))
        clear h7 hk7 f7_0 f7_1 f7_2 f6_1
        go_wp2_with fail
        refine (rev_any H7.out.st).mono ?_
        rintro e w8 ⟨rfl, hb8⟩
        have H8 := Lib.hid (H7.out.later hb8)
        have F8 := Lib.hid (And.intro (cell_later hb8 F7.out.1) (And.intro (cell_later hb8 F7.out.2.1) (cell_later hb8 F7.out.2.2)))
        clear hb8
        go_wp2_with fail
        refine (KG.out _ H8.out).mono ?_
        rintro e w9 ⟨rfl, hb9⟩
        have H9 := Lib.hid (H8.out.later hb9)
        have H9a := Lib.hid (H9.out.later ((Below.refl _ _).alloc (Nat.le_refl _) (.cells #[.string fn, .string ft, .int .i64 fv] 45)))
        have F9 := Lib.hid (And.intro (cell_later hb9 F8.out.1) (And.intro (cell_later hb9 F8.out.2.1) (cell_later hb9 F8.out.2.2)))
        have f9_0 := fun o => cell_later ((Below.refl w9.heap.size w9).alloc (Nat.le_refl _) o) F9.out.1
        have f9_1 := fun o => cell_later ((Below.refl w9.heap.size w9).alloc (Nat.le_refl _) o) F9.out.2.1
        have f9_2 := fun o => cell_later ((Below.refl w9.heap.size w9).alloc (Nat.le_refl _) o) F9.out.2.2
        clear hb9
        by_cases hz : ft.size = 262144
        case pos =>
          have hz1 : ((ft.size : Int) == 262144) = true := by simpa using (by omega : (ft.size : Int) = 262144)
          go_wp2_with fail
          go_ret
          exact ⟨rfl, H9a.out.below⟩
        have hz1 : ((ft.size : Int) == 262144) = false := by simpa using (by omega : ¬ (ft.size : Int) = 262144)
        have HX2 := Lib.hid (HX.out (by have := HS.out; omega))
        have HZ := Lib.hid hz
        clear hz
        go_wp2_with fail
        have hEA := EA_one (w9.alloc (.cells #[.string fn, .string ft, .int .i64 fv] 45)) 0 0 (⟨#[10]⟩ : ByteArray) (by show 1 ≤ _; omega) 55
        rw [alloc_size] at hEA
        have H9b := Lib.hid (H9a.out.later ((Below.refl _ _).alloc (Nat.le_refl _) (.cells #[.int .i64 0, .int .i64 0, .string (⟨#[10]⟩ : ByteArray)] 55)))
        refine (H9b.out.edit HG.out _ HNM.out hEA (by omega) HN.out.1 (by omega)).mono ?_
        rintro e w10 ⟨he, h10, hk10⟩
        have hX := HX2.out
        unfold nlB at hX
        obtain ⟨hx1, hx2, hx3⟩ := hX
        rw [hx1] at he
        rw [hx3] at h10
        subst he
        generalize editL L q fn [⟨0, 0, (⟨#[10]⟩ : ByteArray)⟩] = L2 at h10 hx2
        have H10 := Lib.hid h10
        have KH := Lib.hid (get_any h10.st fn (Nat.le_trans HNM.out (by unfold maxLen; decide)))
        rw [hx2] at KH
        simp only [Option.getD_some, Option.isSome_some, Fi.val, if_true] at KH
        have g10_1 := kS_cell hk10 (cell_later ((Below.refl _ _).alloc (Nat.le_refl _) _) (f9_1 (.cells #[.string fn, .string ft, .int .i64 fv] 45))) HP7.out
        have G10 := Lib.hid g10_1
        have n1 : ¬ (9223372036854775807 < 1 + ft.size) := by have := HS.out; omega
        clear h10 hk10 hx1 hx2 hx3 hEA f9_0 f9_1 f9_2 g10_1
        go_wp2_with fail
        refine KH.out.mono ?_
        rintro e w11 ⟨rfl, hb11⟩
        have H11 := Lib.hid ((H10.out.later hb11).later ((Below.refl _ _).alloc (Nat.le_refl _) (.cells #[.string fn, .string ((⟨#[10]⟩ : ByteArray) ++ ft), .int .i64 (q + 1)] 45)))
        have g11 := fun o => cell_later ((Below.refl w11.heap.size w11).alloc (Nat.le_refl _) o) (cell_later hb11 G10.out)
        clear hb11
        go_wp2_with fail
        refine (rev_any H11.out.st).mono ?_
        rintro e w12 ⟨rfl, hb12⟩
        have H12 := Lib.hid (H11.out.later hb12)
        clear hb12
        go_wp2_with fail
        go_ret
        exact ⟨rfl, H12.out.below⟩
    obtain ⟨h1, h2, h3⟩ := HO.out
    rcases h3 with h3 | ⟨b, off, rfl, hnd, hbl, hat⟩
    · omega
    obtain ⟨x0, x1, x2, x3⟩ := hat i (by omega)
    have ok := h2 (os[i]'(by omega)) (List.getElem_mem _)
    have hmm := HR2.out.2 (os[i]'(by omega)) (List.getElem_mem _)
    generalize os[i]'(by omega) = o at *
    obtain ⟨k, s, t, oA, om, od, oxs⟩ := o
    have hbw := HB.out.below
    have z0 := cell_later hbw x0
    have z1 := cell_later hbw x1
    have z2 := cell_later hbw x2
    have z3 := cell_later hbw x3
    have y0 := drew_cell z0
    have y1 := drew_cell z1
    have y2 := drew_cell z2
    have y3 := drew_cell z3
    simp only at y0 y1 y2 y3 z0 z1 z2 z3 hmm
    unfold OpOk at ok
    simp only at ok
    have HK := Lib.hid ok
    have HMM := Lib.hid hmm
    have HBW : Hid (b ≠ w1.heap.size) := Lib.hid (by have := HB1.out.size; omega)
    have HLt := Lib.hid hlt
    have tl : decide ((i : Int) < (n : Int)) = true := by simp; omega
    clear h2 hat x0 x1 x2 x3 ok hmm hbw h1
    by_cases k1 : k = 1
    case pos =>
      subst k1
      go_wp2_with fail
      refine wp_region_held_drew (S := (fun w' => w'.cell? ⟨b, off + i * 4 + 1, none⟩ = some (.string s) ∧ w'.cell? ⟨b, off + i * 4 + 2, none⟩ = some (.string t))) (by kernel_rfl) ⟨y1, y2⟩ (fun hHeld => ?_)
      refine wpAnyH_take (i := 0) (v := ?_) (show _ = some { dst := some 37, op := _, type := _, pos := _, after := _, guard := _ } from rfl) (by kernel_rfl) (by kernel_rfl) (by kernel_rfl) (fun _ _ _ h => h) (Or.inl ⟨by rfl, ?_⟩) hHeld ?_
      rotate_left
      · intro w' hSw
        (try dsimp only at hSw)
        go_simp
        try with_reducible rfl
      try simp only [Act.put, List.setIfInBounds_toArray, List.set_cons_zero, List.set_cons_succ]
      refine wpAnyH_take (i := 1) (v := ?_) (show _ = some { dst := some 38, op := _, type := _, pos := _, after := _, guard := _ } from rfl) (by kernel_rfl) (by kernel_rfl) (by kernel_rfl) (fun _ _ _ h => h) (Or.inl ⟨by rfl, ?_⟩) hHeld ?_
      rotate_left
      · intro w' hSw
        (try dsimp only at hSw)
        go_simp
        try with_reducible rfl
      try simp only [Act.put, List.setIfInBounds_toArray, List.set_cons_zero, List.set_cons_succ]
      refine wpAnyH_take (i := 2) (v := ?_) (show _ = some { dst := some 39, op := _, type := _, pos := _, after := _, guard := _ } from rfl) (by kernel_rfl) (by kernel_rfl) (by kernel_rfl) (fun _ _ _ h => h) (Or.inl ⟨by rfl, ?_⟩) hHeld ?_
      rotate_left
      · intro w' hSw
        (try dsimp only at hSw)
        go_simp
        try with_reducible rfl
      try simp only [Act.put, List.setIfInBounds_toArray, List.set_cons_zero, List.set_cons_succ]
      refine wpAnyH_take (i := 3) (v := ?_) (show _ = some { dst := some 40, op := _, type := _, pos := _, after := _, guard := _ } from rfl) (by kernel_rfl) (by kernel_rfl) (by kernel_rfl) (fun _ _ _ h => h) (Or.inl ⟨by rfl, ?_⟩) hHeld ?_
      rotate_left
      · intro w' hSw
        (try dsimp only at hSw)
        go_simp
        try with_reducible rfl
      try simp only [Act.put, List.setIfInBounds_toArray, List.set_cons_zero, List.set_cons_succ]
      refine wpAnyH_take (i := 4) (v := ?_) (show _ = some { dst := some 41, op := _, type := _, pos := _, after := _, guard := _ } from rfl) (by kernel_rfl) (by kernel_rfl) (by kernel_rfl) (fun _ _ _ h => h) (Or.inl ⟨by rfl, ?_⟩) hHeld ?_
      rotate_left
      · intro w' hSw
        (try dsimp only at hSw)
        go_simp
        try with_reducible rfl
      try simp only [Act.put, List.setIfInBounds_toArray, List.set_cons_zero, List.set_cons_succ]
      refine wpAnyH_take (i := 5) (v := ?_) (show _ = some { dst := some 42, op := _, type := _, pos := _, after := _, guard := _ } from rfl) (by kernel_rfl) (by kernel_rfl) (by kernel_rfl) (fun _ _ _ h => h) (Or.inl ⟨by rfl, ?_⟩) hHeld ?_
      rotate_left
      · intro w' hSw
        (try dsimp only at hSw)
        go_simp
        try with_reducible rfl
      try simp only [Act.put, List.setIfInBounds_toArray, List.set_cons_zero, List.set_cons_succ]
      refine wpAnyH_take (i := 6) (v := ?_) (show _ = some { dst := some 43, op := _, type := _, pos := _, after := _, guard := _ } from rfl) (by kernel_rfl) (by kernel_rfl) (by kernel_rfl) (fun _ _ _ h => h) (Or.inl ⟨by rfl, ?_⟩) hHeld ?_
      rotate_left
      · intro w' hSw
        (try dsimp only at hSw)
        go_simp
        try with_reducible rfl
      try simp only [Act.put, List.setIfInBounds_toArray, List.set_cons_zero, List.set_cons_succ]
      refine wpAnyH_take (i := 7) (v := ?_) (show _ = some { dst := some 44, op := _, type := _, pos := _, after := _, guard := _ } from rfl) (by kernel_rfl) (by kernel_rfl) (by kernel_rfl) (fun _ _ _ h => h) (Or.inl ⟨by rfl, ?_⟩) hHeld ?_
      rotate_left
      · intro w' hSw
        (try dsimp only at hSw)
        go_simp
        try with_reducible rfl
      try simp only [Act.put, List.setIfInBounds_toArray, List.set_cons_zero, List.set_cons_succ]
      refine wpAnyH_take (i := 8) (v := ?_) (show _ = some { dst := some 45, op := _, type := _, pos := _, after := _, guard := _ } from rfl) (by kernel_rfl) (by kernel_rfl) (by kernel_rfl) (fun _ _ _ h => h) (Or.inl ⟨by rfl, ?_⟩) hHeld ?_
      rotate_left
      · intro w' hSw
        (try dsimp only at hSw)
        go_simp
        try with_reducible rfl
      try simp only [Act.put, List.setIfInBounds_toArray, List.set_cons_zero, List.set_cons_succ]
      refine wpAnyH_take (i := 9) (v := ?_) (show _ = some { dst := some 46, op := _, type := _, pos := _, after := _, guard := _ } from rfl) (by kernel_rfl) (by kernel_rfl) (by kernel_rfl) (fun _ _ _ h => h) (Or.inl ⟨by rfl, ?_⟩) hHeld ?_
      rotate_left
      · intro w' hSw
        (try dsimp only at hSw)
        go_simp
        try with_reducible rfl
      try simp only [Act.put, List.setIfInBounds_toArray, List.set_cons_zero, List.set_cons_succ]
      refine wpAnyH_take (i := 10) (v := ?_) (show _ = some { dst := some 47, op := _, type := _, pos := _, after := _, guard := _ } from rfl) (by kernel_rfl) (by kernel_rfl) (by kernel_rfl) (fun _ _ _ h => h) (Or.inl ⟨by rfl, ?_⟩) hHeld ?_
      rotate_left
      · intro w' hSw
        (try dsimp only at hSw)
        go_simp
        try with_reducible rfl
      try simp only [Act.put, List.setIfInBounds_toArray, List.set_cons_zero, List.set_cons_succ]
      refine wpAnyH_ready (rs := [11]) (by kernel_rfl) (by simp) ?_
      refine AllReadyH.cons (show _ = some { dst := some 48, op := _, type := _, pos := _, after := _, guard := _ } from rfl) (fun K hK => ?_) AllReadyH.nil
      go_simp
      refine (HBd.out.put HG.out s t HK.out.1 HN.out.1 (by have := HN.out; have := HI.out; omega)).mono ?_
      rintro e w10 ⟨rfl, h10, hk10⟩
      have H10 := Lib.hid h10
      have HC0 := Lib.hid (kS_cell hk10 y1 (by have := HBW.out; omega))
      have HC1 := Lib.hid (kS_cell hk10 y2 (by have := HBW.out; omega))
      clear h10 hk10
      go_wp2_with fail
      refine hK.out _ _ (⟨HC0.out, HC1.out⟩) (fun hHeld => ?_)
      clear hK K
      try simp only [Act.put, List.setIfInBounds_toArray, List.set_cons_zero, List.set_cons_succ]
      refine wpAnyH_done (by kernel_rfl) ?_ _
      clear hHeld
      go_wp2_with fail
      exact ⟨⟨i + 1, _, _, by have := HLt.out; omega, by go_num, H10.out, HG.out.put q s t, HV.out.put HN.out.1 s t, (after_nonneg (L := L) HN.out.1 s t).1, by have h5 := (after_nonneg (L := L) HN.out.1 s t).2; have h6 := HN.out.2.1; omega⟩, by have := HLt.out; simp [intOf]; omega⟩
    by_cases k2 : k = 2
    case pos =>
      subst k2
      go_wp2_with fail
      refine wp_region_held_drew (S := (fun w' => w'.cell? ⟨b, off + i * 4 + 1, none⟩ = some (.string s) ∧ w'.cell? ⟨b, off + i * 4 + 3, none⟩ = some (.slice oA om od))) (by kernel_rfl) ⟨y1, y3⟩ (fun hHeld => ?_)
      refine wpAnyH_take (i := 0) (v := ?_) (show _ = some { dst := some 51, op := _, type := _, pos := _, after := _, guard := _ } from rfl) (by kernel_rfl) (by kernel_rfl) (by kernel_rfl) (fun _ _ _ h => h) (Or.inl ⟨by rfl, ?_⟩) hHeld ?_
      rotate_left
      · intro w' hSw
        (try dsimp only at hSw)
        go_simp
        try with_reducible rfl
      try simp only [Act.put, List.setIfInBounds_toArray, List.set_cons_zero, List.set_cons_succ]
      refine wpAnyH_take (i := 1) (v := ?_) (show _ = some { dst := some 52, op := _, type := _, pos := _, after := _, guard := _ } from rfl) (by kernel_rfl) (by kernel_rfl) (by kernel_rfl) (fun _ _ _ h => h) (Or.inl ⟨by rfl, ?_⟩) hHeld ?_
      rotate_left
      · intro w' hSw
        (try dsimp only at hSw)
        go_simp
        try with_reducible rfl
      try simp only [Act.put, List.setIfInBounds_toArray, List.set_cons_zero, List.set_cons_succ]
      refine wpAnyH_take (i := 2) (v := ?_) (show _ = some { dst := some 53, op := _, type := _, pos := _, after := _, guard := _ } from rfl) (by kernel_rfl) (by kernel_rfl) (by kernel_rfl) (fun _ _ _ h => h) (Or.inl ⟨by rfl, ?_⟩) hHeld ?_
      rotate_left
      · intro w' hSw
        (try dsimp only at hSw)
        go_simp
        try with_reducible rfl
      try simp only [Act.put, List.setIfInBounds_toArray, List.set_cons_zero, List.set_cons_succ]
      refine wpAnyH_take (i := 3) (v := ?_) (show _ = some { dst := some 54, op := _, type := _, pos := _, after := _, guard := _ } from rfl) (by kernel_rfl) (by kernel_rfl) (by kernel_rfl) (fun _ _ _ h => h) (Or.inl ⟨by rfl, ?_⟩) hHeld ?_
      rotate_left
      · intro w' hSw
        (try dsimp only at hSw)
        go_simp
        try with_reducible rfl
      try simp only [Act.put, List.setIfInBounds_toArray, List.set_cons_zero, List.set_cons_succ]
      refine wpAnyH_take (i := 4) (v := ?_) (show _ = some { dst := some 55, op := _, type := _, pos := _, after := _, guard := _ } from rfl) (by kernel_rfl) (by kernel_rfl) (by kernel_rfl) (fun _ _ _ h => h) (Or.inl ⟨by rfl, ?_⟩) hHeld ?_
      rotate_left
      · intro w' hSw
        (try dsimp only at hSw)
        go_simp
        try with_reducible rfl
      try simp only [Act.put, List.setIfInBounds_toArray, List.set_cons_zero, List.set_cons_succ]
      refine wpAnyH_take (i := 5) (v := ?_) (show _ = some { dst := some 56, op := _, type := _, pos := _, after := _, guard := _ } from rfl) (by kernel_rfl) (by kernel_rfl) (by kernel_rfl) (fun _ _ _ h => h) (Or.inl ⟨by rfl, ?_⟩) hHeld ?_
      rotate_left
      · intro w' hSw
        (try dsimp only at hSw)
        go_simp
        try with_reducible rfl
      try simp only [Act.put, List.setIfInBounds_toArray, List.set_cons_zero, List.set_cons_succ]
      refine wpAnyH_take (i := 6) (v := ?_) (show _ = some { dst := some 57, op := _, type := _, pos := _, after := _, guard := _ } from rfl) (by kernel_rfl) (by kernel_rfl) (by kernel_rfl) (fun _ _ _ h => h) (Or.inl ⟨by rfl, ?_⟩) hHeld ?_
      rotate_left
      · intro w' hSw
        (try dsimp only at hSw)
        go_simp
        try with_reducible rfl
      try simp only [Act.put, List.setIfInBounds_toArray, List.set_cons_zero, List.set_cons_succ]
      refine wpAnyH_take (i := 7) (v := ?_) (show _ = some { dst := some 58, op := _, type := _, pos := _, after := _, guard := _ } from rfl) (by kernel_rfl) (by kernel_rfl) (by kernel_rfl) (fun _ _ _ h => h) (Or.inl ⟨by rfl, ?_⟩) hHeld ?_
      rotate_left
      · intro w' hSw
        (try dsimp only at hSw)
        go_simp
        try with_reducible rfl
      try simp only [Act.put, List.setIfInBounds_toArray, List.set_cons_zero, List.set_cons_succ]
      refine wpAnyH_take (i := 8) (v := ?_) (show _ = some { dst := some 59, op := _, type := _, pos := _, after := _, guard := _ } from rfl) (by kernel_rfl) (by kernel_rfl) (by kernel_rfl) (fun _ _ _ h => h) (Or.inl ⟨by rfl, ?_⟩) hHeld ?_
      rotate_left
      · intro w' hSw
        (try dsimp only at hSw)
        go_simp
        try with_reducible rfl
      try simp only [Act.put, List.setIfInBounds_toArray, List.set_cons_zero, List.set_cons_succ]
      refine wpAnyH_take (i := 9) (v := ?_) (show _ = some { dst := some 60, op := _, type := _, pos := _, after := _, guard := _ } from rfl) (by kernel_rfl) (by kernel_rfl) (by kernel_rfl) (fun _ _ _ h => h) (Or.inl ⟨by rfl, ?_⟩) hHeld ?_
      rotate_left
      · intro w' hSw
        (try dsimp only at hSw)
        go_simp
        try with_reducible rfl
      try simp only [Act.put, List.setIfInBounds_toArray, List.set_cons_zero, List.set_cons_succ]
      refine wpAnyH_take (i := 10) (v := ?_) (show _ = some { dst := some 61, op := _, type := _, pos := _, after := _, guard := _ } from rfl) (by kernel_rfl) (by kernel_rfl) (by kernel_rfl) (fun _ _ _ h => h) (Or.inl ⟨by rfl, ?_⟩) hHeld ?_
      rotate_left
      · intro w' hSw
        (try dsimp only at hSw)
        go_simp
        try with_reducible rfl
      try simp only [Act.put, List.setIfInBounds_toArray, List.set_cons_zero, List.set_cons_succ]
      refine wpAnyH_ready (rs := [11]) (by kernel_rfl) (by simp) ?_
      refine AllReadyH.cons (show _ = some { dst := some 62, op := _, type := _, pos := _, after := _, guard := _ } from rfl) (fun K hK => ?_) AllReadyH.nil
      go_simp
      refine (HBd.out.edit HG.out s HK.out.1 (HK.out.2.2.later HBd.out.below) (by have := HMM.out; omega) HN.out.1 (by have := HN.out; have := HI.out; omega)).mono ?_
      rintro e w10 ⟨rfl, h10, hk10⟩
      have H10 := Lib.hid h10
      have HC0 := Lib.hid (kS_cell hk10 y1 (by have := HBW.out; omega))
      have HC1 := Lib.hid (kS_cell hk10 y3 (by have := HBW.out; omega))
      clear h10 hk10
      go_wp2_with fail
      refine hK.out _ _ (⟨HC0.out, HC1.out⟩) (fun hHeld => ?_)
      clear hK K
      try simp only [Act.put, List.setIfInBounds_toArray, List.set_cons_zero, List.set_cons_succ]
      refine wpAnyH_done (by kernel_rfl) ?_ _
      clear hHeld
      go_wp2_with fail
      exact ⟨⟨i + 1, _, _, by have := HLt.out; omega, by go_num, H10.out, HG.out.edit q s oxs, HV.out.edit HN.out.1 s oxs, (edit_nonneg (L := L) HN.out.1 s oxs).1, by have h5 := (edit_nonneg (L := L) HN.out.1 s oxs).2; have h6 := HN.out.2.1; omega⟩, by have := HLt.out; simp [intOf]; omega⟩
    by_cases k3 : k = 3
    case pos =>
      subst k3
      go_wp2_with (go_at_call 27; refine (HB.out.drop s HK.out.1 HN.out.1 (by have := HN.out; have := HI.out; omega)).mono ?_; rintro e w10 ⟨rfl, h10, hk10⟩; have H10 := Lib.hid h10; clear h10 hk10)
      exact ⟨⟨i + 1, _, _, by have := HLt.out; omega, by go_num, H10.out, HG.out.drop s, HV.out.drop s, (drop_nonneg (L := L) HN.out.1 s).1, by have h5 := (drop_nonneg (L := L) HN.out.1 s).2; have h6 := HN.out.2.1; omega⟩, by have := HLt.out; simp [intOf]; omega⟩
    have t1 : (k == 1) = false := by simpa using k1
    have t2 : (k == 2) = false := by simpa using k2
    have t3 : (k == 3) = false := by simpa using k3
    clear k1 k2 k3
    go_wp2_with fail
    exact ⟨⟨i + 1, L, q, by have := HLt.out; omega, by go_num, HB.out, HG.out, HV.out, HN.out.1, by have := HN.out.2.1; omega⟩, by have := HLt.out; simp [intOf]; omega⟩
end Go.Proofs.YtlgklkokadbpeaaDoor
