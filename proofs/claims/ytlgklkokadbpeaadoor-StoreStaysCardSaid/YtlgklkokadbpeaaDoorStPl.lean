import Derived.Test.YtlgklkokadbpeaaDoorStSu
import Derived.Test.YtlgklkokadbpeaaDoorStFw
import Derived.Test.YtlgklkokadbpeaaDoorStPv
namespace Go.Proofs.YtlgklkokadbpeaaDoor
open Go.RowKit Go.Maps Go.ChangeMaps Go.Sort
/-- What a call of a script leaves. -/
def stepL (L : List Fi) (n : Int) (o : OpD) : List Fi := if o.k = 1 then afterL L n o.n o.t else if o.k = 2 then editL L n o.n o.xs else if o.k = 3 then dropL L o.n else L
def stepN (L : List Fi) (n : Int) (o : OpD) : Int := if o.k = 1 then afterN L n o.n o.t else if o.k = 2 then editN L n o.n o.xs else if o.k = 3 then dropN L n o.n else n
theorem Good.step {L : List Fi} (h : Good L) (n : Int) (o : OpD) : Good (stepL L n o) := by
  unfold stepL
  split
  · exact h.put n _ _
  · split
    · exact h.edit n _ _
    · split
      · exact h.drop _
      · exact h
theorem step_nonneg {L : List Fi} {n : Int} (h : 0 ≤ n) (o : OpD) : 0 ≤ stepN L n o ∧ stepN L n o ≤ n + 1 := by
  unfold stepN
  split
  · exact after_nonneg h _ _
  · split
    · exact edit_nonneg h _ _
    · split
      · exact drop_nonneg h _
      · omega
theorem Vs.step {L : List Fi} {n : Int} (h : Vs L n) (hn : 0 ≤ n) (o : OpD) : Vs (stepL L n o) (stepN L n o) := by
  unfold stepL stepN
  split
  · exact h.put hn _ _
  · split
    · exact h.edit hn _ _
    · split
      · exact h.drop _
      · exact h
theorem OA.later {w w' : World} {A : Option Addr} {n d : Nat} {os : List OpD} (h : OA w A n d os) (hb : Go.RowKit.Below w.heap.size w w') : OA w' A n d os := by
  obtain ⟨h1, h2, h3⟩ := h
  refine ⟨h1, fun o ho => ⟨(h2 o ho).1, (h2 o ho).2.1, (h2 o ho).2.2.later hb⟩, ?_⟩
  rcases h3 with h3 | ⟨b, off, h4, h5, h6, hx⟩
  · exact .inl h3
  · exact .inr ⟨b, off, h4, h5, Nat.lt_of_lt_of_le h6 hb.size, fun i hi => ⟨cell_later hb (hx i hi).1, cell_later hb (hx i hi).2.1, cell_later hb (hx i hi).2.2.1, cell_later hb (hx i hi).2.2.2⟩⟩
def OpD.val (o : OpD) : Value := .agg #[.int .i64 o.k, .string o.n, .string o.t, .slice o.A o.m o.d]
theorem step_any {W0 W : World} {b b' : Nat} {L : List Fi} {n : Int} (h : Both W0 W b b' L n L n) (hg : Good L) (hn : 0 ≤ n) (hm : n ≤ 1000000000000) (o : OpD) (ho : OpOk W0 o) (hmm : o.m ≤ 1000000) :
    Calls Tryd.prog 18 #[.pointer (some ⟨b, 0, none⟩), .pointer (some ⟨b', 0, none⟩), o.val] W fun e w' => e = .returned (.bool true) ∧ Both W0 w' b b' (stepL L n o) (stepN L n o) (stepL L n o) (stepN L n o) := by
  obtain ⟨k, s, t, A, m, d, xs⟩ := o
  obtain ⟨h1, h2, h3⟩ := ho
  unfold OpD.val stepL stepN
  simp only at h1 h3 hmm ⊢
  by_cases k1 : k = 1
  · subst k1; simp only [if_true]; exact step_put h hg hn hm s t h1 A m d
  by_cases k2 : k = 2
  · subst k2; simp only [k1, if_true, if_false]; exact step_edit h hg hn hm s t h1 A m d h3 hmm
  by_cases k3 : k = 3
  · subst k3; simp only [k1, k2, if_true, if_false]; exact step_drop h hg hn hm s t h1 A m d
  simp only [k1, k2, k3, if_false]
  by_cases k4 : k = 4
  · subst k4; exact step_get h hg hn hm s t h1 A m d
  by_cases k5 : k = 5
  · subst k5; exact step_all h hg hn hm s t h1 A m d
  exact step_no h k k1 k2 k3 k4 k5 s t A m d
set_option maxRecDepth 100000 in
set_option maxHeartbeats 4000000 in
theorem plays_any (A : Option Addr) (n d : Nat) (os : List OpD) (w : World) (hT : Lib.Utf8Tabs 0 1 w) (h : OA w A n d os) :
    Calls Tryd.prog 3 #[.slice A n d] w fun e w' => e = .returned (.bool true) ∧ Below w.heap.size w w' := by
  have KA := Lib.hid (fun w1 (hb : Below w.heap.size w w1) => awake_true w1 (tabs_below hT hb))
  have KF := Lib.hid (fun w1 (hb : Below w.heap.size w w1) => few_any w1 A n d os (h.later hb))
  have HT := Lib.hid hT
  have HO := Lib.hid h
  clear hT h
  go_enter Tryd.func3, Tryd.ntmps3
  go_wp2_with fail
  refine (KA.out _ (Below.refl _ _)).mono ?_
  rintro e w1 ⟨rfl, hb1⟩
  go_wp2_with fail
  refine (KF.out _ hb1).mono ?_
  rintro e w2 ⟨⟨r, rfl, hr⟩, rfl⟩
  have HR := Lib.hid hr
  clear hr
  cases r with
  | false =>
    go_wp2_with fail
    refine (KA.out _ hb1).mono ?_
    rintro e w2 ⟨rfl, hb2⟩
    go_wp2_with fail
    go_ret
    exact ⟨rfl, hb1.trans (hb2.mono hb1.size)⟩
  | true =>
  have HR2 := Lib.hid (HR.out rfl)
  clear HR
  go_wp2_with fail
  refine (new_prog _).mono ?_
  rintro e w2 ⟨rfl, rfl⟩
  go_wp2_with fail
  have HB0 := Lib.hid (Both.start HT.out hb1)
  unfold zeroS zeroR at HB0
  have HB1 := Lib.hid hb1
  clear hb1
  go_loopw [5] (fun v wr => ∃ (i : Nat) (L : List Fi) (q : Int), i ≤ n ∧ v = .int .i64 i ∧ Both w wr w1.heap.size (w1.heap.size + 1) L q L q ∧ Good L ∧ 0 ≤ q ∧ q ≤ i) (fun v _ => n - (intOf v).toNat)
  case atStart => exact ⟨0, [], 0, by omega, rfl, HB0.out, Good.nil, by omega, by omega⟩
  case round =>
    obtain ⟨i, L, q, hi, rfl, hb, hg, hn, hni⟩ := hrel
    have hn2 := HR2.out.1
    have HB := Lib.hid hb
    have HBd := Lib.hid (hb.later (Below.drew (Below.refl _ _)))
    have HG := Lib.hid hg
    have HN := Lib.hid (And.intro hn (And.intro hni hn2))
    have HI := Lib.hid hi
    clear hb hg hn hni
    by_cases hlt : i < n
    case neg =>
      obtain rfl : i = n := by omega
      have tl : decide ((i : Int) < (i : Int)) = false := by simp
      obtain ⟨A0, c0, hr⟩ := HBd.out.rs
      have HR := Lib.hid hr
      have r0 := hr.c0
      clear hr hlt
      go_wp2_with fail
      refine wp_region_held_drew (S := (fun _ => True)) (by kernel_rfl) trivial (fun hHeld => ?_)
      refine wpAnyH_take (i := 0) (v := ?_) (show _ = some { dst := some 40, op := _, type := _, pos := _, after := _, guard := _ } from rfl) (by kernel_rfl) (by kernel_rfl) (by kernel_rfl) (fun _ _ _ h => h) (Or.inl ⟨by rfl, ?_⟩) hHeld ?_
      rotate_left
      · intro w' hSw
        (try dsimp only at hSw)
        go_simp
        try with_reducible rfl
      try simp only [Act.put, List.setIfInBounds_toArray, List.set_cons_zero, List.set_cons_succ]
      refine wpAnyH_take (i := 2) (v := ?_) (show _ = some { dst := some 42, op := _, type := _, pos := _, after := _, guard := _ } from rfl) (by kernel_rfl) (by kernel_rfl) (by kernel_rfl) (fun _ _ _ h => h) (Or.inl ⟨by rfl, ?_⟩) hHeld ?_
      rotate_left
      · intro w' hSw
        (try dsimp only at hSw)
        go_simp
        try with_reducible rfl
      try simp only [Act.put, List.setIfInBounds_toArray, List.set_cons_zero, List.set_cons_succ]
      refine wpAnyH_take (i := 3) (v := ?_) (show _ = some { dst := some 43, op := _, type := _, pos := _, after := _, guard := _ } from rfl) (by kernel_rfl) (by kernel_rfl) (by kernel_rfl) (fun _ _ _ h => h) (Or.inl ⟨by rfl, ?_⟩) hHeld ?_
      rotate_left
      · intro w' hSw
        (try dsimp only at hSw)
        go_simp
        try with_reducible rfl
      try simp only [Act.put, List.setIfInBounds_toArray, List.set_cons_zero, List.set_cons_succ]
      refine wpAnyH_take (i := 4) (v := ?_) (show _ = some { dst := some 44, op := _, type := _, pos := _, after := _, guard := _ } from rfl) (by kernel_rfl) (by kernel_rfl) (by kernel_rfl) (fun _ _ _ h => h) (Or.inl ⟨by rfl, ?_⟩) hHeld ?_
      rotate_left
      · intro w' hSw
        (try dsimp only at hSw)
        go_simp
        try with_reducible rfl
      try simp only [Act.put, List.setIfInBounds_toArray, List.set_cons_zero, List.set_cons_succ]
      refine wpAnyH_ready (rs := [1, 5]) (by kernel_rfl) (by simp) ?_
      refine AllReadyH.cons (show _ = some { dst := some 41, op := _, type := _, pos := _, after := _, guard := _ } from rfl) (fun K hK => ?_) (AllReadyH.cons (show _ = some { dst := some 45, op := _, type := _, pos := _, after := _, guard := _ } from rfl) (fun K hK => ?_) AllReadyH.nil)
      · go_simp
        refine (HBd.out.all HG.out).mono ?_
        rintro e w12 ⟨A', c, rfl, hrow, hb12⟩
        have HRow := Lib.hid hrow
        have H12 := Lib.hid (HBd.out.later hb12)
        have HR3 := Lib.hid (HR.out.later hb12)
        have r0' := HR3.out.c0
        clear hrow hb12
        go_wp2_with fail
        refine hK.out _ _ (trivial) (fun hHeld => ?_)
        clear hK K
        try simp only [Act.put, List.setIfInBounds_toArray, List.set_cons_zero, List.set_cons_succ]
        refine wpAnyH_ready (rs := [5]) (by kernel_rfl) (by simp) ?_
        refine AllReadyH.cons (show _ = some { dst := some 45, op := _, type := _, pos := _, after := _, guard := _ } from rfl) (fun K hK => ?_) AllReadyH.nil
        go_simp
        refine hK.out _ _ (trivial) (fun hHeld => ?_)
        clear hK K
        try simp only [Act.put, List.setIfInBounds_toArray, List.set_cons_zero, List.set_cons_succ]
        refine wpAnyH_ready (rs := [6]) (by kernel_rfl) (by simp) ?_
        refine AllReadyH.cons (show _ = some { dst := some 46, op := _, type := _, pos := _, after := _, guard := _ } from rfl) (fun K hK => ?_) AllReadyH.nil
        go_simp
        refine (same_any (show L.length ≤ 1000 by have := HG.out.len; omega) HRow.out HR3.out.own).mono ?_
        rintro e w13 ⟨rfl, hb13⟩
        have H13 := Lib.hid (H12.out.later hb13)
        clear hb13
        go_wp2_with fail
        refine hK.out _ _ (trivial) (fun hHeld => ?_)
        clear hK K
        try simp only [Act.put, List.setIfInBounds_toArray, List.set_cons_zero, List.set_cons_succ]
        refine wpAnyH_take (i := 7) (v := ?_) (show _ = some { dst := some 2, op := _, type := _, pos := _, after := _, guard := _ } from rfl) (by kernel_rfl) (by kernel_rfl) (by kernel_rfl) (fun _ _ _ h => h) (Or.inl ⟨by rfl, ?_⟩) hHeld ?_
        rotate_left
        · intro w' hSw
          (try dsimp only at hSw)
          go_simp
          try with_reducible rfl
        try simp only [Act.put, List.setIfInBounds_toArray, List.set_cons_zero, List.set_cons_succ]
        refine wpAnyH_done (by kernel_rfl) ?_ _
        clear hHeld
        go_wp2_with fail
        go_ret
        exact ⟨rfl, H13.out.below⟩
      · go_simp
        refine hK.out _ _ (trivial) (fun hHeld => ?_)
        clear hK K
        try simp only [Act.put, List.setIfInBounds_toArray, List.set_cons_zero, List.set_cons_succ]
        refine wpAnyH_ready (rs := [1]) (by kernel_rfl) (by simp) ?_
        refine AllReadyH.cons (show _ = some { dst := some 41, op := _, type := _, pos := _, after := _, guard := _ } from rfl) (fun K hK => ?_) AllReadyH.nil
        go_simp
        refine (HBd.out.all HG.out).mono ?_
        rintro e w12 ⟨A', c, rfl, hrow, hb12⟩
        have HRow := Lib.hid hrow
        have H12 := Lib.hid (HBd.out.later hb12)
        have HR3 := Lib.hid (HR.out.later hb12)
        have r0' := HR3.out.c0
        clear hrow hb12
        go_wp2_with fail
        refine hK.out _ _ (trivial) (fun hHeld => ?_)
        clear hK K
        try simp only [Act.put, List.setIfInBounds_toArray, List.set_cons_zero, List.set_cons_succ]
        refine wpAnyH_ready (rs := [6]) (by kernel_rfl) (by simp) ?_
        refine AllReadyH.cons (show _ = some { dst := some 46, op := _, type := _, pos := _, after := _, guard := _ } from rfl) (fun K hK => ?_) AllReadyH.nil
        go_simp
        refine (same_any (show L.length ≤ 1000 by have := HG.out.len; omega) HRow.out HR3.out.own).mono ?_
        rintro e w13 ⟨rfl, hb13⟩
        have H13 := Lib.hid (H12.out.later hb13)
        clear hb13
        go_wp2_with fail
        refine hK.out _ _ (trivial) (fun hHeld => ?_)
        clear hK K
        try simp only [Act.put, List.setIfInBounds_toArray, List.set_cons_zero, List.set_cons_succ]
        refine wpAnyH_take (i := 7) (v := ?_) (show _ = some { dst := some 2, op := _, type := _, pos := _, after := _, guard := _ } from rfl) (by kernel_rfl) (by kernel_rfl) (by kernel_rfl) (fun _ _ _ h => h) (Or.inl ⟨by rfl, ?_⟩) hHeld ?_
        rotate_left
        · intro w' hSw
          (try dsimp only at hSw)
          go_simp
          try with_reducible rfl
        try simp only [Act.put, List.setIfInBounds_toArray, List.set_cons_zero, List.set_cons_succ]
        refine wpAnyH_done (by kernel_rfl) ?_ _
        clear hHeld
        go_wp2_with fail
        go_ret
        exact ⟨rfl, H13.out.below⟩
    obtain ⟨h1, h2, h3⟩ := HO.out
    rcases h3 with h3 | ⟨b, off, rfl, hnd, hbl, hat⟩
    · omega
    obtain ⟨x0, x1, x2, x3⟩ := hat i (by omega)
    have ok := h2 (os[i]'(by omega)) (List.getElem_mem _)
    have hmm := HR2.out.2 (os[i]'(by omega)) (List.getElem_mem _)
    generalize os[i]'(by omega) = o at *
    have hbw := HB.out.below
    have y0 := drew_cell (cell_later hbw x0)
    have y1 := drew_cell (cell_later hbw x1)
    have y2 := drew_cell (cell_later hbw x2)
    have y3 := drew_cell (cell_later hbw x3)
    have HK := Lib.hid (And.intro ok hmm)
    have HLt := Lib.hid hlt
    have tl : decide ((i : Int) < (n : Int)) = true := by simp; omega
    clear h2 hat x0 x1 x2 x3 ok hmm hbw h1
    go_wp2_with fail
    refine wp_region_held_drew (S := (fun _ => True)) (by kernel_rfl) trivial (fun hHeld => ?_)
    refine wpAnyH_take (i := 0) (v := ?_) (show _ = some { dst := some 23, op := _, type := _, pos := _, after := _, guard := _ } from rfl) (by kernel_rfl) (by kernel_rfl) (by kernel_rfl) (fun _ _ _ h => h) (Or.inl ⟨by rfl, ?_⟩) hHeld ?_
    rotate_left
    · intro w' hSw
      (try dsimp only at hSw)
      go_simp
      try with_reducible rfl
    try simp only [Act.put, List.setIfInBounds_toArray, List.set_cons_zero, List.set_cons_succ]
    refine wpAnyH_take (i := 1) (v := ?_) (show _ = some { dst := some 24, op := _, type := _, pos := _, after := _, guard := _ } from rfl) (by kernel_rfl) (by kernel_rfl) (by kernel_rfl) (fun _ _ _ h => h) (Or.inl ⟨by rfl, ?_⟩) hHeld ?_
    rotate_left
    · intro w' hSw
      (try dsimp only at hSw)
      go_simp
      try with_reducible rfl
    try simp only [Act.put, List.setIfInBounds_toArray, List.set_cons_zero, List.set_cons_succ]
    refine wpAnyH_take (i := 2) (v := ?_) (show _ = some { dst := some 25, op := _, type := _, pos := _, after := _, guard := _ } from rfl) (by kernel_rfl) (by kernel_rfl) (by kernel_rfl) (fun _ _ _ h => h) (Or.inl ⟨by rfl, ?_⟩) hHeld ?_
    rotate_left
    · intro w' hSw
      (try dsimp only at hSw)
      go_simp
      try with_reducible rfl
    try simp only [Act.put, List.setIfInBounds_toArray, List.set_cons_zero, List.set_cons_succ]
    refine wpAnyH_take (i := 3) (v := ?_) (show _ = some { dst := some 26, op := _, type := _, pos := _, after := _, guard := _ } from rfl) (by kernel_rfl) (by kernel_rfl) (by kernel_rfl) (fun _ _ _ h => h) (Or.inl ⟨by rfl, ?_⟩) hHeld ?_
    rotate_left
    · intro w' hSw
      (try dsimp only at hSw)
      go_simp
      try with_reducible rfl
    try simp only [Act.put, List.setIfInBounds_toArray, List.set_cons_zero, List.set_cons_succ]
    refine wpAnyH_take (i := 4) (v := ?_) (show _ = some { dst := some 27, op := _, type := _, pos := _, after := _, guard := _ } from rfl) (by kernel_rfl) (by kernel_rfl) (by kernel_rfl) (fun _ _ _ h => h) (Or.inl ⟨by rfl, ?_⟩) hHeld ?_
    rotate_left
    · intro w' hSw
      (try dsimp only at hSw)
      go_simp
      try with_reducible rfl
    try simp only [Act.put, List.setIfInBounds_toArray, List.set_cons_zero, List.set_cons_succ]
    refine wpAnyH_ready (rs := [5]) (by kernel_rfl) (by simp) ?_
    refine AllReadyH.cons (show _ = some { dst := some 28, op := _, type := _, pos := _, after := _, guard := _ } from rfl) (fun K hK => ?_) AllReadyH.nil
    go_simp
    refine hK.out _ _ (trivial) (fun hHeld => ?_)
    clear hK K
    try simp only [Act.put, List.setIfInBounds_toArray, List.set_cons_zero, List.set_cons_succ]
    refine wpAnyH_ready (rs := [6]) (by kernel_rfl) (by simp) ?_
    refine AllReadyH.cons (show _ = some { dst := some 29, op := _, type := _, pos := _, after := _, guard := _ } from rfl) (fun K hK => ?_) AllReadyH.nil
    go_simp
    refine (step_any HBd.out HG.out HN.out.1 (by have := HN.out; have := HI.out; omega) o HK.out.1 (by have := HK.out.2; omega)).mono ?_
    rintro e w10 ⟨rfl, h10⟩
    have H10 := Lib.hid h10
    obtain ⟨A', c', hr⟩ := h10.rs
    have HR := Lib.hid hr
    have r0 := hr.c0
    have r1 := hr.c1
    clear h10 hr
    go_wp2_with fail
    refine hK.out _ _ (trivial) (fun hHeld => ?_)
    clear hK K
    try simp only [Act.put, List.setIfInBounds_toArray, List.set_cons_zero, List.set_cons_succ]
    refine wpAnyH_take (i := 7) (v := ?_) (show _ = some { dst := some 30, op := _, type := _, pos := _, after := _, guard := _ } from rfl) (by kernel_rfl) (by kernel_rfl) (by kernel_rfl) (fun _ _ _ h => h) (Or.inl ⟨by rfl, ?_⟩) hHeld ?_
    rotate_left
    · intro w' hSw
      (try dsimp only at hSw)
      go_simp
      try with_reducible rfl
    try simp only [Act.put, List.setIfInBounds_toArray, List.set_cons_zero, List.set_cons_succ]
    refine wpAnyH_take (i := 8) (v := ?_) (show _ = some { dst := some 31, op := _, type := _, pos := _, after := _, guard := _ } from rfl) (by kernel_rfl) (by kernel_rfl) (by kernel_rfl) (fun _ _ _ h => h) (Or.inl ⟨by rfl, ?_⟩) hHeld ?_
    rotate_left
    · intro w' hSw
      (try dsimp only at hSw)
      go_simp
      try with_reducible rfl
    try simp only [Act.put, List.setIfInBounds_toArray, List.set_cons_zero, List.set_cons_succ]
    refine wpAnyH_take (i := 9) (v := ?_) (show _ = some { dst := some 32, op := _, type := _, pos := _, after := _, guard := _ } from rfl) (by kernel_rfl) (by kernel_rfl) (by kernel_rfl) (fun _ _ _ h => h) (Or.inl ⟨by rfl, ?_⟩) hHeld ?_
    rotate_left
    · intro w' hSw
      (try dsimp only at hSw)
      go_simp
      try with_reducible rfl
    try simp only [Act.put, List.setIfInBounds_toArray, List.set_cons_zero, List.set_cons_succ]
    refine wpAnyH_take (i := 11) (v := ?_) (show _ = some { dst := some 34, op := _, type := _, pos := _, after := _, guard := _ } from rfl) (by kernel_rfl) (by kernel_rfl) (by kernel_rfl) (fun _ _ _ h => h) (Or.inl ⟨by rfl, ?_⟩) hHeld ?_
    rotate_left
    · intro w' hSw
      (try dsimp only at hSw)
      go_simp
      try with_reducible rfl
    try simp only [Act.put, List.setIfInBounds_toArray, List.set_cons_zero, List.set_cons_succ]
    refine wpAnyH_take (i := 12) (v := ?_) (show _ = some { dst := some 35, op := _, type := _, pos := _, after := _, guard := _ } from rfl) (by kernel_rfl) (by kernel_rfl) (by kernel_rfl) (fun _ _ _ h => h) (Or.inl ⟨by rfl, ?_⟩) hHeld ?_
    rotate_left
    · intro w' hSw
      (try dsimp only at hSw)
      go_simp
      try with_reducible rfl
    try simp only [Act.put, List.setIfInBounds_toArray, List.set_cons_zero, List.set_cons_succ]
    refine wpAnyH_take (i := 13) (v := ?_) (show _ = some { dst := some 36, op := _, type := _, pos := _, after := _, guard := _ } from rfl) (by kernel_rfl) (by kernel_rfl) (by kernel_rfl) (fun _ _ _ h => h) (Or.inl ⟨by rfl, ?_⟩) hHeld ?_
    rotate_left
    · intro w' hSw
      (try dsimp only at hSw)
      go_simp
      try with_reducible rfl
    try simp only [Act.put, List.setIfInBounds_toArray, List.set_cons_zero, List.set_cons_succ]
    refine wpAnyH_ready (rs := [10, 14]) (by kernel_rfl) (by simp) ?_
    refine AllReadyH.cons (show _ = some { dst := some 33, op := _, type := _, pos := _, after := _, guard := _ } from rfl) (fun K hK => ?_) (AllReadyH.cons (show _ = some { dst := some 37, op := _, type := _, pos := _, after := _, guard := _ } from rfl) (fun K hK => ?_) AllReadyH.nil)
    · go_simp
      refine (rev_any H10.out.st).mono ?_
      rintro e w11 ⟨rfl, hb11⟩
      have H11 := Lib.hid (H10.out.later hb11)
      have HR3 := Lib.hid (HR.out.later hb11)
      have r2 := HR3.out.c1
      clear hb11
      go_wp2_with fail
      refine hK.out _ _ (trivial) (fun hHeld => ?_)
      clear hK K
      try simp only [Act.put, List.setIfInBounds_toArray, List.set_cons_zero, List.set_cons_succ]
      refine wpAnyH_ready (rs := [14]) (by kernel_rfl) (by simp) ?_
      refine AllReadyH.cons (show _ = some { dst := some 37, op := _, type := _, pos := _, after := _, guard := _ } from rfl) (fun K hK => ?_) AllReadyH.nil
      go_simp
      refine hK.out _ _ (trivial) (fun hHeld => ?_)
      clear hK K
      try simp only [Act.put, List.setIfInBounds_toArray, List.set_cons_zero, List.set_cons_succ]
      refine wpAnyH_take (i := 15) (v := ?_) (show _ = some { dst := some 38, op := _, type := _, pos := _, after := _, guard := _ } from rfl) (by kernel_rfl) (by kernel_rfl) (by kernel_rfl) (fun _ _ _ h => h) (Or.inl ⟨by rfl, ?_⟩) hHeld ?_
      rotate_left
      · intro w' hSw
        (try dsimp only at hSw)
        go_simp
        try with_reducible rfl
      try simp only [Act.put, List.setIfInBounds_toArray, List.set_cons_zero, List.set_cons_succ]
      refine wpAnyH_take (i := 16) (v := ?_) (show _ = some { dst := some 39, op := _, type := _, pos := _, after := _, guard := _ } from rfl) (by kernel_rfl) (by kernel_rfl) (by kernel_rfl) (fun _ _ _ h => h) (Or.inl ⟨by rfl, ?_⟩) hHeld ?_
      rotate_left
      · intro w' hSw
        (try dsimp only at hSw)
        go_simp
        try with_reducible rfl
      try simp only [Act.put, List.setIfInBounds_toArray, List.set_cons_zero, List.set_cons_succ]
      refine wpAnyH_done (by kernel_rfl) ?_ _
      clear hHeld
      go_wp2_with fail
      have h5 := step_nonneg (L := L) HN.out.1 o
      exact ⟨⟨i + 1, _, _, by have := HLt.out; omega, by go_num, H11.out, HG.out.step q o, h5.1, by have := HN.out.2.1; omega⟩, by have := HLt.out; simp [intOf]; omega⟩
    · go_simp
      refine hK.out _ _ (trivial) (fun hHeld => ?_)
      clear hK K
      try simp only [Act.put, List.setIfInBounds_toArray, List.set_cons_zero, List.set_cons_succ]
      refine wpAnyH_ready (rs := [10]) (by kernel_rfl) (by simp) ?_
      refine AllReadyH.cons (show _ = some { dst := some 33, op := _, type := _, pos := _, after := _, guard := _ } from rfl) (fun K hK => ?_) AllReadyH.nil
      go_simp
      refine (rev_any H10.out.st).mono ?_
      rintro e w11 ⟨rfl, hb11⟩
      have H11 := Lib.hid (H10.out.later hb11)
      have HR3 := Lib.hid (HR.out.later hb11)
      have r2 := HR3.out.c1
      clear hb11
      go_wp2_with fail
      refine hK.out _ _ (trivial) (fun hHeld => ?_)
      clear hK K
      try simp only [Act.put, List.setIfInBounds_toArray, List.set_cons_zero, List.set_cons_succ]
      refine wpAnyH_take (i := 15) (v := ?_) (show _ = some { dst := some 38, op := _, type := _, pos := _, after := _, guard := _ } from rfl) (by kernel_rfl) (by kernel_rfl) (by kernel_rfl) (fun _ _ _ h => h) (Or.inl ⟨by rfl, ?_⟩) hHeld ?_
      rotate_left
      · intro w' hSw
        (try dsimp only at hSw)
        go_simp
        try with_reducible rfl
      try simp only [Act.put, List.setIfInBounds_toArray, List.set_cons_zero, List.set_cons_succ]
      refine wpAnyH_take (i := 16) (v := ?_) (show _ = some { dst := some 39, op := _, type := _, pos := _, after := _, guard := _ } from rfl) (by kernel_rfl) (by kernel_rfl) (by kernel_rfl) (fun _ _ _ h => h) (Or.inl ⟨by rfl, ?_⟩) hHeld ?_
      rotate_left
      · intro w' hSw
        (try dsimp only at hSw)
        go_simp
        try with_reducible rfl
      try simp only [Act.put, List.setIfInBounds_toArray, List.set_cons_zero, List.set_cons_succ]
      refine wpAnyH_done (by kernel_rfl) ?_ _
      clear hHeld
      go_wp2_with fail
      have h5 := step_nonneg (L := L) HN.out.1 o
      exact ⟨⟨i + 1, _, _, by have := HLt.out; omega, by go_num, H11.out, HG.out.step q o, h5.1, by have := HN.out.2.1; omega⟩, by have := HLt.out; simp [intOf]; omega⟩
end Go.Proofs.YtlgklkokadbpeaaDoor
