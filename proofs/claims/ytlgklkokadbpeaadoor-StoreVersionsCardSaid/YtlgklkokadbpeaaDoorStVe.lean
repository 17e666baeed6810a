import Derived.Test.YtlgklkokadbpeaaDoorStOn
import Derived.Deep.CutBlock
namespace Go.Proofs.YtlgklkokadbpeaaDoor
open Go.RowKit Go.Maps Go.ChangeMaps Go.Sort
theorem row_at2 {W : World} {B : Nat} {ad : Addr} {c : Nat} {L : List Fi} (h : W.ownsRow B 45 3 (.slice (some ad) L.length c) L.length (flat3 L)) {j : Nat} {f : Fi} (hj : L[j]? = some f) : W.cell? (ad.add (j * 3)) = some (.string f.n) ∧ W.cell? ⟨(ad.add (j * 3)).block, (ad.add (j * 3)).off + 1, none⟩ = some (.string f.t) ∧ W.cell? ⟨(ad.add (j * 3)).block, (ad.add (j * 3)).off + 2, none⟩ = some (.int .i64 f.v) := by
  obtain ⟨ad', he, h1⟩ := row_at h hj
  injection he with he
  subst he
  exact h1
theorem bdn {B : Nat} {w w' : World} (h : Go.RowKit.Below B w w') (n : Nat) : Go.RowKit.Below B w (w'.drewN n) := h.trans ⟨rfl, rfl, rfl, Nat.le_refl _, fun _ _ => rfl⟩
theorem rise_lt {L : List Fi} (h : Rise L) {j k : Nat} (hjk : j < k) {f g : Fi} (hf : L[j]? = some f) (hg : L[k]? = some g) : nm f < nm g := by
  unfold Rise at h
  rw [List.pairwise_iff_getElem] at h
  obtain ⟨hj, rfl⟩ := List.getElem?_eq_some_iff.1 hf
  obtain ⟨hk, rfl⟩ := List.getElem?_eq_some_iff.1 hg
  have := h j k (by simpa using hj) (by simpa using hk) hjk
  simpa using this
theorem Vs.apart {L : List Fi} {n : Int} (h : Vs L n) {j k : Nat} (hjk : j < k) {f g : Fi} (hf : L[j]? = some f) (hg : L[k]? = some g) : f.v ≠ g.v := by
  have hp := h.ne
  rw [List.pairwise_iff_getElem] at hp
  obtain ⟨hj, rfl⟩ := List.getElem?_eq_some_iff.1 hf
  obtain ⟨hk, rfl⟩ := List.getElem?_eq_some_iff.1 hg
  exact hp j k hj hk hjk
theorem put_moves (L : List Fi) (q : Int) (s t : ByteArray) : (afterN L q s t = q ∨ afterN L q s t = q + 1) ∧ (afterN L q s t = q + 1 → putE L s t = 0) := by
  refine ⟨by unfold afterN; split <;> simp, fun h => ?_⟩
  by_cases he : putE L s t = 0
  · exact he
  · rw [(put_bad he).2] at h; omega
theorem edit_moves (L : List Fi) (q : Int) (s : ByteArray) (xs : List EditD) : (editN L q s xs = q ∨ editN L q s xs = q + 1) ∧ (editN L q s xs = q + 1 → editE L s xs = 0) := by
  refine ⟨?_, fun h => ?_⟩
  · unfold editN
    split
    · simp
    · split
      · exact (put_moves L q s _).1
      · simp
  · by_cases he : editE L s xs = 0
    · exact he
    · rw [edit_bad_n he] at h; omega
theorem drop_moves (L : List Fi) (q : Int) (s : ByteArray) : (dropN L q s = q ∨ dropN L q s = q + 1) ∧ (dropN L q s = q + 1 → dropE L s = 0) := by
  unfold dropN dropE
  split <;> simp <;> omega
set_option maxRecDepth 100000 in
set_option maxHeartbeats 4000000 in
theorem versions_any (A : Option Addr) (n d : Nat) (os : List OpD) (w : World) (hT : Lib.Utf8Tabs 0 1 w) (h : OA w A n d os) :
    Calls Tryd.prog 6 #[.slice A n d] w fun e w' => e = .returned (.bool true) ∧ Below w.heap.size w w' := by
  have KA := Lib.hid (fun w1 (hb : Below w.heap.size w w1) => awake_true w1 (tabs_below hT hb))
  have KF := Lib.hid (fun w1 (hb : Below w.heap.size w w1) => few_any w1 A n d os (h.later hb))
  have HT := Lib.hid hT
  have HO := Lib.hid h
  clear hT h
  go_enter Tryd.func6, Tryd.ntmps6
  go_wp2_with fail
  refine (KA.out _ (Below.refl _ _)).mono ?_
  rintro e w1 ⟨rfl, hb1⟩
  go_wp2_with fail
  refine (KF.out _ hb1).mono ?_
  rintro e w2 ⟨⟨r, rfl, hr⟩, rfl⟩
  have HR := Lib.hid hr
  clear hr
  cases r with
  | false =>
    go_wp2_with fail
    refine (KA.out _ hb1).mono ?_
    rintro e w2 ⟨rfl, hb2⟩
    go_wp2_with fail
    go_ret
    exact ⟨rfl, hb1.trans (hb2.mono hb1.size)⟩
  | true =>
  have HR2 := Lib.hid (HR.out rfl)
  clear HR
  by_cases hn3 : 300 < n
  case pos =>
    have t3 : decide ((300 : Int) < (n : Int)) = true := by simp; omega
    go_wp2_with fail
    refine (KA.out _ hb1).mono ?_
    rintro e w2 ⟨rfl, hb2⟩
    go_wp2_with fail
    go_ret
    exact ⟨rfl, hb1.trans (hb2.mono hb1.size)⟩
  have t3 : decide ((300 : Int) < (n : Int)) = false := by simp; omega
  go_wp2_with fail
  refine (new_prog _).mono ?_
  rintro e w2 ⟨rfl, rfl⟩
  go_wp2_with fail
  have HB0 := Lib.hid (One.start HT.out hb1)
  unfold zeroS at HB0
  have HB1 := Lib.hid hb1
  clear hb1 t3
  go_loopw [4] (fun v wr => ∃ (i : Nat) (L : List Fi) (q : Int), i ≤ n ∧ v = .int .i64 i ∧ One w wr w1.heap.size L q ∧ Good L ∧ Vs L q ∧ 0 ≤ q ∧ q ≤ i) (fun v _ => n - (intOf v).toNat)
  case atStart => exact ⟨0, [], 0, by omega, rfl, HB0.out, Good.nil, Vs.nil, by omega, by omega⟩
  case round =>
    obtain ⟨i, L, q, hi, rfl, hb, hg, hv, hn, hni⟩ := hrel
    have hn2 := HR2.out.1
    have HBd := Lib.hid (hb.later (Below.drew (Below.refl _ _)))
    have HB := Lib.hid hb
    have HG := Lib.hid hg
    have HV := Lib.hid hv
    have HN := Lib.hid (And.intro hn (And.intro hni hn2))
    have HI := Lib.hid hi
    clear hb hg hv hn hni
    by_cases hlt : i < n
    case neg =>
      obtain rfl : i = n := by omega
      have tl : decide ((i : Int) < (i : Int)) = false := by simp
      have HBf := Lib.hid HB.out.below
      clear hlt
      go_wp2_with fail
      go_ret
      exact ⟨rfl, HBf.out⟩
    obtain ⟨h1, h2, h3⟩ := HO.out
    rcases h3 with h3 | ⟨b, off, rfl, hnd, hbl, hat⟩
    · omega
    obtain ⟨x0, x1, x2, x3⟩ := hat i (by omega)
    have ok := h2 (os[i]'(by omega)) (List.getElem_mem _)
    have hmm := HR2.out.2 (os[i]'(by omega)) (List.getElem_mem _)
    generalize os[i]'(by omega) = o at *
    obtain ⟨k, s, t, oA, om, od, oxs⟩ := o
    have hbw := HB.out.below
    have z0 := cell_later hbw x0
    have z1 := cell_later hbw x1
    have z2 := cell_later hbw x2
    have z3 := cell_later hbw x3
    have y0 := drew_cell z0
    have y1 := drew_cell z1
    have y2 := drew_cell z2
    have y3 := drew_cell z3
    simp only at y0 y1 y2 y3 z0 z1 z2 z3 hmm
    unfold OpOk at ok
    simp only at ok
    have HK := Lib.hid ok
    have HMM := Lib.hid hmm
    have HBW : Hid (b ≠ w1.heap.size) := Lib.hid (by have := HB1.out.size; omega)
    have HLt := Lib.hid hlt
    have tl : decide ((i : Int) < (n : Int)) = true := by simp; omega
    clear h2 hat x0 x1 x2 x3 ok hmm hbw h1
    go_wp2_with fail
    refine (rev_any HB.out.st).mono ?_
    rintro e w3 ⟨rfl, hb3⟩
    have HB3 := Lib.hid (HB.out.later hb3)
    have z0' := cell_later hb3 z0
    have z1' := cell_later hb3 z1
    have z2' := cell_later hb3 z2
    have z3' := cell_later hb3 z3
    have y0' := drew_cell z0'
    have y1' := drew_cell z1'
    have y2' := drew_cell z2'
    have y3' := drew_cell z3'
    have HBd3 := Lib.hid (HB3.out.later (Below.drew (Below.refl _ _)))
    have q0 : 0 ≤ q := HN.out.1
    have qs : q ≤ 200000 := by have := HN.out.2.1; have := HN.out.2.2; omega
    clear z0 z1 z2 z3 y0 y1 y2 y3 hb3
    go_upto_block 2 with fail
    go_cut [6] from 25 to 151 (fun e wx => ∃ (L2 : List Fi) (q2 E : Int), e = .int .i64 E ∧ One w wx w1.heap.size L2 q2 ∧ Good L2 ∧ Vs L2 q2 ∧ (q2 = q ∨ q2 = q + 1) ∧ (q2 = q + 1 → E = 0))
    case first =>
      by_cases k1 : k = 1
      case pos =>
        subst k1
        go_wp2_with fail
        refine wp_region_held_drew (S := (fun w' => w'.cell? ⟨b, off + i * 4 + 1, none⟩ = some (.string s) ∧ w'.cell? ⟨b, off + i * 4 + 2, none⟩ = some (.string t))) (by kernel_rfl) ⟨y1', y2'⟩ (fun hHeld => ?_)
        refine wpAnyH_take (i := 0) (v := ?_) (show _ = some { dst := some 40, op := _, type := _, pos := _, after := _, guard := _ } from rfl) (by kernel_rfl) (by kernel_rfl) (by kernel_rfl) (fun _ _ _ h => h) (Or.inl ⟨by rfl, ?_⟩) hHeld ?_
        rotate_left
        · intro w' hSw
          (try dsimp only at hSw)
          go_simp
          try with_reducible rfl
        try simp only [Act.put, List.setIfInBounds_toArray, List.set_cons_zero, List.set_cons_succ]
        refine wpAnyH_take (i := 1) (v := ?_) (show _ = some { dst := some 41, op := _, type := _, pos := _, after := _, guard := _ } from rfl) (by kernel_rfl) (by kernel_rfl) (by kernel_rfl) (fun _ _ _ h => h) (Or.inl ⟨by rfl, ?_⟩) hHeld ?_
        rotate_left
        · intro w' hSw
          (try dsimp only at hSw)
          go_simp
          try with_reducible rfl
        try simp only [Act.put, List.setIfInBounds_toArray, List.set_cons_zero, List.set_cons_succ]
        refine wpAnyH_take (i := 2) (v := ?_) (show _ = some { dst := some 42, op := _, type := _, pos := _, after := _, guard := _ } from rfl) (by kernel_rfl) (by kernel_rfl) (by kernel_rfl) (fun _ _ _ h => h) (Or.inl ⟨by rfl, ?_⟩) hHeld ?_
        rotate_left
        · intro w' hSw
          (try dsimp only at hSw)
          go_simp
          try with_reducible rfl
        try simp only [Act.put, List.setIfInBounds_toArray, List.set_cons_zero, List.set_cons_succ]
        refine wpAnyH_take (i := 3) (v := ?_) (show _ = some { dst := some 43, op := _, type := _, pos := _, after := _, guard := _ } from rfl) (by kernel_rfl) (by kernel_rfl) (by kernel_rfl) (fun _ _ _ h => h) (Or.inl ⟨by rfl, ?_⟩) hHeld ?_
        rotate_left
        · intro w' hSw
          (try dsimp only at hSw)
          go_simp
          try with_reducible rfl
        try simp only [Act.put, List.setIfInBounds_toArray, List.set_cons_zero, List.set_cons_succ]
        refine wpAnyH_take (i := 4) (v := ?_) (show _ = some { dst := some 44, op := _, type := _, pos := _, after := _, guard := _ } from rfl) (by kernel_rfl) (by kernel_rfl) (by kernel_rfl) (fun _ _ _ h => h) (Or.inl ⟨by rfl, ?_⟩) hHeld ?_
        rotate_left
        · intro w' hSw
          (try dsimp only at hSw)
          go_simp
          try with_reducible rfl
        try simp only [Act.put, List.setIfInBounds_toArray, List.set_cons_zero, List.set_cons_succ]
        refine wpAnyH_take (i := 5) (v := ?_) (show _ = some { dst := some 45, op := _, type := _, pos := _, after := _, guard := _ } from rfl) (by kernel_rfl) (by kernel_rfl) (by kernel_rfl) (fun _ _ _ h => h) (Or.inl ⟨by rfl, ?_⟩) hHeld ?_
        rotate_left
        · intro w' hSw
          (try dsimp only at hSw)
          go_simp
          try with_reducible rfl
        try simp only [Act.put, List.setIfInBounds_toArray, List.set_cons_zero, List.set_cons_succ]
        refine wpAnyH_take (i := 6) (v := ?_) (show _ = some { dst := some 46, op := _, type := _, pos := _, after := _, guard := _ } from rfl) (by kernel_rfl) (by kernel_rfl) (by kernel_rfl) (fun _ _ _ h => h) (Or.inl ⟨by rfl, ?_⟩) hHeld ?_
        rotate_left
        · intro w' hSw
          (try dsimp only at hSw)
          go_simp
          try with_reducible rfl
        try simp only [Act.put, List.setIfInBounds_toArray, List.set_cons_zero, List.set_cons_succ]
        refine wpAnyH_take (i := 7) (v := ?_) (show _ = some { dst := some 47, op := _, type := _, pos := _, after := _, guard := _ } from rfl) (by kernel_rfl) (by kernel_rfl) (by kernel_rfl) (fun _ _ _ h => h) (Or.inl ⟨by rfl, ?_⟩) hHeld ?_
        rotate_left
        · intro w' hSw
          (try dsimp only at hSw)
          go_simp
          try with_reducible rfl
        try simp only [Act.put, List.setIfInBounds_toArray, List.set_cons_zero, List.set_cons_succ]
        refine wpAnyH_take (i := 8) (v := ?_) (show _ = some { dst := some 48, op := _, type := _, pos := _, after := _, guard := _ } from rfl) (by kernel_rfl) (by kernel_rfl) (by kernel_rfl) (fun _ _ _ h => h) (Or.inl ⟨by rfl, ?_⟩) hHeld ?_
        rotate_left
        · intro w' hSw
          (try dsimp only at hSw)
          go_simp
          try with_reducible rfl
        try simp only [Act.put, List.setIfInBounds_toArray, List.set_cons_zero, List.set_cons_succ]
        refine wpAnyH_take (i := 9) (v := ?_) (show _ = some { dst := some 49, op := _, type := _, pos := _, after := _, guard := _ } from rfl) (by kernel_rfl) (by kernel_rfl) (by kernel_rfl) (fun _ _ _ h => h) (Or.inl ⟨by rfl, ?_⟩) hHeld ?_
        rotate_left
        · intro w' hSw
          (try dsimp only at hSw)
          go_simp
          try with_reducible rfl
        try simp only [Act.put, List.setIfInBounds_toArray, List.set_cons_zero, List.set_cons_succ]
        refine wpAnyH_take (i := 10) (v := ?_) (show _ = some { dst := some 50, op := _, type := _, pos := _, after := _, guard := _ } from rfl) (by kernel_rfl) (by kernel_rfl) (by kernel_rfl) (fun _ _ _ h => h) (Or.inl ⟨by rfl, ?_⟩) hHeld ?_
        rotate_left
        · intro w' hSw
          (try dsimp only at hSw)
          go_simp
          try with_reducible rfl
        try simp only [Act.put, List.setIfInBounds_toArray, List.set_cons_zero, List.set_cons_succ]
        refine wpAnyH_ready (rs := [11]) (by kernel_rfl) (by simp) ?_
        refine AllReadyH.cons (show _ = some { dst := some 51, op := _, type := _, pos := _, after := _, guard := _ } from rfl) (fun K hK => ?_) AllReadyH.nil
        go_simp
        refine (HBd3.out.put HG.out s t HK.out.1 HN.out.1 (by have := HN.out; have := HI.out; omega)).mono ?_
        rintro e w10 ⟨rfl, h10, hk10⟩
        have H10 := Lib.hid h10
        have HC0 := Lib.hid (kS_cell hk10 y1' (by have := HBW.out; omega))
        have HC1 := Lib.hid (kS_cell hk10 y2' (by have := HBW.out; omega))
        clear h10 hk10
        go_wp2_with fail
        refine hK.out _ _ (⟨HC0.out, HC1.out⟩) (fun hHeld => ?_)
        clear hK K
        try simp only [Act.put, List.setIfInBounds_toArray, List.set_cons_zero, List.set_cons_succ]
        refine wpAnyH_take (i := 12) (v := ?_) (show _ = some { dst := some 6, op := _, type := _, pos := _, after := _, guard := _ } from rfl) (by kernel_rfl) (by kernel_rfl) (by kernel_rfl) (fun _ _ _ h => h) (Or.inl ⟨by rfl, ?_⟩) hHeld ?_
        rotate_left
        · intro w' hSw
          (try dsimp only at hSw)
          go_simp
          try with_reducible rfl
        try simp only [Act.put, List.setIfInBounds_toArray, List.set_cons_zero, List.set_cons_succ]
        refine wpAnyH_done (by kernel_rfl) ?_ _
        clear hHeld
        go_wp2_with fail
        go_meet
        exact ⟨_, _, _, rfl, H10.out, HG.out.put q s t, HV.out.put HN.out.1 s t, (put_moves L q s t).1, (put_moves L q s t).2⟩
      by_cases k2 : k = 2
      case pos =>
        subst k2
        go_wp2_with fail
        refine wp_region_held_drew (S := (fun w' => w'.cell? ⟨b, off + i * 4 + 1, none⟩ = some (.string s) ∧ w'.cell? ⟨b, off + i * 4 + 3, none⟩ = some (.slice oA om od))) (by kernel_rfl) ⟨y1', y3'⟩ (fun hHeld => ?_)
        refine wpAnyH_take (i := 0) (v := ?_) (show _ = some { dst := some 54, op := _, type := _, pos := _, after := _, guard := _ } from rfl) (by kernel_rfl) (by kernel_rfl) (by kernel_rfl) (fun _ _ _ h => h) (Or.inl ⟨by rfl, ?_⟩) hHeld ?_
        rotate_left
        · intro w' hSw
          (try dsimp only at hSw)
          go_simp
          try with_reducible rfl
        try simp only [Act.put, List.setIfInBounds_toArray, List.set_cons_zero, List.set_cons_succ]
        refine wpAnyH_take (i := 1) (v := ?_) (show _ = some { dst := some 55, op := _, type := _, pos := _, after := _, guard := _ } from rfl) (by kernel_rfl) (by kernel_rfl) (by kernel_rfl) (fun _ _ _ h => h) (Or.inl ⟨by rfl, ?_⟩) hHeld ?_
        rotate_left
        · intro w' hSw
          (try dsimp only at hSw)
          go_simp
          try with_reducible rfl
        try simp only [Act.put, List.setIfInBounds_toArray, List.set_cons_zero, List.set_cons_succ]
        refine wpAnyH_take (i := 2) (v := ?_) (show _ = some { dst := some 56, op := _, type := _, pos := _, after := _, guard := _ } from rfl) (by kernel_rfl) (by kernel_rfl) (by kernel_rfl) (fun _ _ _ h => h) (Or.inl ⟨by rfl, ?_⟩) hHeld ?_
        rotate_left
        · intro w' hSw
          (try dsimp only at hSw)
          go_simp
          try with_reducible rfl
        try simp only [Act.put, List.setIfInBounds_toArray, List.set_cons_zero, List.set_cons_succ]
        refine wpAnyH_take (i := 3) (v := ?_) (show _ = some { dst := some 57, op := _, type := _, pos := _, after := _, guard := _ } from rfl) (by kernel_rfl) (by kernel_rfl) (by kernel_rfl) (fun _ _ _ h => h) (Or.inl ⟨by rfl, ?_⟩) hHeld ?_
        rotate_left
        · intro w' hSw
          (try dsimp only at hSw)
          go_simp
          try with_reducible rfl
        try simp only [Act.put, List.setIfInBounds_toArray, List.set_cons_zero, List.set_cons_succ]
        refine wpAnyH_take (i := 4) (v := ?_) (show _ = some { dst := some 58, op := _, type := _, pos := _, after := _, guard := _ } from rfl) (by kernel_rfl) (by kernel_rfl) (by kernel_rfl) (fun _ _ _ h => h) (Or.inl ⟨by rfl, ?_⟩) hHeld ?_
        rotate_left
        · intro w' hSw
          (try dsimp only at hSw)
          go_simp
          try with_reducible rfl
        try simp only [Act.put, List.setIfInBounds_toArray, List.set_cons_zero, List.set_cons_succ]
        refine wpAnyH_take (i := 5) (v := ?_) (show _ = some { dst := some 59, op := _, type := _, pos := _, after := _, guard := _ } from rfl) (by kernel_rfl) (by kernel_rfl) (by kernel_rfl) (fun _ _ _ h => h) (Or.inl ⟨by rfl, ?_⟩) hHeld ?_
        rotate_left
        · intro w' hSw
          (try dsimp only at hSw)
          go_simp
          try with_reducible rfl
        try simp only [Act.put, List.setIfInBounds_toArray, List.set_cons_zero, List.set_cons_succ]
        refine wpAnyH_take (i := 6) (v := ?_) (show _ = some { dst := some 60, op := _, type := _, pos := _, after := _, guard := _ } from rfl) (by kernel_rfl) (by kernel_rfl) (by kernel_rfl) (fun _ _ _ h => h) (Or.inl ⟨by rfl, ?_⟩) hHeld ?_
        rotate_left
        · intro w' hSw
          (try dsimp only at hSw)
          go_simp
          try with_reducible rfl
        try simp only [Act.put, List.setIfInBounds_toArray, List.set_cons_zero, List.set_cons_succ]
        refine wpAnyH_take (i := 7) (v := ?_) (show _ = some { dst := some 61, op := _, type := _, pos := _, after := _, guard := _ } from rfl) (by kernel_rfl) (by kernel_rfl) (by kernel_rfl) (fun _ _ _ h => h) (Or.inl ⟨by rfl, ?_⟩) hHeld ?_
        rotate_left
        · intro w' hSw
          (try dsimp only at hSw)
          go_simp
          try with_reducible rfl
        try simp only [Act.put, List.setIfInBounds_toArray, List.set_cons_zero, List.set_cons_succ]
        refine wpAnyH_take (i := 8) (v := ?_) (show _ = some { dst := some 62, op := _, type := _, pos := _, after := _, guard := _ } from rfl) (by kernel_rfl) (by kernel_rfl) (by kernel_rfl) (fun _ _ _ h => h) (Or.inl ⟨by rfl, ?_⟩) hHeld ?_
        rotate_left
        · intro w' hSw
          (try dsimp only at hSw)
          go_simp
          try with_reducible rfl
        try simp only [Act.put, List.setIfInBounds_toArray, List.set_cons_zero, List.set_cons_succ]
        refine wpAnyH_take (i := 9) (v := ?_) (show _ = some { dst := some 63, op := _, type := _, pos := _, after := _, guard := _ } from rfl) (by kernel_rfl) (by kernel_rfl) (by kernel_rfl) (fun _ _ _ h => h) (Or.inl ⟨by rfl, ?_⟩) hHeld ?_
        rotate_left
        · intro w' hSw
          (try dsimp only at hSw)
          go_simp
          try with_reducible rfl
        try simp only [Act.put, List.setIfInBounds_toArray, List.set_cons_zero, List.set_cons_succ]
        refine wpAnyH_take (i := 10) (v := ?_) (show _ = some { dst := some 64, op := _, type := _, pos := _, after := _, guard := _ } from rfl) (by kernel_rfl) (by kernel_rfl) (by kernel_rfl) (fun _ _ _ h => h) (Or.inl ⟨by rfl, ?_⟩) hHeld ?_
        rotate_left
        · intro w' hSw
          (try dsimp only at hSw)
          go_simp
          try with_reducible rfl
        try simp only [Act.put, List.setIfInBounds_toArray, List.set_cons_zero, List.set_cons_succ]
        refine wpAnyH_ready (rs := [11]) (by kernel_rfl) (by simp) ?_
        refine AllReadyH.cons (show _ = some { dst := some 65, op := _, type := _, pos := _, after := _, guard := _ } from rfl) (fun K hK => ?_) AllReadyH.nil
        go_simp
        refine (HBd3.out.edit HG.out s HK.out.1 (HK.out.2.2.later HBd3.out.below) (by have := HMM.out; omega) HN.out.1 (by have := HN.out; have := HI.out; omega)).mono ?_
        rintro e w10 ⟨rfl, h10, hk10⟩
        have H10 := Lib.hid h10
        have HC0 := Lib.hid (kS_cell hk10 y1' (by have := HBW.out; omega))
        have HC1 := Lib.hid (kS_cell hk10 y3' (by have := HBW.out; omega))
        clear h10 hk10
        go_wp2_with fail
        refine hK.out _ _ (⟨HC0.out, HC1.out⟩) (fun hHeld => ?_)
        clear hK K
        try simp only [Act.put, List.setIfInBounds_toArray, List.set_cons_zero, List.set_cons_succ]
        refine wpAnyH_take (i := 12) (v := ?_) (show _ = some { dst := some 6, op := _, type := _, pos := _, after := _, guard := _ } from rfl) (by kernel_rfl) (by kernel_rfl) (by kernel_rfl) (fun _ _ _ h => h) (Or.inl ⟨by rfl, ?_⟩) hHeld ?_
        rotate_left
        · intro w' hSw
          (try dsimp only at hSw)
          go_simp
          try with_reducible rfl
        try simp only [Act.put, List.setIfInBounds_toArray, List.set_cons_zero, List.set_cons_succ]
        refine wpAnyH_done (by kernel_rfl) ?_ _
        clear hHeld
        go_wp2_with fail
        go_meet
        exact ⟨_, _, _, rfl, H10.out, HG.out.edit q s oxs, HV.out.edit HN.out.1 s oxs, (edit_moves L q s oxs).1, (edit_moves L q s oxs).2⟩
      by_cases k3 : k = 3
      case pos =>
        subst k3
        go_wp2_with fail
        refine (HB3.out.drop s HK.out.1 HN.out.1 (by have := HN.out; have := HI.out; omega)).mono ?_
        rintro e w10 ⟨rfl, h10, hk10⟩
        have H10 := Lib.hid h10
        clear h10 hk10
        go_wp2_with fail
        go_meet
        exact ⟨_, _, _, rfl, H10.out, HG.out.drop s, HV.out.drop s, (drop_moves L q s).1, (drop_moves L q s).2⟩
      have t1 : (k == 1) = false := by simpa using k1
      have t2 : (k == 2) = false := by simpa using k2
      have t3 : (k == 3) = false := by simpa using k3
      clear k1 k2 k3
      go_wp2_with fail
      go_meet
      exact ⟨L, q, 0, rfl, HB3.out, HG.out, HV.out, .inl rfl, fun _ => rfl⟩
    case rest =>
      obtain ⟨L2, q2, E, rfl, h10, hg2, hv2, hq2⟩ := hcut
      have H10 := Lib.hid h10
      have HG2 := Lib.hid hg2
      have HV2 := Lib.hid hv2
      have HQ2 := Lib.hid hq2
      clear h10 hg2 hv2 hq2 z0' z1' z2' z3' y0' y1' y2' y3'
      go_wp2_with fail
      refine (rev_any H10.out.st).mono ?_
      rintro e w11 ⟨rfl, hb11⟩
      have H11 := Lib.hid (H10.out.later hb11)
      clear hb11
      rcases HQ2.out.1 with hq | hq
      · subst hq
        by_cases hE0 : E = 0
        · subst hE0
          go_wp2_with fail
          refine (H11.out.all HG2.out).mono ?_
          rintro e w12 ⟨A2, c2, rfl, hrow, hb12⟩
          have HRow := Lib.hid hrow
          have H12 := Lib.hid (H11.out.later hb12)
          have hl64 : L2.length ≤ 64 := HG2.out.len
          clear hrow hb12
          go_wp2_with fail
          go_loopw [9] (fun v wr => ∃ k : Nat, k ≤ L2.length ∧ v = .int .i64 k ∧ Below w12.heap.size w12 wr) (fun v _ => L2.length - (intOf v).toNat)
          case atStart => exact ⟨0, by omega, rfl, Below.refl _ _⟩
          case round =>
            obtain ⟨k, hk, rfl, hB⟩ := hrel
            by_cases hlt2 : k < L2.length
            case neg =>
              obtain rfl : k = L2.length := by omega
              have tk : decide ((L2.length : Int) < (L2.length : Int)) = false := by simp
              have HE := Lib.hid (H12.out.later hB)
              clear hB hlt2
              go_wp2_with fail
              exact ⟨⟨i + 1, L2, q2, by have := HLt.out; omega, by go_num, HE.out, HG2.out, HV2.out, by omega, by have := HN.out.2.1; omega⟩, by have := HLt.out; simp [intOf]; omega⟩
            obtain ⟨f, hf⟩ : ∃ f, L2[k]? = some f := ⟨L2[k], by simp [hlt2]⟩
            have hpos := HV2.out.pos f (List.mem_of_getElem? hf)
            obtain ⟨ad, rfl, c0, c1, c2⟩ := row_at (own_later3 HRow.out hB) hf
            have hVA := Lib.hid (fun (j : Nat) (hjk : j < k) (g : Fi) (hg : L2[j]? = some g) => HV2.out.apart hjk hg hf)
            have hRL := Lib.hid (fun (j : Nat) (hjk : j < k) (g : Fi) (hg : L2[j]? = some g) => rise_lt HG2.out.rise hjk hg hf)
            have HF := Lib.hid hf
            obtain ⟨fn, ft, fv⟩ := f
            simp only at c0 c1 c2 hpos hVA
            unfold nm at hRL
            simp only at hRL
            have tk : decide ((k : Int) < (L2.length : Int)) = true := by simp; omega
            have tk2 : (k : Int) < (L2.length : Int) := by omega
            have v1 : decide (fv < 1) = false := by simp; omega
            have v2 : decide (q2 < fv) = false := by simp; omega
            have HBk := Lib.hid hB
            cases k with
            | zero =>
              have ha0 : ad.add (0 * 3) = ad := by simp [Addr.add]
              rw [ha0] at c0 c1 c2
              have tz : decide ((0 : Int) < ((0 : Nat) : Int)) = false := by simp
              have tz2 : decide ((0 : Int) < (0 : Int)) = false := by simp
              have tz3 : decide ((0 : Int) < (L2.length : Int)) = true := by simp; omega
              clear hB hf hpos
              go_wp2_with fail
              go_quiet (fail)
              go_wp2_with fail
              refine wp_loop_rounds 1 ?_
              rw [rounds_succ]
              go_wp2_with fail
              exact ⟨⟨1, by omega, by go_num, bdn HBk.out _⟩, by simp [intOf]; omega⟩
            | succ k =>
              obtain ⟨g, hg⟩ : ∃ g, L2[k]? = some g := ⟨L2[k], by simp⟩
              have hlt3 := hRL.out k (by omega) g hg
              obtain ⟨d0, d1, d2⟩ := row_at2 (own_later3 HRow.out hB) hg
              obtain ⟨gn, gt, gv⟩ := g
              simp only at d0 d1 d2 hlt3
              have tn : Op.bytesLess gn.toList fn.toList = true := by rw [bytesLess_eq, ByteArray.toList_eq, ByteArray.toList_eq]; exact decide_eq_true hlt3
              clear hB hf hpos hg hlt3
              go_wp2_with fail
              go_quiet (fail)
              go_wp2_with fail
              go_loopw [10] (fun v wr => ∃ j : Nat, j ≤ k + 1 ∧ v = .int .i64 j ∧ Below w12.heap.size w12 wr) (fun v _ => k + 1 - (intOf v).toNat)
              case atStart => exact ⟨0, by omega, rfl, bdn HBk.out _⟩
              case round =>
                obtain ⟨j, hj, rfl, hB2⟩ := hrel
                have HBj := Lib.hid hB2
                by_cases hjk : j < k + 1
                case neg =>
                  obtain rfl : j = k + 1 := by omega
                  have tj : decide (((k + 1 : Nat) : Int) < ((k + 1 : Nat) : Int)) = false := by simp
                  have tj2 : decide ((k : Int) + 1 < (k : Int) + 1) = false := by simp
                  clear hB2 hjk
                  go_wp2_with fail
                  exact ⟨⟨k + 1 + 1, by omega, by go_num, HBj.out⟩, by simp [intOf]; omega⟩
                obtain ⟨e, he⟩ : ∃ e, L2[j]? = some e := ⟨L2[j]'(by omega), by simp⟩
                have hve := hVA.out j hjk e he
                obtain ⟨g0, g1, g2⟩ := row_at2 (own_later3 HRow.out hB2) he
                obtain ⟨x0, x1, x2⟩ := row_at2 (own_later3 HRow.out hB2) HF.out
                obtain ⟨en, et, ev⟩ := e
                simp only at g0 g1 g2 hve x0 x1 x2
                have tv : (ev == fv) = false := by simpa using hve
                have tj : decide ((j : Int) < ((k + 1 : Nat) : Int)) = true := by simp; omega
                have tj2 : decide ((j : Int) < (k : Int) + 1) = true := by simp; omega
                have tj3 : (j : Int) < (L2.length : Int) := by omega
                clear hB2 he hve c0 c1 c2 d0 d1 d2
                go_wp2_with fail
                go_quiet (fail)
                go_wp2_with fail
                exact ⟨⟨j + 1, by omega, by go_num, bdn HBj.out _⟩, by simp [intOf]; omega⟩
        · have tE : (E != 0) = true := by simpa using hE0
          go_wp2_with fail
          refine (H11.out.all HG2.out).mono ?_
          rintro e w12 ⟨A2, c2, rfl, hrow, hb12⟩
          have HRow := Lib.hid hrow
          have H12 := Lib.hid (H11.out.later hb12)
          have hl64 : L2.length ≤ 64 := HG2.out.len
          clear hrow hb12
          go_wp2_with fail
          go_loopw [9] (fun v wr => ∃ k : Nat, k ≤ L2.length ∧ v = .int .i64 k ∧ Below w12.heap.size w12 wr) (fun v _ => L2.length - (intOf v).toNat)
          case atStart => exact ⟨0, by omega, rfl, Below.refl _ _⟩
          case round =>
            obtain ⟨k, hk, rfl, hB⟩ := hrel
            by_cases hlt2 : k < L2.length
            case neg =>
              obtain rfl : k = L2.length := by omega
              have tk : decide ((L2.length : Int) < (L2.length : Int)) = false := by simp
              have HE := Lib.hid (H12.out.later hB)
              clear hB hlt2
              go_wp2_with fail
              exact ⟨⟨i + 1, L2, q2, by have := HLt.out; omega, by go_num, HE.out, HG2.out, HV2.out, by omega, by have := HN.out.2.1; omega⟩, by have := HLt.out; simp [intOf]; omega⟩
            obtain ⟨f, hf⟩ : ∃ f, L2[k]? = some f := ⟨L2[k], by simp [hlt2]⟩
            have hpos := HV2.out.pos f (List.mem_of_getElem? hf)
            obtain ⟨ad, rfl, c0, c1, c2⟩ := row_at (own_later3 HRow.out hB) hf
            have hVA := Lib.hid (fun (j : Nat) (hjk : j < k) (g : Fi) (hg : L2[j]? = some g) => HV2.out.apart hjk hg hf)
            have hRL := Lib.hid (fun (j : Nat) (hjk : j < k) (g : Fi) (hg : L2[j]? = some g) => rise_lt HG2.out.rise hjk hg hf)
            have HF := Lib.hid hf
            obtain ⟨fn, ft, fv⟩ := f
            simp only at c0 c1 c2 hpos hVA
            unfold nm at hRL
            simp only at hRL
            have tk : decide ((k : Int) < (L2.length : Int)) = true := by simp; omega
            have tk2 : (k : Int) < (L2.length : Int) := by omega
            have v1 : decide (fv < 1) = false := by simp; omega
            have v2 : decide (q2 < fv) = false := by simp; omega
            have HBk := Lib.hid hB
            cases k with
            | zero =>
              have ha0 : ad.add (0 * 3) = ad := by simp [Addr.add]
              rw [ha0] at c0 c1 c2
              have tz : decide ((0 : Int) < ((0 : Nat) : Int)) = false := by simp
              have tz2 : decide ((0 : Int) < (0 : Int)) = false := by simp
              have tz3 : decide ((0 : Int) < (L2.length : Int)) = true := by simp; omega
              clear hB hf hpos
              go_wp2_with fail
              go_quiet (fail)
              go_wp2_with fail
              refine wp_loop_rounds 1 ?_
              rw [rounds_succ]
              go_wp2_with fail
              exact ⟨⟨1, by omega, by go_num, bdn HBk.out _⟩, by simp [intOf]; omega⟩
            | succ k =>
              obtain ⟨g, hg⟩ : ∃ g, L2[k]? = some g := ⟨L2[k], by simp⟩
              have hlt3 := hRL.out k (by omega) g hg
              obtain ⟨d0, d1, d2⟩ := row_at2 (own_later3 HRow.out hB) hg
              obtain ⟨gn, gt, gv⟩ := g
              simp only at d0 d1 d2 hlt3
              have tn : Op.bytesLess gn.toList fn.toList = true := by rw [bytesLess_eq, ByteArray.toList_eq, ByteArray.toList_eq]; exact decide_eq_true hlt3
              clear hB hf hpos hg hlt3
              go_wp2_with fail
              go_quiet (fail)
              go_wp2_with fail
              go_loopw [10] (fun v wr => ∃ j : Nat, j ≤ k + 1 ∧ v = .int .i64 j ∧ Below w12.heap.size w12 wr) (fun v _ => k + 1 - (intOf v).toNat)
              case atStart => exact ⟨0, by omega, rfl, bdn HBk.out _⟩
              case round =>
                obtain ⟨j, hj, rfl, hB2⟩ := hrel
                have HBj := Lib.hid hB2
                by_cases hjk : j < k + 1
                case neg =>
                  obtain rfl : j = k + 1 := by omega
                  have tj : decide (((k + 1 : Nat) : Int) < ((k + 1 : Nat) : Int)) = false := by simp
                  have tj2 : decide ((k : Int) + 1 < (k : Int) + 1) = false := by simp
                  clear hB2 hjk
                  go_wp2_with fail
                  exact ⟨⟨k + 1 + 1, by omega, by go_num, HBj.out⟩, by simp [intOf]; omega⟩
                obtain ⟨e, he⟩ : ∃ e, L2[j]? = some e := ⟨L2[j]'(by omega), by simp⟩
                have hve := hVA.out j hjk e he
                obtain ⟨g0, g1, g2⟩ := row_at2 (own_later3 HRow.out hB2) he
                obtain ⟨x0, x1, x2⟩ := row_at2 (own_later3 HRow.out hB2) HF.out
                obtain ⟨en, et, ev⟩ := e
                simp only at g0 g1 g2 hve x0 x1 x2
                have tv : (ev == fv) = false := by simpa using hve
                have tj : decide ((j : Int) < ((k + 1 : Nat) : Int)) = true := by simp; omega
                have tj2 : decide ((j : Int) < (k : Int) + 1) = true := by simp; omega
                have tj3 : (j : Int) < (L2.length : Int) := by omega
                clear hB2 he hve c0 c1 c2 d0 d1 d2
                go_wp2_with fail
                go_quiet (fail)
                go_wp2_with fail
                exact ⟨⟨j + 1, by omega, by go_num, bdn HBj.out _⟩, by simp [intOf]; omega⟩
      · obtain rfl : E = 0 := HQ2.out.2 hq
        subst hq
        have tq : ((q + 1 : Int) != q) = true := by simp; omega
        go_wp2_with fail
        refine (H11.out.all HG2.out).mono ?_
        rintro e w12 ⟨A2, c2, rfl, hrow, hb12⟩
        have HRow := Lib.hid hrow
        have H12 := Lib.hid (H11.out.later hb12)
        have hl64 : L2.length ≤ 64 := HG2.out.len
        clear hrow hb12
        go_wp2_with fail
        go_loopw [9] (fun v wr => ∃ k : Nat, k ≤ L2.length ∧ v = .int .i64 k ∧ Below w12.heap.size w12 wr) (fun v _ => L2.length - (intOf v).toNat)
        case atStart => exact ⟨0, by omega, rfl, Below.refl _ _⟩
        case round =>
          obtain ⟨k, hk, rfl, hB⟩ := hrel
          by_cases hlt2 : k < L2.length
          case neg =>
            obtain rfl : k = L2.length := by omega
            have tk : decide ((L2.length : Int) < (L2.length : Int)) = false := by simp
            have HE := Lib.hid (H12.out.later hB)
            clear hB hlt2
            go_wp2_with fail
            exact ⟨⟨i + 1, L2, (q + 1), by have := HLt.out; omega, by go_num, HE.out, HG2.out, HV2.out, by omega, by have := HN.out.2.1; omega⟩, by have := HLt.out; simp [intOf]; omega⟩
          obtain ⟨f, hf⟩ : ∃ f, L2[k]? = some f := ⟨L2[k], by simp [hlt2]⟩
          have hpos := HV2.out.pos f (List.mem_of_getElem? hf)
          obtain ⟨ad, rfl, c0, c1, c2⟩ := row_at (own_later3 HRow.out hB) hf
          have hVA := Lib.hid (fun (j : Nat) (hjk : j < k) (g : Fi) (hg : L2[j]? = some g) => HV2.out.apart hjk hg hf)
          have hRL := Lib.hid (fun (j : Nat) (hjk : j < k) (g : Fi) (hg : L2[j]? = some g) => rise_lt HG2.out.rise hjk hg hf)
          have HF := Lib.hid hf
          obtain ⟨fn, ft, fv⟩ := f
          simp only at c0 c1 c2 hpos hVA
          unfold nm at hRL
          simp only at hRL
          have tk : decide ((k : Int) < (L2.length : Int)) = true := by simp; omega
          have tk2 : (k : Int) < (L2.length : Int) := by omega
          have v1 : decide (fv < 1) = false := by simp; omega
          have v2 : decide ((q + 1) < fv) = false := by simp; omega
          have HBk := Lib.hid hB
          cases k with
          | zero =>
            have ha0 : ad.add (0 * 3) = ad := by simp [Addr.add]
            rw [ha0] at c0 c1 c2
            have tz : decide ((0 : Int) < ((0 : Nat) : Int)) = false := by simp
            have tz2 : decide ((0 : Int) < (0 : Int)) = false := by simp
            have tz3 : decide ((0 : Int) < (L2.length : Int)) = true := by simp; omega
            clear hB hf hpos
            go_wp2_with fail
            go_quiet (fail)
            go_wp2_with fail
            refine wp_loop_rounds 1 ?_
            rw [rounds_succ]
            go_wp2_with fail
            exact ⟨⟨1, by omega, by go_num, bdn HBk.out _⟩, by simp [intOf]; omega⟩
          | succ k =>
            obtain ⟨g, hg⟩ : ∃ g, L2[k]? = some g := ⟨L2[k], by simp⟩
            have hlt3 := hRL.out k (by omega) g hg
            obtain ⟨d0, d1, d2⟩ := row_at2 (own_later3 HRow.out hB) hg
            obtain ⟨gn, gt, gv⟩ := g
            simp only at d0 d1 d2 hlt3
            have tn : Op.bytesLess gn.toList fn.toList = true := by rw [bytesLess_eq, ByteArray.toList_eq, ByteArray.toList_eq]; exact decide_eq_true hlt3
            clear hB hf hpos hg hlt3
            go_wp2_with fail
            go_quiet (fail)
            go_wp2_with fail
            go_loopw [10] (fun v wr => ∃ j : Nat, j ≤ k + 1 ∧ v = .int .i64 j ∧ Below w12.heap.size w12 wr) (fun v _ => k + 1 - (intOf v).toNat)
            case atStart => exact ⟨0, by omega, rfl, bdn HBk.out _⟩
            case round =>
              obtain ⟨j, hj, rfl, hB2⟩ := hrel
              have HBj := Lib.hid hB2
              by_cases hjk : j < k + 1
              case neg =>
                obtain rfl : j = k + 1 := by omega
                have tj : decide (((k + 1 : Nat) : Int) < ((k + 1 : Nat) : Int)) = false := by simp
                have tj2 : decide ((k : Int) + 1 < (k : Int) + 1) = false := by simp
                clear hB2 hjk
                go_wp2_with fail
                exact ⟨⟨k + 1 + 1, by omega, by go_num, HBj.out⟩, by simp [intOf]; omega⟩
              obtain ⟨e, he⟩ : ∃ e, L2[j]? = some e := ⟨L2[j]'(by omega), by simp⟩
              have hve := hVA.out j hjk e he
              obtain ⟨g0, g1, g2⟩ := row_at2 (own_later3 HRow.out hB2) he
              obtain ⟨x0, x1, x2⟩ := row_at2 (own_later3 HRow.out hB2) HF.out
              obtain ⟨en, et, ev⟩ := e
              simp only at g0 g1 g2 hve x0 x1 x2
              have tv : (ev == fv) = false := by simpa using hve
              have tj : decide ((j : Int) < ((k + 1 : Nat) : Int)) = true := by simp; omega
              have tj2 : decide ((j : Int) < (k : Int) + 1) = true := by simp; omega
              have tj3 : (j : Int) < (L2.length : Int) := by omega
              clear hB2 he hve c0 c1 c2 d0 d1 d2
              go_wp2_with fail
              go_quiet (fail)
              go_wp2_with fail
              exact ⟨⟨j + 1, by omega, by go_num, bdn HBj.out _⟩, by simp [intOf]; omega⟩
end Go.Proofs.YtlgklkokadbpeaaDoor
