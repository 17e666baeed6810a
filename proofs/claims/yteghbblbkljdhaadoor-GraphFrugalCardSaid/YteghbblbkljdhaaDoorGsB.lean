import Derived.Test.YteghbblbkljdhaaDoorGsA
import Derived.LoopTactic
import Derived.BigQuiet
namespace Go.Proofs.YteghbblbkljdhaaDoor
open Go.RowKit
/-- The inputs, behind the first calls of a script. -/
def setsN (l : List Rule) (os : List OpD) : Nat → Env
  | 0 => newE l
  | i + 1 => match os[i]? with | some x => if x.k = 1 then setsE (setsN l os i) x.n x.t else setsN l os i | none => setsN l os i
theorem setsN_set {l : List Rule} {os : List OpD} {i : Nat} {x : OpD} (h : os[i]? = some x) (hk : x.k = 1) : setsN l os (i + 1) = setsE (setsN l os i) x.n x.t := by simp [setsN, h, hk]
theorem setsN_ask {l : List Rule} {os : List OpD} {i : Nat} {x : OpD} (h : os[i]? = some x) (hk : x.k ≠ 1) : setsN l os (i + 1) = setsN l os i := by simp [setsN, h, hk]
theorem setsE_rules (E : Env) (n t : ByteArray) : (setsE E n t).rules = E.rules := by unfold setsE; split <;> rfl
theorem setsN_rules (l : List Rule) (os : List OpD) : ∀ i, (setsN l os i).rules = l
  | 0 => rfl
  | i + 1 => by
    have ih := setsN_rules l os i
    unfold setsN
    split
    · split
      · rw [setsE_rules, ih]
      · exact ih
    · exact ih
theorem Own.other {W W1 W2 : World} {F F2 : Nat → Prop} (h : Own W F W1) (h2 : Own W F2 W2) : Own W F W2 := ⟨h2.below, h.own⟩
/-- Two graphs in one memory. -/
structure Two (L1 : Lay) (E1 : Env) (s1 : St) (av1 : Nat → Value) (c1 : Nat) (L2 : Lay) (E2 : Env) (s2 : St) (av2 : Nat → Value) (c2 : Nat) (W w : World) : Prop where
  g1 : Gr L1 E1 s1 av1 c1 w
  g2 : Gr L2 E2 s2 av2 c2 w
  o1 : Own W (FootI L1 E1.rules.length av1) w
  o2 : Own W (FootI L2 E2.rules.length av2) w
  d1 : ∀ k, AllB L1 E1 av1 k → ¬ FootI L2 E2.rules.length av2 k
  d2 : ∀ k, AllB L2 E2 av2 k → ¬ FootI L1 E1.rules.length av1 k
theorem Two.later {L1 : Lay} {E1 : Env} {s1 : St} {av1 : Nat → Value} {c1 : Nat} {L2 : Lay} {E2 : Env} {s2 : St} {av2 : Nat → Value} {c2 : Nat} {W w w' : World} (h : Two L1 E1 s1 av1 c1 L2 E2 s2 av2 c2 W w) (hb : Below w.heap.size w w') : Two L1 E1 s1 av1 c1 L2 E2 s2 av2 c2 W w' :=
  ⟨h.g1.later hb, h.g2.later hb, h.o1.later hb, h.o2.later hb, h.d1, h.d2⟩
theorem Two.step2 {L1 : Lay} {E1 : Env} {s1 : St} {av1 : Nat → Value} {c1 : Nat} {L2 : Lay} {E2 : Env} {s2 : St} {av2 : Nat → Value} {c2 : Nat} {W w w' : World} (h : Two L1 E1 s1 av1 c1 L2 E2 s2 av2 c2 W w) {L2' : Lay} {E2' : Env} {s2' : St} {av2' : Nat → Value} {c2' : Nat} (hg : Gr L2' E2' s2' av2' c2' w') (hs : Stp L2 E2 av2 L2' E2' av2' w w') : Two L1 E1 s1 av1 c1 L2' E2' s2' av2' c2' W w' := by
  obtain ⟨h1, h2⟩ := h.g1.apart hs.fi h.d1
  have ho := h.o2.step hs.fi
  exact ⟨h1, hg, h.o1.other ho, ho, h2, hs.sep (fun k hk => h.g1.lt (.inl hk)) h.d2⟩
theorem Two.step1 {L1 : Lay} {E1 : Env} {s1 : St} {av1 : Nat → Value} {c1 : Nat} {L2 : Lay} {E2 : Env} {s2 : St} {av2 : Nat → Value} {c2 : Nat} {W w w' : World} (h : Two L1 E1 s1 av1 c1 L2 E2 s2 av2 c2 W w) {L1' : Lay} {E1' : Env} {s1' : St} {av1' : Nat → Value} {c1' : Nat} (hg : Gr L1' E1' s1' av1' c1' w') (hs : Stp L1 E1 av1 L1' E1' av1' w w') : Two L1' E1' s1' av1' c1' L2 E2 s2 av2 c2 W w' := by
  obtain ⟨h1, h2⟩ := h.g2.apart hs.fi h.d2
  have ho := h.o1.step hs.fi
  exact ⟨hg, h1, ho, h.o2.other ho, hs.sep (fun k hk => h.g2.lt (.inl hk)) h.d1, h2⟩
/-- A new graph beside an old one. -/
theorem Two.new {L1 : Lay} {E1 : Env} {s1 : St} {av1 : Nat → Value} {c1 : Nat} {W w w' : World} (h : Gr L1 E1 s1 av1 c1 w) (ho : Own W (FootI L1 E1.rules.length av1) w) (hT : ∀ k, Table k → k < W.heap.size) {l : List Rule} {L : Lay} (hP : NewP l L w w') (hb : Below w.heap.size w w') : Two L1 E1 s1 av1 c1 L (newE l) st0 avN 0 W w' := by
  have hf : ∀ k, FootI L (newE l).rules.length avN k → w.heap.size ≤ k := fun k hk => by
    rcases hk with hk | hk
    · exact hP.foot k hk
    · rw [hP.I] at hk; cases hk
  refine ⟨h.later hb, hP.gr, ho.later hb, hP.own ho.below hb, fun k hk hk2 => ?_, fun k hk hk2 => ?_⟩
  · have := h.lt2 hk; have := hf k hk2; omega
  · have h1 := h.lt (.inl hk2)
    rcases hk with hk | hk
    · have := hf k (.inl hk); omega
    · rcases hP.stat k hk with h2 | h2
      · omega
      · have := ho.own k hk2; have := hT k h2; omega
theorem nil_no (x : Nat) (w : World) : (binOp .eql 26 (.pointer (some ⟨x, 0, none⟩)) (.pointer none)).run Tryd.prog w = .ok (.bool false) w := by kernel_rfl
theorem nil_yes (w : World) : (binOp .eql 26 (.pointer none) (.pointer none)).run Tryd.prog w = .ok (.bool true) w := by kernel_rfl
theorem strs_same (a : ByteArray) : (a.toList != a.toList) = false := by simp
theorem op_at {w : World} {b o m : Nat} {os : List OpD} (h : OA w (some ⟨b, o, none⟩) m os) {i : Nat} {z : OpD} (hz : os[i]? = some z) : w.cell? ⟨b, o + i * 3, none⟩ = some (.int .i64 z.k) ∧ w.cell? ⟨b, o + i * 3 + 1, none⟩ = some (.string z.n) ∧ w.cell? ⟨b, o + i * 3 + 2, none⟩ = some (.string z.t) := by
  obtain ⟨_, _, b2, o2, h1, h2⟩ := h
  have hne : os ≠ [] := fun e => by rw [e] at hz; simp at hz
  have e := h1 hne
  injection e with e
  injection e with e1 e2
  subst e1 e2
  exact h2 i z hz
theorem OA.some {w : World} {a0 : Option Addr} {m : Nat} {os : List OpD} (h : OA w a0 m os) {i : Nat} (hi : i < m) : ∃ b o, a0 = Option.some ⟨b, o, none⟩ := by
  obtain ⟨h0, _, b2, o2, h1, h2⟩ := h
  exact ⟨b2, o2, h1 (fun e => by rw [e] at h0; simp at h0; omega)⟩
theorem new_ra {W wx : World} {a0 : Option Addr} {n cap : Nat} {l : List Rule} (hT : TabG W) (hTl : ∀ k, Table k → k < W.heap.size) (hR : RA W a0 n l) (hb : Below W.heap.size W wx) (hs : RSize l) : Calls Tryd.prog 14 #[.slice a0 n cap] wx (NewPost l wx) := by
  obtain ⟨h1, _, b, o, A, c, h3, h4⟩ := hR.later hb
  subst h1
  exact new_any (tab_keep hT fun g hg => hb.block g (hTl g hg)) (fun k hk => Nat.lt_of_lt_of_le (hTl k hk) hb.size) h3 h4 hs
set_option maxRecDepth 100000 in
set_option maxHeartbeats 16000000 in
theorem fresh_walk {W : World} {a0 a1 : Option Addr} {n m c0 c1 : Nat} {l : List Rule} {os : List OpD} (hT : TabG W) (hTl : ∀ k, Table k → k < W.heap.size) (hR : RA W a0 n l) (hO : OA W a1 m os) :
    Calls Tryd.prog 3 #[.slice a0 n c0, .slice a1 m c1] W fun e W' => e = .returned (.bool true) ∧ Below W.heap.size W W' := by
  have AW := Lib.hid (fun wx (hb : Below W.heap.size W wx) => awake_true wx (tab_keep hT fun g hg => hb.block g (hTl g hg)) (fun k hk => Nat.lt_of_lt_of_le (hTl k hk) hb.size))
  have FW := Lib.hid (fun wx (hb : Below W.heap.size W wx) => few_any (c0 := c0) (c1 := c1) (hR.later hb) (hO.later hb))
  have NW := Lib.hid (fun wx (hb : Below W.heap.size W wx) (hs : RSize l) => new_ra (cap := c0) hT hTl hR hb hs)
  have HOb := Lib.hid (fun wx (hb : Below W.heap.size W wx) => hO.later hb)
  have HOl := Lib.hid hO.1
  have HOz := Lib.hid hO.2.1
  have HTl := Lib.hid hTl
  have HOo := Lib.hid (fun i => @OA.some W a1 m os hO i)
  have B0 := Lib.hid (Below.refl W.heap.size W)
  have nn := nil_no
  have ny := nil_yes
  have ss := strs_same
  clear hT hTl hR hO
  go_enter Tryd.func3, Tryd.ntmps3
  go_wp2_with fail
  refine (AW.out _ B0.out).mono ?_
  rintro e w1 ⟨rfl, hb1⟩
  have B1 := Lib.hid hb1
  clear hb1
  go_wp2_with fail
  refine (FW.out _ B1.out).mono ?_
  rintro e w2 ⟨⟨q, rfl, hq⟩, hb2⟩
  have B2 := Lib.hid (below_step B1.out hb2)
  clear hb2
  cases q with
  | false =>
    clear hq
    go_wp2_with fail
    refine (AW.out _ B2.out).mono ?_
    rintro e w3 ⟨rfl, hb3⟩
    go_wp2_with fail
    go_ret
    exact ⟨rfl, below_step B2.out hb3⟩
  | true =>
    obtain ⟨hs, _⟩ := hq rfl
    have HS := Lib.hid hs
    clear hq hs
    by_cases h60 : 60 < m
    · have t60 : decide ((60 : Int) < (m : Int)) = true := by simp; omega
      go_wp2_with fail
      refine (AW.out _ B2.out).mono ?_
      rintro e w3 ⟨rfl, hb3⟩
      go_wp2_with fail
      go_ret
      exact ⟨rfl, below_step B2.out hb3⟩
    have t60 : decide ((60 : Int) < (m : Int)) = false := by simp; omega
    go_wp2_with fail
    refine (NW.out _ B2.out HS.out).mono ?_
    rintro e w3 ⟨hb3, ⟨hg, L, rfl, hP⟩ | ⟨hn, x, hx, rfl⟩⟩
    rotate_left
    · have tx : (x != 0) = true := by simpa using hx
      have HB3 := Lib.hid (below_step B2.out hb3)
      clear hb3 hn hx
      go_wp2_with fail
      go_ret
      exact ⟨rfl, HB3.out⟩
    have HRg := Lib.hid hg
    have HO1 := Lib.hid (hP.own B2.out hb3)
    have HG1 := Lib.hid hP.gr
    clear hg hP hb3
    obtain ⟨G, hG⟩ : ∃ G, L.G = G := ⟨_, rfl⟩
    have HGG := Lib.hid hG
    rw [hG]
    clear hG
    go_wp2_with fail
    go_loopw [7] (fun v wr => ∃ (i : Nat) (L : Lay) (s : St) (av : Nat → Value), i ≤ m ∧ v = .int .i64 i ∧ L.G = G ∧ Gr L (setsN l os i) s av i wr ∧ Own W (FootI L (setsN l os i).rules.length av) wr) (fun v _ => m - (intOf v).toNat)
    case atStart => exact ⟨0, L, _, _, by omega, rfl, HGG.out, HG1.out, HO1.out⟩
    case round =>
      clear HG1 HO1 HGG
      obtain ⟨i, L, s, av, hi, rfl, hLG, hg1, ho1⟩ := hrel
      have HLG := Lib.hid hLG
      have HG1 := Lib.hid hg1
      have HO1 := Lib.hid ho1
      clear hLG hg1 ho1
      by_cases hlt : i < m
      · have ti : decide ((i : Int) < (m : Int)) = true := by simp; omega
        obtain ⟨b, o, rfl⟩ := HOo.out i hlt
        have hil : i < os.length := by rw [HOl.out]; exact hlt
        obtain ⟨z, hz⟩ : ∃ z, os[i]? = some z := ⟨_, List.getElem?_eq_getElem hil⟩
        obtain ⟨z0, z1, z2⟩ := op_at (HOb.out wr HO1.out.below) hz
        have HZ := Lib.hid hz
        have HZs := Lib.hid (HOz.out z (List.mem_of_getElem? hz))
        have ii : (0 : Int) ≤ (i : Int) := by omega
        clear hil hz
        by_cases hk : z.k = 1
        · have tk : (z.k == 1) = true := by simpa using hk
          have HZk := Lib.hid hk
          have KS := Lib.hid (Set_any (HG1.out.later (Below.refl _ _).drew) (by omega) (n := z.n) (t := z.t) HZs.out.1)
          rw [HLG.out] at KS
          clear hk
          go_wp2_with fail
          refine wp_region_held_drew (S := (fun w' => w'.cell? ⟨b, o + i * 3, none⟩ = some (.int .i64 z.k) ∧ w'.cell? ⟨b, o + i * 3 + 1, none⟩ = some (.string z.n) ∧ w'.cell? ⟨b, o + i * 3 + 2, none⟩ = some (.string z.t))) (by kernel_rfl) ⟨z0, z1, z2⟩ (fun hHeld => ?_)
          refine wpAnyH_take (i := 0) (v := ?_) (show _ = some { dst := some 50, op := _, type := _, pos := _, after := _, guard := _ } from rfl) (by kernel_rfl) (by kernel_rfl) (by kernel_rfl) (fun _ _ _ h => h) (Or.inl ⟨by rfl, ?_⟩) hHeld ?_
          rotate_left
          · intro w' hSw
            (try dsimp only at hSw)
            go_simp
            try with_reducible rfl
          try simp only [Act.put, List.setIfInBounds_toArray, List.set_cons_zero, List.set_cons_succ]
          refine wpAnyH_take (i := 1) (v := ?_) (show _ = some { dst := some 51, op := _, type := _, pos := _, after := _, guard := _ } from rfl) (by kernel_rfl) (by kernel_rfl) (by kernel_rfl) (fun _ _ _ h => h) (Or.inl ⟨by rfl, ?_⟩) hHeld ?_
          rotate_left
          · intro w' hSw
            (try dsimp only at hSw)
            go_simp
            try with_reducible rfl
          try simp only [Act.put, List.setIfInBounds_toArray, List.set_cons_zero, List.set_cons_succ]
          refine wpAnyH_take (i := 2) (v := ?_) (show _ = some { dst := some 52, op := _, type := _, pos := _, after := _, guard := _ } from rfl) (by kernel_rfl) (by kernel_rfl) (by kernel_rfl) (fun _ _ _ h => h) (Or.inl ⟨by rfl, ?_⟩) hHeld ?_
          rotate_left
          · intro w' hSw
            (try dsimp only at hSw)
            go_simp
            try with_reducible rfl
          try simp only [Act.put, List.setIfInBounds_toArray, List.set_cons_zero, List.set_cons_succ]
          refine wpAnyH_take (i := 3) (v := ?_) (show _ = some { dst := some 53, op := _, type := _, pos := _, after := _, guard := _ } from rfl) (by kernel_rfl) (by kernel_rfl) (by kernel_rfl) (fun _ _ _ h => h) (Or.inl ⟨by rfl, ?_⟩) hHeld ?_
          rotate_left
          · intro w' hSw
            (try dsimp only at hSw)
            go_simp
            try with_reducible rfl
          try simp only [Act.put, List.setIfInBounds_toArray, List.set_cons_zero, List.set_cons_succ]
          refine wpAnyH_take (i := 4) (v := ?_) (show _ = some { dst := some 54, op := _, type := _, pos := _, after := _, guard := _ } from rfl) (by kernel_rfl) (by kernel_rfl) (by kernel_rfl) (fun _ _ _ h => h) (Or.inl ⟨by rfl, ?_⟩) hHeld ?_
          rotate_left
          · intro w' hSw
            (try dsimp only at hSw)
            go_simp
            try with_reducible rfl
          try simp only [Act.put, List.setIfInBounds_toArray, List.set_cons_zero, List.set_cons_succ]
          refine wpAnyH_take (i := 5) (v := ?_) (show _ = some { dst := some 55, op := _, type := _, pos := _, after := _, guard := _ } from rfl) (by kernel_rfl) (by kernel_rfl) (by kernel_rfl) (fun _ _ _ h => h) (Or.inl ⟨by rfl, ?_⟩) hHeld ?_
          rotate_left
          · intro w' hSw
            (try dsimp only at hSw)
            go_simp
            try with_reducible rfl
          try simp only [Act.put, List.setIfInBounds_toArray, List.set_cons_zero, List.set_cons_succ]
          refine wpAnyH_take (i := 6) (v := ?_) (show _ = some { dst := some 56, op := _, type := _, pos := _, after := _, guard := _ } from rfl) (by kernel_rfl) (by kernel_rfl) (by kernel_rfl) (fun _ _ _ h => h) (Or.inl ⟨by rfl, ?_⟩) hHeld ?_
          rotate_left
          · intro w' hSw
            (try dsimp only at hSw)
            go_simp
            try with_reducible rfl
          try simp only [Act.put, List.setIfInBounds_toArray, List.set_cons_zero, List.set_cons_succ]
          refine wpAnyH_take (i := 7) (v := ?_) (show _ = some { dst := some 57, op := _, type := _, pos := _, after := _, guard := _ } from rfl) (by kernel_rfl) (by kernel_rfl) (by kernel_rfl) (fun _ _ _ h => h) (Or.inl ⟨by rfl, ?_⟩) hHeld ?_
          rotate_left
          · intro w' hSw
            (try dsimp only at hSw)
            go_simp
            try with_reducible rfl
          try simp only [Act.put, List.setIfInBounds_toArray, List.set_cons_zero, List.set_cons_succ]
          refine wpAnyH_take (i := 8) (v := ?_) (show _ = some { dst := some 58, op := _, type := _, pos := _, after := _, guard := _ } from rfl) (by kernel_rfl) (by kernel_rfl) (by kernel_rfl) (fun _ _ _ h => h) (Or.inl ⟨by rfl, ?_⟩) hHeld ?_
          rotate_left
          · intro w' hSw
            (try dsimp only at hSw)
            go_simp
            try with_reducible rfl
          try simp only [Act.put, List.setIfInBounds_toArray, List.set_cons_zero, List.set_cons_succ]
          refine wpAnyH_take (i := 9) (v := ?_) (show _ = some { dst := some 59, op := _, type := _, pos := _, after := _, guard := _ } from rfl) (by kernel_rfl) (by kernel_rfl) (by kernel_rfl) (fun _ _ _ h => h) (Or.inl ⟨by rfl, ?_⟩) hHeld ?_
          rotate_left
          · intro w' hSw
            (try dsimp only at hSw)
            go_simp
            try with_reducible rfl
          try simp only [Act.put, List.setIfInBounds_toArray, List.set_cons_zero, List.set_cons_succ]
          refine wpAnyH_take (i := 10) (v := ?_) (show _ = some { dst := some 60, op := _, type := _, pos := _, after := _, guard := _ } from rfl) (by kernel_rfl) (by kernel_rfl) (by kernel_rfl) (fun _ _ _ h => h) (Or.inl ⟨by rfl, ?_⟩) hHeld ?_
          rotate_left
          · intro w' hSw
            (try dsimp only at hSw)
            go_simp
            try with_reducible rfl
          try simp only [Act.put, List.setIfInBounds_toArray, List.set_cons_zero, List.set_cons_succ]
          refine wpAnyH_ready (rs := [11]) (by kernel_rfl) (by simp) ?_
          refine AllReadyH.cons (show _ = some { dst := some 61, op := _, type := _, pos := _, after := _, guard := _ } from rfl) (fun K hK => ?_) AllReadyH.nil
          go_simp
          refine KS.out.mono ?_
          rintro e WS ⟨L', hG', rfl, hg', hs'⟩
          have HT2 := Lib.hid (Own.step (HO1.out.later (Below.refl _ _).drew) hs'.fi)
          have HG2 := Lib.hid hg'
          have HC3 := Lib.hid (op_at (HOb.out _ HT2.out.below) HZ.out)
          clear hg' hs'
          go_wp2_with fail
          refine hK.out _ _ (HC3.out) (fun hHeld => ?_)
          clear hK K
          try simp only [Act.put, List.setIfInBounds_toArray, List.set_cons_zero, List.set_cons_succ]
          refine wpAnyH_done (by kernel_rfl) ?_ _
          clear hHeld
          go_wp2_with fail
          refine ⟨⟨i + 1, L', _, av, by omega, by simp, hG'.trans HLG.out, by rw [setsN_set HZ.out HZk.out]; exact HG2.out, by rw [setsN_rules] at *; simpa [setsE_rules, setsN_rules] using HT2.out⟩, by simp [intOf]; omega⟩
        · have tk : (z.k == 1) = false := by simpa using hk
          have HZk := Lib.hid hk
          clear hk
          go_wp2_with fail
          refine (NW.out _ HO1.out.below HS.out).mono ?_
          rintro e w4 ⟨hb4, ⟨hg4, L2, rfl, hP4⟩ | ⟨hn4, -⟩⟩
          rotate_left
          · exact absurd HRg.out hn4
          have HTw0 := Lib.hid (Two.new HG1.out HO1.out HTl.out hP4 hb4)
          clear hg4 hb4 hP4 z0 z1 z2
          obtain ⟨G2, hG2⟩ : ∃ G2, L2.G = G2 := ⟨_, rfl⟩
          have HGG2 := Lib.hid hG2
          rw [hG2]
          clear hG2
          go_wp2_with fail
          obtain ⟨wq, hwq⟩ : ∃ wq, wq = wr := ⟨_, rfl⟩
          subst hwq
          go_loopw [10] (fun v wr => ∃ (k : Nat) (L2 : Lay) (s2 : St), k ≤ i ∧ v = .int .i64 k ∧ L2.G = G2 ∧ Two L (setsN l os i) s av i L2 (setsN l os k) s2 avN k W wr) (fun v _ => i - (intOf v).toNat)
          case atStart => exact ⟨0, L2, _, by omega, rfl, HGG2.out, HTw0.out⟩
          case round =>
            clear HTw0 HGG2
            obtain ⟨k, L2, s2, hk, rfl, hLG2, hTw⟩ := hrel
            have HLG2 := Lib.hid hLG2
            have HTw := Lib.hid hTw
            clear hLG2 hTw
            by_cases hlt2 : k < i
            · have tk2 : decide ((k : Int) < (i : Int)) = true := by simp; omega
              have HZi := HZ
              have HZsi := HZs
              clear HZ HZs
              have hkl : k < os.length := by rw [HOl.out]; omega
              obtain ⟨z, hz⟩ : ∃ z, os[k]? = some z := ⟨_, List.getElem?_eq_getElem hkl⟩
              obtain ⟨z0, z1, z2⟩ := op_at (HOb.out wr HTw.out.o1.below) hz
              have HZ := Lib.hid hz
              have HZs := Lib.hid (HOz.out z (List.mem_of_getElem? hz))
              have kk : (0 : Int) ≤ (k : Int) := by omega
              have hkm : (k : Int) < (m : Int) := by omega
              clear hkl hz
              by_cases hzk : z.k = 1
              · have tz : (z.k == 1) = true := by simpa using hzk
                have HZk := Lib.hid hzk
                have KS := Lib.hid (Set_any (HTw.out.g2.later (Below.refl _ _).drew) (by omega) (n := z.n) (t := z.t) HZs.out.1)
                rw [HLG2.out] at KS
                have HTw' := HTw
                clear hzk HTw
                have HTw := Lib.hid (HTw'.out.later (Below.refl _ _).drew)
                go_wp2_with fail
                refine wp_region_held_drew (S := (fun w' => w'.cell? ⟨b, o + k * 3, none⟩ = some (.int .i64 z.k) ∧ w'.cell? ⟨b, o + k * 3 + 1, none⟩ = some (.string z.n) ∧ w'.cell? ⟨b, o + k * 3 + 2, none⟩ = some (.string z.t))) (by kernel_rfl) ⟨z0, z1, z2⟩ (fun hHeld => ?_)
                refine wpAnyH_take (i := 0) (v := ?_) (show _ = some { dst := some 84, op := _, type := _, pos := _, after := _, guard := _ } from rfl) (by kernel_rfl) (by kernel_rfl) (by kernel_rfl) (fun _ _ _ h => h) (Or.inl ⟨by rfl, ?_⟩) hHeld ?_
                rotate_left
                · intro w' hSw
                  (try dsimp only at hSw)
                  go_simp
                  try with_reducible rfl
                try simp only [Act.put, List.setIfInBounds_toArray, List.set_cons_zero, List.set_cons_succ]
                refine wpAnyH_take (i := 1) (v := ?_) (show _ = some { dst := some 85, op := _, type := _, pos := _, after := _, guard := _ } from rfl) (by kernel_rfl) (by kernel_rfl) (by kernel_rfl) (fun _ _ _ h => h) (Or.inl ⟨by rfl, ?_⟩) hHeld ?_
                rotate_left
                · intro w' hSw
                  (try dsimp only at hSw)
                  go_simp
                  try with_reducible rfl
                try simp only [Act.put, List.setIfInBounds_toArray, List.set_cons_zero, List.set_cons_succ]
                refine wpAnyH_take (i := 2) (v := ?_) (show _ = some { dst := some 86, op := _, type := _, pos := _, after := _, guard := _ } from rfl) (by kernel_rfl) (by kernel_rfl) (by kernel_rfl) (fun _ _ _ h => h) (Or.inl ⟨by rfl, ?_⟩) hHeld ?_
                rotate_left
                · intro w' hSw
                  (try dsimp only at hSw)
                  go_simp
                  try with_reducible rfl
                try simp only [Act.put, List.setIfInBounds_toArray, List.set_cons_zero, List.set_cons_succ]
                refine wpAnyH_take (i := 3) (v := ?_) (show _ = some { dst := some 87, op := _, type := _, pos := _, after := _, guard := _ } from rfl) (by kernel_rfl) (by kernel_rfl) (by kernel_rfl) (fun _ _ _ h => h) (Or.inl ⟨by rfl, ?_⟩) hHeld ?_
                rotate_left
                · intro w' hSw
                  (try dsimp only at hSw)
                  go_simp
                  try with_reducible rfl
                try simp only [Act.put, List.setIfInBounds_toArray, List.set_cons_zero, List.set_cons_succ]
                refine wpAnyH_take (i := 4) (v := ?_) (show _ = some { dst := some 88, op := _, type := _, pos := _, after := _, guard := _ } from rfl) (by kernel_rfl) (by kernel_rfl) (by kernel_rfl) (fun _ _ _ h => h) (Or.inl ⟨by rfl, ?_⟩) hHeld ?_
                rotate_left
                · intro w' hSw
                  (try dsimp only at hSw)
                  go_simp
                  try with_reducible rfl
                try simp only [Act.put, List.setIfInBounds_toArray, List.set_cons_zero, List.set_cons_succ]
                refine wpAnyH_take (i := 5) (v := ?_) (show _ = some { dst := some 89, op := _, type := _, pos := _, after := _, guard := _ } from rfl) (by kernel_rfl) (by kernel_rfl) (by kernel_rfl) (fun _ _ _ h => h) (Or.inl ⟨by rfl, ?_⟩) hHeld ?_
                rotate_left
                · intro w' hSw
                  (try dsimp only at hSw)
                  go_simp
                  try with_reducible rfl
                try simp only [Act.put, List.setIfInBounds_toArray, List.set_cons_zero, List.set_cons_succ]
                refine wpAnyH_take (i := 6) (v := ?_) (show _ = some { dst := some 90, op := _, type := _, pos := _, after := _, guard := _ } from rfl) (by kernel_rfl) (by kernel_rfl) (by kernel_rfl) (fun _ _ _ h => h) (Or.inl ⟨by rfl, ?_⟩) hHeld ?_
                rotate_left
                · intro w' hSw
                  (try dsimp only at hSw)
                  go_simp
                  try with_reducible rfl
                try simp only [Act.put, List.setIfInBounds_toArray, List.set_cons_zero, List.set_cons_succ]
                refine wpAnyH_take (i := 7) (v := ?_) (show _ = some { dst := some 91, op := _, type := _, pos := _, after := _, guard := _ } from rfl) (by kernel_rfl) (by kernel_rfl) (by kernel_rfl) (fun _ _ _ h => h) (Or.inl ⟨by rfl, ?_⟩) hHeld ?_
                rotate_left
                · intro w' hSw
                  (try dsimp only at hSw)
                  go_simp
                  try with_reducible rfl
                try simp only [Act.put, List.setIfInBounds_toArray, List.set_cons_zero, List.set_cons_succ]
                refine wpAnyH_take (i := 8) (v := ?_) (show _ = some { dst := some 92, op := _, type := _, pos := _, after := _, guard := _ } from rfl) (by kernel_rfl) (by kernel_rfl) (by kernel_rfl) (fun _ _ _ h => h) (Or.inl ⟨by rfl, ?_⟩) hHeld ?_
                rotate_left
                · intro w' hSw
                  (try dsimp only at hSw)
                  go_simp
                  try with_reducible rfl
                try simp only [Act.put, List.setIfInBounds_toArray, List.set_cons_zero, List.set_cons_succ]
                refine wpAnyH_take (i := 9) (v := ?_) (show _ = some { dst := some 93, op := _, type := _, pos := _, after := _, guard := _ } from rfl) (by kernel_rfl) (by kernel_rfl) (by kernel_rfl) (fun _ _ _ h => h) (Or.inl ⟨by rfl, ?_⟩) hHeld ?_
                rotate_left
                · intro w' hSw
                  (try dsimp only at hSw)
                  go_simp
                  try with_reducible rfl
                try simp only [Act.put, List.setIfInBounds_toArray, List.set_cons_zero, List.set_cons_succ]
                refine wpAnyH_take (i := 10) (v := ?_) (show _ = some { dst := some 94, op := _, type := _, pos := _, after := _, guard := _ } from rfl) (by kernel_rfl) (by kernel_rfl) (by kernel_rfl) (fun _ _ _ h => h) (Or.inl ⟨by rfl, ?_⟩) hHeld ?_
                rotate_left
                · intro w' hSw
                  (try dsimp only at hSw)
                  go_simp
                  try with_reducible rfl
                try simp only [Act.put, List.setIfInBounds_toArray, List.set_cons_zero, List.set_cons_succ]
                refine wpAnyH_ready (rs := [11]) (by kernel_rfl) (by simp) ?_
                refine AllReadyH.cons (show _ = some { dst := some 95, op := _, type := _, pos := _, after := _, guard := _ } from rfl) (fun K hK => ?_) AllReadyH.nil
                go_simp
                refine KS.out.mono ?_
                rintro e WS ⟨L', hG', rfl, hg', hs'⟩
                have HT2 := Lib.hid (HTw.out.step2 hg' hs')
                have HC3 := Lib.hid (op_at (HOb.out _ HT2.out.o1.below) HZ.out)
                clear hg' hs'
                go_wp2_with fail
                refine hK.out _ _ (HC3.out) (fun hHeld => ?_)
                clear hK K
                try simp only [Act.put, List.setIfInBounds_toArray, List.set_cons_zero, List.set_cons_succ]
                refine wpAnyH_done (by kernel_rfl) ?_ _
                clear hHeld
                go_wp2_with fail
                refine ⟨⟨k + 1, L', _, by omega, by simp, hG'.trans HLG2.out, by rw [setsN_set HZ.out HZk.out]; exact HT2.out⟩, by simp [intOf]; omega⟩
              · have tz : (z.k == 1) = false := by simpa using hzk
                have HZk := Lib.hid hzk
                clear hzk
                go_wp2_with fail
                exact ⟨⟨k + 1, L2, s2, by omega, by simp, HLG2.out, by rw [setsN_ask HZ.out HZk.out]; exact ⟨HTw.out.g1, HTw.out.g2.more (Nat.le_succ _), HTw.out.o1, HTw.out.o2, HTw.out.d1, HTw.out.d2⟩⟩, by simp [intOf]; omega⟩
            · obtain rfl : k = i := by omega
              have tk2 : decide ((k : Int) < (k : Int)) = false := by simp
              have him : (k : Int) < (m : Int) := by omega
              obtain ⟨z0, z1, z2⟩ := op_at (HOb.out wr HTw.out.o1.below) HZ.out
              have KA := Lib.hid (Ask_any HTw.out.g1 (by omega) (a := z.n) HZs.out.1)
              rw [HLG.out] at KA
              go_wp2_with fail
              refine KA.out.mono ?_
              rintro e w5 ⟨s5, av5, rfl, hg5, hs5, -⟩
              have HT5 := Lib.hid (HTw.out.step1 hg5 hs5)
              clear hg5 hs5 z0 z1 z2
              obtain ⟨z0, z1, z2⟩ := op_at (HOb.out w5 HT5.out.o1.below) HZ.out
              have KA2 := Lib.hid (Ask_any HT5.out.g2 (by omega) (a := z.n) HZs.out.1)
              rw [HLG2.out] at KA2
              go_wp2_with fail
              refine KA2.out.mono ?_
              rintro e w6 ⟨s6, av6, rfl, hg6, hs6, -⟩
              have HT6 := Lib.hid (HT5.out.step2 hg6 hs6)
              clear hg6 hs6
              go_wp2_with fail
              exact ⟨⟨k + 1, L, s5, av5, by omega, by simp, HLG.out, by rw [setsN_ask HZ.out HZk.out]; exact HT6.out.g1, by rw [setsN_ask HZ.out HZk.out]; exact HT6.out.o1⟩, by simp [intOf]; omega⟩
      · obtain rfl : i = m := by omega
        have ti : decide ((i : Int) < (i : Int)) = false := by simp
        go_wp2_with fail
        go_ret
        exact ⟨rfl, HO1.out.below⟩
end Go.Proofs.YteghbblbkljdhaaDoor
