import Derived.Test.YtjcaeoacgoklmaaDoorGrQ
import Derived.Laws.StructEq
import Derived.Defers
namespace Go.Proofs.YtjcaeoacgoklmaaDoor
open Go.RowKit
theorem str_eq (a b : ByteArray) : (a.toList == b.toList) = decide (a = b) := by
  rw [ByteArray.toList_eq, ByteArray.toList_eq, Bool.eq_iff_iff]
  simp only [beq_iff_eq, decide_eq_true_eq]
  exact ⟨list_inj, fun h => by rw [h]⟩
set_option maxRecDepth 100000 in
set_option maxHeartbeats 2000000 in
theorem neq_out (x y : Out) (w : World) : (binOp .neq 53 (.agg #[.string x.t, .int .i64 x.e]) (.agg #[.string y.t, .int .i64 y.e])).run Tryd.prog w = .ok (.bool (!outEq x y)) w := by
  obtain ⟨xt, xe⟩ := x
  obtain ⟨yt, ye⟩ := y
  unfold outEq
  simp only
  have e1 := str_eq xt yt
  by_cases h1 : xt = yt
  · by_cases h2 : xe = ye
    · subst h1 h2
      go_simp
    · have e2 : (xe == ye) = false := by simpa using h2
      subst h1
      go_simp
  · rw [decide_eq_false h1] at e1
    go_simp
def HoldPost (L : Lay) (E : Env) (Z : Nat → Prop) (av : Nat → Value) (W : World) (b : Bool) (s' : St) : Ending → World → Prop := fun e W' => ∃ av', e = .returned (.bool b) ∧ Mem L E s' av' W' ∧ FK L E.rules.length av av' W W' ∧ ∀ k, Z k → av' k = av k
/-- Behind one that was asked for, of what is kept. -/
theorem Pre.ask {L : Lay} {E : Env} {s : St} {av av' : Nat → Value} {B : List Nat} {f : Nat} {W W' : World} (h : Pre L E s av B f W) {a : ByteArray} {o : Out} {s1 : St} (hq : askM itoaG E f s a = (o, s1)) (hM : Mem L E s1 av' W') : Pre L E s1 av' B f W' ∧ ∀ i, (s.nd i).busy = true → s1.nd i = s.nd i := by
  obtain ⟨_, h2, h3⟩ := pres_ask (itoaB := itoaG) itoaG_size h.ok f s a h.hyg
  rw [hq] at h2 h3
  exact ⟨⟨hM, h2, h.ok, fun k => by rw [h3.busy k]; exact h.busy k, h.okk, h.fuel⟩, h3.nd⟩
set_option maxRecDepth 100000 in
set_option maxHeartbeats 8000000 in
theorem holds_any {f : Nat} (hA : AskC f) {L : Lay} {E : Env} {s : St} {av : Nat → Value} {B : List Nat} {W : World} (h : Pre L E s av B f W) {i : Nat} (hi : i < E.rules.length) (hb : (s.nd i).busy = true) (b : Bool) (s1 : St) (hq : holdsM (askM itoaG E f) i s = (b, s1)) :
    Calls Tryd.prog 21 #[.pointer (some ⟨L.G, 0, none⟩), .pointer (some ⟨L.nb i, 0, none⟩)] W (HoldPost L E (fun k => k ∈ B) av W b s1) := by
  have c6 : W.cell? ⟨L.nb i, 6, none⟩ = some (.bool (s.nd i).kept) := h.mem.cell hi 6
  have c7 : W.cell? ⟨L.nb i, 7, none⟩ = some (.int .i64 (s.nd i).sets) := h.mem.cell hi 7
  have g2 : W.cell? ⟨L.G, 2, none⟩ = some (.int .i64 s.sets) := h.mem.cellG 2
  have HP := Lib.hid h
  unfold holdsM at hq
  by_cases hk : (s.nd i).kept = false
  · rw [if_pos hk] at hq
    injection hq with e1 e2
    subst e1 e2
    rw [hk] at c6
    clear h hk
    go_enter Tryd.func21, Tryd.ntmps21
    go_wp2_with fail
    go_ret
    exact ⟨av, rfl, HP.out.mem, FK.refl _ _ _ _, fun _ _ => rfl⟩
  rw [if_neg hk] at hq
  have hk : (s.nd i).kept = true := by simpa using hk
  rw [hk] at c6
  by_cases hs : (s.nd i).sets = s.sets
  · rw [if_pos hs] at hq
    injection hq with e1 e2
    subst e1 e2
    have ts : ((s.nd i).sets == s.sets) = true := by simpa using hs
    clear h hk hs
    go_enter Tryd.func21, Tryd.ntmps21
    go_wp2_with fail
    go_quiet (fail)
    go_wp2_with fail
    go_ret
    exact ⟨av, rfl, HP.out.mem.later (below_drewN (Below.refl _ _) _), FK.below (below_drewN (Below.refl _ _) _), fun _ _ => rfl⟩
  rw [if_neg hs] at hq
  have ts : ((s.nd i).sets == s.sets) = false := by simpa using hs
  obtain ⟨A, c, hv, _⟩ := row_at (h.mem.row i hi)
  have c8 : W.cell? ⟨L.nb i, 8, none⟩ = some (.slice A (s.nd i).asked.length c) := by rw [← hv]; exact h.mem.cell hi 8
  have hlen := (h.hyg i).len
  have hiB := (h.busy i).1 hb
  have HV := Lib.hid hv
  have HQ := Lib.hid hq
  clear h hk hs hv hq
  go_enter Tryd.func21, Tryd.ntmps21
  go_wp2_with fail
  go_quiet (fail)
  go_wp2_with fail
  clear c6 c7 c8 g2 ts
  generalize hl : (s.nd i).asked.length = len at hlen ⊢
  have HLn := Lib.hid hl
  clear hl
  go_loopw [26] (fun v wr => ∃ (j : Nat) (sj : St) (avj : Nat → Value), j ≤ len ∧ v = .int .i64 j ∧ askAll (askM itoaG E f) ((s.nd i).asked.drop j) sj = askAll (askM itoaG E f) (s.nd i).asked s ∧ Pre L E sj avj B f wr ∧ FK L E.rules.length av avj W wr ∧ (∀ k, (s.nd k).busy = true → sj.nd k = s.nd k) ∧ ∀ k, k ∈ B → avj k = av k) (fun v _ => len - (intOf v).toNat)
  case atStart => exact ⟨0, s, av, by omega, rfl, rfl, HP.out.later (below_drewN (Below.refl _ _) _), FK.below (below_drewN (Below.refl _ _) _), fun _ _ => rfl, fun _ _ => rfl⟩
  case round =>
    obtain ⟨j, sj, avj, hj, rfl, hall, hpre, hfk, hnd, hz⟩ := hrel
    have HPj := Lib.hid hpre
    have HFj := Lib.hid hfk
    have HAll := Lib.hid hall
    have HNd := Lib.hid hnd
    have HZj := Lib.hid hz
    clear hpre hfk hall hnd hz
    by_cases hlt : j < len
    · have tj : decide ((j : Int) < (len : Int)) = true := by simp; omega
      have hlt0 : j < (s.nd i).asked.length := by rw [HLn.out]; exact hlt
      obtain ⟨A', c', hv', hrow⟩ := row_at (HPj.out.mem.row i hi)
      rw [HZj.out i hiB, HV.out, HNd.out i hb] at hv'
      rw [HNd.out i hb] at hrow
      injection hv' with e1 _ e2
      subst e1 e2
      obtain ⟨g, hg, hrc⟩ := hrow (by omega)
      subst hg
      obtain ⟨x0, x1, x2⟩ := hrc j hlt0
      have hdrop : (s.nd i).asked.drop j = (s.nd i).asked[j] :: (s.nd i).asked.drop (j + 1) := List.drop_eq_getElem_cons hlt0
      have hall := HAll.out
      rw [hdrop, askAll] at hall
      have hnm := (HP.out.hyg i).name _ (List.getElem_mem hlt0)
      generalize (s.nd i).asked[j] = x at x0 x1 x2 hall hnm
      obtain ⟨nm, ox⟩ := x
      simp only at x0 x1 x2 hall hnm
      obtain ⟨q, hq⟩ : ∃ q, askM itoaG E f sj nm = q := ⟨_, rfl⟩
      obtain ⟨o, s2⟩ := q
      rw [hq] at hall
      have HAl2 := Lib.hid hall
      have HQ2 := Lib.hid hq
      have hbx : Below wr.heap.size wr (wr.alloc (.cells #[.string nm, .string ox.t, .int .i64 ox.e] 74)).drew := ((Below.refl _ _).alloc (Nat.le_refl _) _).drew
      have KA := Lib.hid (hq ▸ hA.ok L E sj avj B _ nm (HPj.out.later hbx) hnm)
      have hns : ¬ Foot L E.rules.length avj wr.heap.size := fun h => by have := HPj.out.mem.lt h; omega
      have HBx := Lib.hid hbx
      have b0 : (wr.alloc (.cells #[.string nm, .string ox.t, .int .i64 ox.e] 74)).drew.cell? ⟨wr.heap.size, 0, none⟩ = some (.string nm) := by simp
      have b1 : (wr.alloc (.cells #[.string nm, .string ox.t, .int .i64 ox.e] 74)).drew.cell? ⟨wr.heap.size, 1, none⟩ = some (.string ox.t) := by simp
      have b2 : (wr.alloc (.cells #[.string nm, .string ox.t, .int .i64 ox.e] 74)).drew.cell? ⟨wr.heap.size, 2, none⟩ = some (.int .i64 ox.e) := by simp
      clear hbx hq hall hdrop hrc hrow
      go_wp2_with fail
      clear x0 x1 x2
      have hneq := neq_out o ox
      refine wp_region_held_drew (S := (fun w' => w'.cell? ⟨wr.heap.size, 0, none⟩ = some (.string nm) ∧ w'.cell? ⟨wr.heap.size, 1, none⟩ = some (.string ox.t) ∧ w'.cell? ⟨wr.heap.size, 2, none⟩ = some (.int .i64 ox.e))) (by kernel_rfl) ⟨b0, b1, b2⟩ (fun hHeld => ?_)
      refine wpAnyH_take (i := 0) (v := ?_) (show _ = some { dst := some 30, op := _, type := _, pos := _, after := _, guard := _ } from rfl) (by kernel_rfl) (by kernel_rfl) (by kernel_rfl) (fun _ _ _ h => h) (Or.inl ⟨by rfl, ?_⟩) hHeld ?_
      rotate_left
      · intro w' hSw
        (try dsimp only at hSw)
        go_simp
        try with_reducible rfl
      try simp only [Act.put, List.setIfInBounds_toArray, List.set_cons_zero, List.set_cons_succ]
      refine wpAnyH_take (i := 1) (v := ?_) (show _ = some { dst := some 31, op := _, type := _, pos := _, after := _, guard := _ } from rfl) (by kernel_rfl) (by kernel_rfl) (by kernel_rfl) (fun _ _ _ h => h) (Or.inl ⟨by rfl, ?_⟩) hHeld ?_
      rotate_left
      · intro w' hSw
        (try dsimp only at hSw)
        go_simp
        try with_reducible rfl
      try simp only [Act.put, List.setIfInBounds_toArray, List.set_cons_zero, List.set_cons_succ]
      refine wpAnyH_take (i := 2) (v := ?_) (show _ = some { dst := some 32, op := _, type := _, pos := _, after := _, guard := _ } from rfl) (by kernel_rfl) (by kernel_rfl) (by kernel_rfl) (fun _ _ _ h => h) (Or.inl ⟨by rfl, ?_⟩) hHeld ?_
      rotate_left
      · intro w' hSw
        (try dsimp only at hSw)
        go_simp
        try with_reducible rfl
      try simp only [Act.put, List.setIfInBounds_toArray, List.set_cons_zero, List.set_cons_succ]
      refine wpAnyH_take (i := 4) (v := ?_) (show _ = some { dst := some 34, op := _, type := _, pos := _, after := _, guard := _ } from rfl) (by kernel_rfl) (by kernel_rfl) (by kernel_rfl) (fun _ _ _ h => h) (Or.inl ⟨by rfl, ?_⟩) hHeld ?_
      rotate_left
      · intro w' hSw
        (try dsimp only at hSw)
        go_simp
        try with_reducible rfl
      try simp only [Act.put, List.setIfInBounds_toArray, List.set_cons_zero, List.set_cons_succ]
      refine wpAnyH_take (i := 5) (v := ?_) (show _ = some { dst := some 35, op := _, type := _, pos := _, after := _, guard := _ } from rfl) (by kernel_rfl) (by kernel_rfl) (by kernel_rfl) (fun _ _ _ h => h) (Or.inl ⟨by rfl, ?_⟩) hHeld ?_
      rotate_left
      · intro w' hSw
        (try dsimp only at hSw)
        go_simp
        try with_reducible rfl
      try simp only [Act.put, List.setIfInBounds_toArray, List.set_cons_zero, List.set_cons_succ]
      refine wpAnyH_ready (rs := [3]) (by kernel_rfl) (by simp) ?_
      refine AllReadyH.cons (show _ = some { dst := some 33, op := _, type := _, pos := _, after := _, guard := _ } from rfl) (fun K hK => ?_) AllReadyH.nil
      go_simp
      refine KA.out.mono ?_
      rintro e W6 ⟨av6, rfl, hM6, hF6, hz6⟩
      have hn6 := HPj.out.ask HQ2.out hM6
      have HC6 := Lib.hid (And.intro (hF6.cell (p := ⟨wr.heap.size, 0, none⟩) hns b0) (And.intro (hF6.cell (p := ⟨wr.heap.size, 1, none⟩) hns b1) (hF6.cell (p := ⟨wr.heap.size, 2, none⟩) hns b2)))
      have HM6 := Lib.hid hM6
      have HF6 := Lib.hid ((HFj.out.trans (FK.below HBx.out)).trans hF6)
      have HZ6 := Lib.hid (fun k hk => (hz6 k hk).trans (HZj.out k hk))
      have HN6 := Lib.hid hn6
      clear hM6 hF6 hz6 hn6
      go_wp2_with fail
      refine hK.out _ _ (HC6.out) (fun hHeld => ?_)
      clear hK K
      try simp only [Act.put, List.setIfInBounds_toArray, List.set_cons_zero, List.set_cons_succ]
      refine wpAnyH_take (i := 6) (v := ?_) (show _ = some { dst := some 36, op := _, type := _, pos := _, after := _, guard := _ } from rfl) (by kernel_rfl) (by kernel_rfl) (by kernel_rfl) (fun _ _ _ h => h) (Or.inl ⟨by rfl, ?_⟩) hHeld ?_
      rotate_left
      · intro w' hSw
        (try dsimp only at hSw)
        go_simp
        try with_reducible rfl
      try simp only [Act.put, List.setIfInBounds_toArray, List.set_cons_zero, List.set_cons_succ]
      refine wpAnyH_done (by kernel_rfl) ?_ _
      clear hHeld
      by_cases he : outEq o ox = true
      · rw [show (!outEq o ox) = false from by rw [he]; rfl]
        have hall := HAl2.out
        rw [if_pos he] at hall
        have HAl3 := Lib.hid hall
        clear hall he hneq
        go_wp2_with fail
        refine ⟨⟨j + 1, s2, av6, hlt, by simp, HAl3.out, HN6.out.1, HF6.out, fun k hk => ?_, HZ6.out⟩, by simp [intOf]; omega⟩
        have e1 := HNd.out k hk
        rw [HN6.out.2 k (by rw [e1]; exact hk), e1]
      · rw [show (!outEq o ox) = true from by simpa using he]
        have hall := HAl2.out
        rw [if_neg he] at hall
        have hq := HQ.out
        simp only [← hall, Bool.false_eq_true, if_false] at hq
        injection hq with e1 e2
        subst e1 e2
        clear hall he hneq
        go_wp2_with fail
        go_ret
        exact ⟨av6, rfl, HM6.out, HF6.out, HZ6.out⟩
    · obtain rfl : j = len := by omega
      have tj : decide ((j : Int) < (j : Int)) = false := by simp
      have hall := HAll.out
      have hdrop : (s.nd i).asked.drop j = [] := List.drop_of_length_le (by rw [HLn.out]; exact Nat.le_refl _)
      rw [hdrop, askAll] at hall
      have hq := HQ.out
      simp only [← hall, if_true] at hq
      injection hq with e1 e2
      subst e1
      have HE2 := Lib.hid e2
      have y7 : wr.cell? ⟨L.nb i, 7, none⟩ = some (.int .i64 (sj.nd i).sets) := HPj.out.mem.cell hi 7
      have z7 := HPj.out.mem.free hi 7
      have y2 : wr.cell? ⟨L.G, 2, none⟩ = some (.int .i64 sj.sets) := HPj.out.mem.cellG 2
      clear hall hdrop e2 hlt
      go_wp2_with fail
      have hX := (MF.mk HPj.out.mem HFj.out).f7 hi sj.sets
      go_ret
      exact ⟨avj, rfl, by rw [← HE2.out]; exact hX.mem, hX.fk, HZj.out⟩
end Go.Proofs.YtjcaeoacgoklmaaDoor
