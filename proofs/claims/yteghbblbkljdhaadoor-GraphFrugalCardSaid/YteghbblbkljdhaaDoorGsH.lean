import Derived.Test.YteghbblbkljdhaaDoorGsE
import Derived.LoopTactic
import Derived.BigQuiet
import Derived.Maps.AppendAt
namespace Go.Proofs.YteghbblbkljdhaaDoor
open Go.RowKit
theorem row_lastc {W w : World} {g k c : Nat} {l : List ByteArray} {a : ByteArray} (h : w.ownsRow W.heap.size 9 1 (.slice (some ⟨g, 0, none⟩) k c) (l ++ [a]).length (strCells (l ++ [a]))) : w.cell? ⟨g, l.length, none⟩ = some (.string a) := by
  obtain ⟨g', c', hv, hc, _⟩ := row_last h
  injection hv with e
  injection e with e
  injection e with e
  subst e
  exact hc
theorem Fru.more {l : List Rule} {W w : World} {G c c' : Nat} {L : Lay} {E : Env} {s : St} {av : Nat → Value} {nv tv : Value} {ns ts : List ByteArray} (h : Fru l W w G c L E s av nv tv ns ts) (hc : c ≤ c') : Fru l W w G c' L E s av nv tv ns ts := ⟨h.G, h.gr.more hc, h.own, h.rules, h.rows, h.last⟩
theorem push_all {W w Y w' : World} {c : Nat} {L : Lay} {E : Env} {s : St} {av : Nat → Value} {nv tv v : Value} {ns ts : List ByteArray} {a : ByteArray} (hg : Gr L E s av c w) (ho : Own W (FootI L E.rules.length av) w) (h : Rows2 W w (AllB L E av) nv tv ns ts) (hb : Below w.heap.size w Y) (hown : w'.ownsRow W.heap.size 9 1 v (ns.length + 1) (strCells ns ++ [.string a])) (hgr : Y.grownBy w' nv.ownBlock) (hob : v.ownBlock = nv.ownBlock ∨ v.ownBlock = some Y.heap.size) : Gr L E s av c w' ∧ Own W (FootI L E.rules.length av) w' ∧ Rows2 W w' (AllB L E av) v tv (ns ++ [a]) ts := by
  obtain ⟨h1, h2⟩ := push_gr h hg ho hb hgr
  exact ⟨h1, h2, h.pushN (fun k hk => hg.lt2 hk) hb hown hgr hob⟩
set_option maxRecDepth 100000 in
set_option maxHeartbeats 32000000 in
theorem frugal_walk {W : World} {a0 a1 : Option Addr} {n m c0 c1 : Nat} {l : List Rule} {os : List OpD} (hT : TabG W) (hTl : ∀ k, Table k → k < W.heap.size) (hR : RA W a0 n l) (hO : OA W a1 m os) :
    Calls Tryd.prog 4 #[.slice a0 n c0, .slice a1 m c1] W fun e W' => e = .returned (.bool true) ∧ Below W.heap.size W W' := by
  have AW := Lib.hid (fun wx (hb : Below W.heap.size W wx) => awake_true wx (tab_keep hT fun g hg => hb.block g (hTl g hg)) (fun k hk => Nat.lt_of_lt_of_le (hTl k hk) hb.size))
  have FW := Lib.hid (fun wx (hb : Below W.heap.size W wx) => few_any (c0 := c0) (c1 := c1) (hR.later hb) (hO.later hb))
  have NW := Lib.hid (fun wx (hb : Below W.heap.size W wx) (hs : RSize l) => new_ra (cap := c0) hT hTl hR hb hs)
  have HOb := Lib.hid (fun wx (hb : Below W.heap.size W wx) => hO.later hb)
  have HOl := Lib.hid hO.1
  have HRl := Lib.hid hR.1
  have HOz := Lib.hid hO.2.1
  have HOo := Lib.hid (fun i => @OA.some W a1 m os hO i)
  have B0 := Lib.hid (Below.refl W.heap.size W)
  have nn := nil_no
  have ny := nil_yes
  have ss := strs_same
  clear hT hTl hR hO
  go_enter Tryd.func4, Tryd.ntmps4
  go_wp2_with fail
  refine (AW.out _ B0.out).mono ?_
  rintro e w1 ⟨rfl, hb1⟩
  have B1 := Lib.hid hb1
  clear hb1
  go_wp2_with fail
  refine (FW.out _ B1.out).mono ?_
  rintro e w2 ⟨⟨q, rfl, hq⟩, hb2⟩
  have B2 := Lib.hid (below_step B1.out hb2)
  clear hb2
  cases q with
  | false =>
    clear hq
    go_wp2_with fail
    refine (AW.out _ B2.out).mono ?_
    rintro e w3 ⟨rfl, hb3⟩
    go_wp2_with fail
    go_ret
    exact ⟨rfl, below_step B2.out hb3⟩
  | true =>
    obtain ⟨hs, h500⟩ := hq rfl
    have HS := Lib.hid hs
    have hm5 : m ≤ 500 := by rw [← HOl.out]; exact h500
    have hn2 : n ≤ 200 := by rw [← HRl.out]; exact hs.1
    clear hq hs h500
    go_wp2_with fail
    refine (NW.out _ B2.out HS.out).mono ?_
    rintro e w3 ⟨hb3, ⟨hg, L, rfl, hP⟩ | ⟨hn, x, hx, rfl⟩⟩
    rotate_left
    · have tx : (x != 0) = true := by simpa using hx
      have HB3 := Lib.hid (below_step B2.out hb3)
      clear hb3 hn hx
      go_wp2_with fail
      go_ret
      exact ⟨rfl, HB3.out⟩
    obtain ⟨G, hG⟩ : ∃ G, L.G = G := ⟨_, rfl⟩
    have HF0 : Hid (Fru l W w3 G 0 L (newE l) st0 avN (.slice none 0 0) (.slice none 0 0) [] []) := Lib.hid ⟨hG, hP.gr, hP.own B2.out hb3, rfl, ⟨⟨rfl, .inl ⟨rfl, rfl⟩⟩, ⟨rfl, .inl ⟨rfl, rfl⟩⟩, fun k hk => (by cases hk), fun k hk => (by cases hk), fun k hk => (by cases hk)⟩, .inl ⟨rfl, rfl⟩⟩
    rw [hG]
    clear hG hg hP hb3
    obtain ⟨i0, hi0, hz0, hz1, hz2⟩ := parts3 info9
    go_wp2_with fail
    go_loopw [7, 8, 9] (fun nv tv v wr => ∃ (i : Nat) (L : Lay) (E : Env) (s : St) (av : Nat → Value) (ns ts : List ByteArray), i ≤ m ∧ v = .int .i64 i ∧ Fru l W wr G (5 * i) L E s av nv tv ns ts ∧ ns.length ≤ i) (fun _ _ v _ => m - (intOf v).toNat)
    case atStart => exact ⟨0, L, _, _, _, [], [], by omega, rfl, HF0.out, by simp⟩
    case round =>
      clear HF0
      obtain ⟨i, L, E, s, av, ns, ts, hi, rfl, hf, hnb⟩ := hrel
      have HF0 := Lib.hid hf
      have HNb0 := Lib.hid hnb
      clear hf hnb
      by_cases hlt : i < m
      · have ti : decide ((i : Int) < (m : Int)) = true := by simp; omega
        obtain ⟨b, o, rfl⟩ := HOo.out i hlt
        have hil : i < os.length := by rw [HOl.out]; exact hlt
        obtain ⟨z, hz⟩ : ∃ z, os[i]? = some z := ⟨_, List.getElem?_eq_getElem hil⟩
        obtain ⟨z0, z1, z2⟩ := op_at (HOb.out wr HF0.out.own.below) hz
        have HZ := Lib.hid hz
        have HZs := Lib.hid (HOz.out z (List.mem_of_getElem? hz))
        have ii : (0 : Int) ≤ (i : Int) := by omega
        have hlti : (i : Int) < (m : Int) := by omega
        clear hil hz
        by_cases hk : z.k = 1
        · have tk : (z.k == 1) = true := by simpa using hk
          have KS := Lib.hid (Set_any (HF0.out.gr.later (Below.refl _ _).drew) (by omega) (n := z.n) (t := z.t) HZs.out.1)
          rw [HF0.out.G] at KS
          clear hk
          by_cases h0 : setC E z.n z.t = 0
          · have tc : (setC E z.n z.t == 0) = true := by simpa using h0
            go_wp2_with fail
            refine wp_region_held_drew (S := (fun w' => w'.cell? ⟨b, o + i * 3, none⟩ = some (.int .i64 z.k) ∧ w'.cell? ⟨b, o + i * 3 + 1, none⟩ = some (.string z.n) ∧ w'.cell? ⟨b, o + i * 3 + 2, none⟩ = some (.string z.t))) (by kernel_rfl) ⟨z0, z1, z2⟩ (fun hHeld => ?_)
            refine wpAnyH_take (i := 0) (v := ?_) (show _ = some { dst := some 42, op := _, type := _, pos := _, after := _, guard := _ } from rfl) (by kernel_rfl) (by kernel_rfl) (by kernel_rfl) (fun _ _ _ h => h) (Or.inl ⟨by rfl, ?_⟩) hHeld ?_
            rotate_left
            · intro w' hSw
              (try dsimp only at hSw)
              go_simp
              try with_reducible rfl
            try simp only [Act.put, List.setIfInBounds_toArray, List.set_cons_zero, List.set_cons_succ]
            refine wpAnyH_take (i := 1) (v := ?_) (show _ = some { dst := some 43, op := _, type := _, pos := _, after := _, guard := _ } from rfl) (by kernel_rfl) (by kernel_rfl) (by kernel_rfl) (fun _ _ _ h => h) (Or.inl ⟨by rfl, ?_⟩) hHeld ?_
            rotate_left
            · intro w' hSw
              (try dsimp only at hSw)
              go_simp
              try with_reducible rfl
            try simp only [Act.put, List.setIfInBounds_toArray, List.set_cons_zero, List.set_cons_succ]
            refine wpAnyH_take (i := 2) (v := ?_) (show _ = some { dst := some 44, op := _, type := _, pos := _, after := _, guard := _ } from rfl) (by kernel_rfl) (by kernel_rfl) (by kernel_rfl) (fun _ _ _ h => h) (Or.inl ⟨by rfl, ?_⟩) hHeld ?_
            rotate_left
            · intro w' hSw
              (try dsimp only at hSw)
              go_simp
              try with_reducible rfl
            try simp only [Act.put, List.setIfInBounds_toArray, List.set_cons_zero, List.set_cons_succ]
            refine wpAnyH_take (i := 3) (v := ?_) (show _ = some { dst := some 45, op := _, type := _, pos := _, after := _, guard := _ } from rfl) (by kernel_rfl) (by kernel_rfl) (by kernel_rfl) (fun _ _ _ h => h) (Or.inl ⟨by rfl, ?_⟩) hHeld ?_
            rotate_left
            · intro w' hSw
              (try dsimp only at hSw)
              go_simp
              try with_reducible rfl
            try simp only [Act.put, List.setIfInBounds_toArray, List.set_cons_zero, List.set_cons_succ]
            refine wpAnyH_take (i := 4) (v := ?_) (show _ = some { dst := some 46, op := _, type := _, pos := _, after := _, guard := _ } from rfl) (by kernel_rfl) (by kernel_rfl) (by kernel_rfl) (fun _ _ _ h => h) (Or.inl ⟨by rfl, ?_⟩) hHeld ?_
            rotate_left
            · intro w' hSw
              (try dsimp only at hSw)
              go_simp
              try with_reducible rfl
            try simp only [Act.put, List.setIfInBounds_toArray, List.set_cons_zero, List.set_cons_succ]
            refine wpAnyH_take (i := 5) (v := ?_) (show _ = some { dst := some 47, op := _, type := _, pos := _, after := _, guard := _ } from rfl) (by kernel_rfl) (by kernel_rfl) (by kernel_rfl) (fun _ _ _ h => h) (Or.inl ⟨by rfl, ?_⟩) hHeld ?_
            rotate_left
            · intro w' hSw
              (try dsimp only at hSw)
              go_simp
              try with_reducible rfl
            try simp only [Act.put, List.setIfInBounds_toArray, List.set_cons_zero, List.set_cons_succ]
            refine wpAnyH_take (i := 6) (v := ?_) (show _ = some { dst := some 48, op := _, type := _, pos := _, after := _, guard := _ } from rfl) (by kernel_rfl) (by kernel_rfl) (by kernel_rfl) (fun _ _ _ h => h) (Or.inl ⟨by rfl, ?_⟩) hHeld ?_
            rotate_left
            · intro w' hSw
              (try dsimp only at hSw)
              go_simp
              try with_reducible rfl
            try simp only [Act.put, List.setIfInBounds_toArray, List.set_cons_zero, List.set_cons_succ]
            refine wpAnyH_take (i := 7) (v := ?_) (show _ = some { dst := some 49, op := _, type := _, pos := _, after := _, guard := _ } from rfl) (by kernel_rfl) (by kernel_rfl) (by kernel_rfl) (fun _ _ _ h => h) (Or.inl ⟨by rfl, ?_⟩) hHeld ?_
            rotate_left
            · intro w' hSw
              (try dsimp only at hSw)
              go_simp
              try with_reducible rfl
            try simp only [Act.put, List.setIfInBounds_toArray, List.set_cons_zero, List.set_cons_succ]
            refine wpAnyH_take (i := 8) (v := ?_) (show _ = some { dst := some 50, op := _, type := _, pos := _, after := _, guard := _ } from rfl) (by kernel_rfl) (by kernel_rfl) (by kernel_rfl) (fun _ _ _ h => h) (Or.inl ⟨by rfl, ?_⟩) hHeld ?_
            rotate_left
            · intro w' hSw
              (try dsimp only at hSw)
              go_simp
              try with_reducible rfl
            try simp only [Act.put, List.setIfInBounds_toArray, List.set_cons_zero, List.set_cons_succ]
            refine wpAnyH_take (i := 9) (v := ?_) (show _ = some { dst := some 51, op := _, type := _, pos := _, after := _, guard := _ } from rfl) (by kernel_rfl) (by kernel_rfl) (by kernel_rfl) (fun _ _ _ h => h) (Or.inl ⟨by rfl, ?_⟩) hHeld ?_
            rotate_left
            · intro w' hSw
              (try dsimp only at hSw)
              go_simp
              try with_reducible rfl
            try simp only [Act.put, List.setIfInBounds_toArray, List.set_cons_zero, List.set_cons_succ]
            refine wpAnyH_take (i := 10) (v := ?_) (show _ = some { dst := some 52, op := _, type := _, pos := _, after := _, guard := _ } from rfl) (by kernel_rfl) (by kernel_rfl) (by kernel_rfl) (fun _ _ _ h => h) (Or.inl ⟨by rfl, ?_⟩) hHeld ?_
            rotate_left
            · intro w' hSw
              (try dsimp only at hSw)
              go_simp
              try with_reducible rfl
            try simp only [Act.put, List.setIfInBounds_toArray, List.set_cons_zero, List.set_cons_succ]
            refine wpAnyH_take (i := 11) (v := ?_) (show _ = some { dst := some 53, op := _, type := _, pos := _, after := _, guard := _ } from rfl) (by kernel_rfl) (by kernel_rfl) (by kernel_rfl) (fun _ _ _ h => h) (Or.inl ⟨by rfl, ?_⟩) hHeld ?_
            rotate_left
            · intro w' hSw
              (try dsimp only at hSw)
              go_simp
              try with_reducible rfl
            try simp only [Act.put, List.setIfInBounds_toArray, List.set_cons_zero, List.set_cons_succ]
            refine wpAnyH_take (i := 12) (v := ?_) (show _ = some { dst := some 54, op := _, type := _, pos := _, after := _, guard := _ } from rfl) (by kernel_rfl) (by kernel_rfl) (by kernel_rfl) (fun _ _ _ h => h) (Or.inl ⟨by rfl, ?_⟩) hHeld ?_
            rotate_left
            · intro w' hSw
              (try dsimp only at hSw)
              go_simp
              try with_reducible rfl
            try simp only [Act.put, List.setIfInBounds_toArray, List.set_cons_zero, List.set_cons_succ]
            refine wpAnyH_take (i := 13) (v := ?_) (show _ = some { dst := some 55, op := _, type := _, pos := _, after := _, guard := _ } from rfl) (by kernel_rfl) (by kernel_rfl) (by kernel_rfl) (fun _ _ _ h => h) (Or.inl ⟨by rfl, ?_⟩) hHeld ?_
            rotate_left
            · intro w' hSw
              (try dsimp only at hSw)
              go_simp
              try with_reducible rfl
            try simp only [Act.put, List.setIfInBounds_toArray, List.set_cons_zero, List.set_cons_succ]
            refine wpAnyH_take (i := 14) (v := ?_) (show _ = some { dst := some 56, op := _, type := _, pos := _, after := _, guard := _ } from rfl) (by kernel_rfl) (by kernel_rfl) (by kernel_rfl) (fun _ _ _ h => h) (Or.inl ⟨by rfl, ?_⟩) hHeld ?_
            rotate_left
            · intro w' hSw
              (try dsimp only at hSw)
              go_simp
              try with_reducible rfl
            try simp only [Act.put, List.setIfInBounds_toArray, List.set_cons_zero, List.set_cons_succ]
            refine wpAnyH_take (i := 15) (v := ?_) (show _ = some { dst := some 57, op := _, type := _, pos := _, after := _, guard := _ } from rfl) (by kernel_rfl) (by kernel_rfl) (by kernel_rfl) (fun _ _ _ h => h) (Or.inl ⟨by rfl, ?_⟩) hHeld ?_
            rotate_left
            · intro w' hSw
              (try dsimp only at hSw)
              go_simp
              try with_reducible rfl
            try simp only [Act.put, List.setIfInBounds_toArray, List.set_cons_zero, List.set_cons_succ]
            refine wpAnyH_take (i := 16) (v := ?_) (show _ = some { dst := some 58, op := _, type := _, pos := _, after := _, guard := _ } from rfl) (by kernel_rfl) (by kernel_rfl) (by kernel_rfl) (fun _ _ _ h => h) (Or.inl ⟨by rfl, ?_⟩) hHeld ?_
            rotate_left
            · intro w' hSw
              (try dsimp only at hSw)
              go_simp
              try with_reducible rfl
            try simp only [Act.put, List.setIfInBounds_toArray, List.set_cons_zero, List.set_cons_succ]
            refine wpAnyH_take (i := 17) (v := ?_) (show _ = some { dst := some 59, op := _, type := _, pos := _, after := _, guard := _ } from rfl) (by kernel_rfl) (by kernel_rfl) (by kernel_rfl) (fun _ _ _ h => h) (Or.inl ⟨by rfl, ?_⟩) hHeld ?_
            rotate_left
            · intro w' hSw
              (try dsimp only at hSw)
              go_simp
              try with_reducible rfl
            try simp only [Act.put, List.setIfInBounds_toArray, List.set_cons_zero, List.set_cons_succ]
            refine wpAnyH_ready (rs := [18]) (by kernel_rfl) (by simp) ?_
            refine AllReadyH.cons (show _ = some { dst := some 60, op := _, type := _, pos := _, after := _, guard := _ } from rfl) (fun K hK => ?_) AllReadyH.nil
            go_simp
            refine KS.out.mono ?_
            rintro e WS ⟨L', hG', rfl, hg', hs'⟩
            have HO2 := Lib.hid (Own.step (HF0.out.own.later (Below.refl _ _).drew) hs'.fi)
            have HR2 := Lib.hid ((HF0.out.rows.later (Below.refl _ _).drew).step hs')
            have HG2 := Lib.hid hg'
            have HGe := Lib.hid (hG'.trans HF0.out.G)
            have HC3 := Lib.hid (op_at (HOb.out _ HO2.out.below) HZ.out)
            clear hg' hs' hG'
            go_wp2_with fail
            refine hK.out _ _ (HC3.out) (fun hHeld => ?_)
            clear hK K
            try simp only [Act.put, List.setIfInBounds_toArray, List.set_cons_zero, List.set_cons_succ]
            refine wpAnyH_take (i := 19) (v := ?_) (show _ = some { dst := some 61, op := _, type := _, pos := _, after := _, guard := _ } from rfl) (by kernel_rfl) (by kernel_rfl) (by kernel_rfl) (fun _ _ _ h => h) (Or.inl ⟨by rfl, ?_⟩) hHeld ?_
            rotate_left
            · intro w' hSw
              (try dsimp only at hSw)
              go_simp
              try with_reducible rfl
            try simp only [Act.put, List.setIfInBounds_toArray, List.set_cons_zero, List.set_cons_succ]
            refine wpAnyH_take (i := 20) (v := ?_) (show _ = some { dst := some 62, op := _, type := _, pos := _, after := _, guard := _ } from rfl) (by kernel_rfl) (by kernel_rfl) (by kernel_rfl) (fun _ _ _ h => h) (Or.inl ⟨by rfl, ?_⟩) hHeld ?_
            rotate_left
            · intro w' hSw
              (try dsimp only at hSw)
              go_simp
              try with_reducible rfl
            try simp only [Act.put, List.setIfInBounds_toArray, List.set_cons_zero, List.set_cons_succ]
            refine wpAnyH_done (by kernel_rfl) ?_ _
            clear hHeld
            obtain ⟨z0, z1, z2⟩ := HC3.out
            have hnb5 := HNb0.out
            have hWS := HO2.out.below.size
            have htn : ts.length ≤ 500 := by have := HF0.out.last.len; omega
            go_wp2_with (at_builtin; refine wpList_append_own_at _ rfl _ _ 35 rfl W.heap.size 9 i0 (.string ⟨#[]⟩) 1 16 Tryd.underlying35 hi0 hz0 hz1 hz2 rfl (by decide) _ _ _ rfl (HR2.out.n.alloc _) ⟨WS.heap.size, 0, none⟩ 1 1 [.string z.n] rfl rfl ?a1 ?a2 ?a3 ?a4 ?a5 ?_)
            case a1 => exact cells_new WS [.string z.n] 9
            case a2 => simp [Value.oneCell']
            case a3 => unfold maxLen; omega
            case a4 => omega
            case a5 => simp; omega
            intro v1 wA hown1 hgr1 _ hob1
            obtain ⟨hgA, hoA, hrA⟩ := push_all HG2.out HO2.out HR2.out ((Below.refl _ _).alloc (Nat.le_refl _) _) hown1 hgr1 (by rw [World.size_alloc]; exact hob1)
            have HGA := Lib.hid hgA
            have HOA := Lib.hid hoA
            have HRA := Lib.hid hrA
            have hWA := hoA.below.size
            clear hgA hoA hrA hown1 hgr1 hob1 z0 z1 z2 hWS
            obtain ⟨z0, z1, z2⟩ := op_at (HOb.out _ HOA.out.below) HZ.out
            go_wp2_with (at_builtin; refine wpList_append_own_at _ rfl _ _ 35 rfl W.heap.size 9 i0 (.string ⟨#[]⟩) 1 16 Tryd.underlying35 hi0 hz0 hz1 hz2 rfl (by decide) _ _ _ rfl (HRA.out.t.alloc _) ⟨wA.heap.size, 0, none⟩ 1 1 [.string z.t] rfl rfl ?b1 ?b2 ?b3 ?b4 ?b5 ?_)
            case b1 => exact cells_new wA [.string z.t] 9
            case b2 => simp [Value.oneCell']
            case b3 => unfold maxLen; omega
            case b4 => omega
            case b5 => simp; omega
            intro v2 wB hown2 hgr2 _ hob2
            obtain ⟨hgB, hoB, hrB⟩ := push_all HGA.out HOA.out HRA.out.flip ((Below.refl _ _).alloc (Nat.le_refl _) _) hown2 hgr2 (by rw [World.size_alloc]; exact hob2)
            have HF := Lib.hid (Fru.mk (l := l) HGe.out hgB hoB ((setsE_rules _ _ _).trans HF0.out.rules) hrB.flip (last_new h0 HZs.out.1 HF0.out.last.len))
            have HNb : Hid ((ns ++ [z.n]).length ≤ i + 1) := Lib.hid (by simp; omega)
            clear hgB hoB hrB hown2 hgr2 hob2 z0 z1 z2 hWA htn hnb5 h0 tc HG2 HO2 HR2 HGe HC3 HF0 HNb0 KS HGA HOA HRA
            generalize setsE E z.n z.t = E1 at HF
            generalize setsS E z.n z.t s = s1 at HF
            generalize ns ++ [z.n] = ns1 at HF HNb
            generalize ts ++ [z.t] = ts1 at HF
            rcases HF.out.last with hl | hl
            · obtain ⟨rfl, rfl⟩ := hl
              obtain ⟨An, cn, rfl, -⟩ := own_slice HF.out.rows.n
              obtain ⟨At, ct, rfl, -⟩ := own_slice HF.out.rows.t
              have KR0 := Lib.hid (Runs_any HF.out.gr)
              rw [HF.out.G] at KR0
              go_wp2_with fail
              refine KR0.out.mono ?_
              rintro e wa ⟨rfl, rfl⟩
              obtain ⟨z0, z1, z2⟩ := op_at (HOb.out _ HF.out.own.below) HZ.out
              have KA := Lib.hid (Ask_any HF.out.gr (by omega) (a := z.n) HZs.out.1)
              rw [HF.out.G] at KA
              clear KR0
              go_wp2_with fail
              refine KA.out.mono ?_
              rintro e w5 ⟨s5, av5, rfl, hg5, hs5, -, hr1, hr2, -, hdn5, -⟩
              have HF5 := Lib.hid (HF.out.step rfl hg5 hs5)
              rw [HF.out.rules, HRl.out] at hr2
              have hru := HF5.out.gr.runs
              have hru0 := HF.out.gr.runs0
              have hru1 := HF.out.gr.runs
              have hruc := HF5.out.gr.runs0
              have tm1 : decide (s5.runs < s1.runs) = false := by simp; omega
              have tm2 : wrap64 (s1.runs + (n : Int)) = s1.runs + (n : Int) := by rw [← w64_eq]; exact w64_in (by omega) (by omega)
              have tm3 : decide (s1.runs + (n : Int) < s5.runs) = false := by simp; omega
              have KR5 := Lib.hid (Runs_any HF5.out.gr)
              rw [HF.out.G] at KR5
              have KA5 := Lib.hid (Ask_any HF5.out.gr (by omega) (a := z.n) HZs.out.1)
              rw [HF.out.G] at KA5
              have HD5 := Lib.hid hdn5
              clear hg5 hs5 hr1 hr2 hru hru0 hru1 hruc KA z0 z1 z2 hdn5
              obtain ⟨z0, z1, z2⟩ := op_at (HOb.out _ HF5.out.own.below) HZ.out
              go_wp2_with fail
              refine KR5.out.mono ?_
              rintro e wb ⟨rfl, rfl⟩
              go_wp2_with fail
              refine KA5.out.mono ?_
              rintro e w6 ⟨s6, av6, rfl, hg6, hs6, -, -, -, -, hdn6, hst6⟩
              have HF6 := Lib.hid (HF5.out.step rfl hg6 hs6)
              have HR6 := Lib.hid (hst6 HD5.out)
              have KR6 := Lib.hid (Runs_any HF6.out.gr)
              rw [HF.out.G, HR6.out] at KR6
              have HD6 := Lib.hid hdn6
              clear hg6 hs6 hst6 hdn6 KR5 KA5
              go_wp2_with fail
              refine KR6.out.mono ?_
              rintro e wc ⟨rfl, rfl⟩
              go_wp2_with fail
              exact ⟨⟨i + 1, L', E1, s6, av6, [], [], by omega, by simp, HF6.out.more (by omega), by simp⟩, by simp [intOf]; omega⟩
            · obtain ⟨ns', n0, ts', t0, rfl, rfl, hln, hi0, hf0, ht0, hn0⟩ := hl
              have HLs := Lib.hid (last_set hi0 hf0 ht0)
              obtain ⟨gn, cn, rfl, -, -⟩ := row_last HF.out.rows.n
              obtain ⟨gt, ct, rfl, -, -⟩ := row_last HF.out.rows.t
              have hnl : ns'.length ≤ 1000 := by have := HNb.out; simp at this; omega
              have htl : ts'.length ≤ 1000 := by omega
              have tl0 : decide ((0 : Int) < ((ns'.length + 1 : Nat) : Int)) = true := by simp
              have tw1 : IntKind.i64.wrap (ns'.length : Int) = (ns'.length : Int) := w64_in (by omega) (by omega)
              have tw2 : IntKind.i64.wrap (ts'.length : Int) = (ts'.length : Int) := w64_in (by omega) (by omega)
              have tw3 : (ns'.length : Int) < (ns'.length : Int) + 1 := by omega
              have tw4 : (ts'.length : Int) < (ts'.length : Int) + 1 := by omega
              have tw5 : (0 : Int) ≤ (ns'.length : Int) := by omega
              have tw6 : (0 : Int) ≤ (ts'.length : Int) := by omega
              clear hi0 hf0 ht0 hln
              have KR0 := Lib.hid (Runs_any HF.out.gr)
              rw [HF.out.G] at KR0
              go_wp2_with fail
              refine KR0.out.mono ?_
              rintro e wa ⟨rfl, rfl⟩
              obtain ⟨z0, z1, z2⟩ := op_at (HOb.out _ HF.out.own.below) HZ.out
              have KA := Lib.hid (Ask_any HF.out.gr (by omega) (a := z.n) HZs.out.1)
              rw [HF.out.G] at KA
              clear KR0
              go_wp2_with fail
              refine KA.out.mono ?_
              rintro e w5 ⟨s5, av5, rfl, hg5, hs5, -, hr1, hr2, -, hdn5, -⟩
              have HF5 := Lib.hid (HF.out.step rfl hg5 hs5)
              rw [HF.out.rules, HRl.out] at hr2
              have hru := HF5.out.gr.runs
              have hru0 := HF.out.gr.runs0
              have hru1 := HF.out.gr.runs
              have hruc := HF5.out.gr.runs0
              have tm1 : decide (s5.runs < s1.runs) = false := by simp; omega
              have tm2 : wrap64 (s1.runs + (n : Int)) = s1.runs + (n : Int) := by rw [← w64_eq]; exact w64_in (by omega) (by omega)
              have tm3 : decide (s1.runs + (n : Int) < s5.runs) = false := by simp; omega
              have KR5 := Lib.hid (Runs_any HF5.out.gr)
              rw [HF.out.G] at KR5
              have KA5 := Lib.hid (Ask_any HF5.out.gr (by omega) (a := z.n) HZs.out.1)
              rw [HF.out.G] at KA5
              have HD5 := Lib.hid hdn5
              clear hg5 hs5 hr1 hr2 hru hru0 hru1 hruc KA z0 z1 z2 hdn5
              obtain ⟨z0, z1, z2⟩ := op_at (HOb.out _ HF5.out.own.below) HZ.out
              go_wp2_with fail
              refine KR5.out.mono ?_
              rintro e wb ⟨rfl, rfl⟩
              go_wp2_with fail
              refine KA5.out.mono ?_
              rintro e w6 ⟨s6, av6, rfl, hg6, hs6, -, -, -, -, hdn6, hst6⟩
              have HF6 := Lib.hid (HF5.out.step rfl hg6 hs6)
              have HR6 := Lib.hid (hst6 HD5.out)
              have KR6 := Lib.hid (Runs_any HF6.out.gr)
              rw [HF.out.G, HR6.out] at KR6
              have HD6 := Lib.hid hdn6
              clear hg6 hs6 hst6 hdn6 KR5 KA5
              go_wp2_with fail
              refine KR6.out.mono ?_
              rintro e wc ⟨rfl, rfl⟩
              have KS := Lib.hid (Set_any (HF6.out.gr.later (Below.refl _ _).drew) (by omega) (n := n0) (t := t0) hn0)
              rw [HF.out.G] at KS
              have p0 : wc.drew.cell? ⟨gn, ns'.length, none⟩ = some (.string n0) := row_lastc HF6.out.rows.n
              have p1 : wc.drew.cell? ⟨gt, ts'.length, none⟩ = some (.string t0) := row_lastc HF6.out.rows.t
              clear z0 z1 z2
              go_wp2_with fail
              refine wp_region_held_drew (S := (fun w' => w'.cell? ⟨gn, ns'.length, none⟩ = some (.string n0) ∧ w'.cell? ⟨gt, ts'.length, none⟩ = some (.string t0))) (by kernel_rfl) ⟨p0, p1⟩ (fun hHeld => ?_)
              refine wpAnyH_take (i := 0) (v := ?_) (show _ = some { dst := some 133, op := _, type := _, pos := _, after := _, guard := _ } from rfl) (by kernel_rfl) (by kernel_rfl) (by kernel_rfl) (fun _ _ _ h => h) (Or.inl ⟨by rfl, ?_⟩) hHeld ?_
              rotate_left
              · intro w' hSw
                (try dsimp only at hSw)
                go_simp
                try with_reducible rfl
              try simp only [Act.put, List.setIfInBounds_toArray, List.set_cons_zero, List.set_cons_succ]
              refine wpAnyH_take (i := 1) (v := ?_) (show _ = some { dst := some 134, op := _, type := _, pos := _, after := _, guard := _ } from rfl) (by kernel_rfl) (by kernel_rfl) (by kernel_rfl) (fun _ _ _ h => h) (Or.inl ⟨by rfl, ?_⟩) hHeld ?_
              rotate_left
              · intro w' hSw
                (try dsimp only at hSw)
                go_simp
                try with_reducible rfl
              try simp only [Act.put, List.setIfInBounds_toArray, List.set_cons_zero, List.set_cons_succ]
              refine wpAnyH_take (i := 2) (v := ?_) (show _ = some { dst := some 135, op := _, type := _, pos := _, after := _, guard := _ } from rfl) (by kernel_rfl) (by kernel_rfl) (by kernel_rfl) (fun _ _ _ h => h) (Or.inl ⟨by rfl, ?_⟩) hHeld ?_
              rotate_left
              · intro w' hSw
                (try dsimp only at hSw)
                go_simp
                try with_reducible rfl
              try simp only [Act.put, List.setIfInBounds_toArray, List.set_cons_zero, List.set_cons_succ]
              refine wpAnyH_take (i := 3) (v := ?_) (show _ = some { dst := some 136, op := _, type := _, pos := _, after := _, guard := _ } from rfl) (by kernel_rfl) (by kernel_rfl) (by kernel_rfl) (fun _ _ _ h => h) (Or.inl ⟨by rfl, ?_⟩) hHeld ?_
              rotate_left
              · intro w' hSw
                (try dsimp only at hSw)
                go_simp
                try with_reducible rfl
              try simp only [Act.put, List.setIfInBounds_toArray, List.set_cons_zero, List.set_cons_succ]
              refine wpAnyH_take (i := 4) (v := ?_) (show _ = some { dst := some 137, op := _, type := _, pos := _, after := _, guard := _ } from rfl) (by kernel_rfl) (by kernel_rfl) (by kernel_rfl) (fun _ _ _ h => h) (Or.inl ⟨by rfl, ?_⟩) hHeld ?_
              rotate_left
              · intro w' hSw
                (try dsimp only at hSw)
                go_simp
                try with_reducible rfl
              try simp only [Act.put, List.setIfInBounds_toArray, List.set_cons_zero, List.set_cons_succ]
              refine wpAnyH_take (i := 5) (v := ?_) (show _ = some { dst := some 138, op := _, type := _, pos := _, after := _, guard := _ } from rfl) (by kernel_rfl) (by kernel_rfl) (by kernel_rfl) (fun _ _ _ h => h) (Or.inl ⟨by rfl, ?_⟩) hHeld ?_
              rotate_left
              · intro w' hSw
                (try dsimp only at hSw)
                go_simp
                try with_reducible rfl
              try simp only [Act.put, List.setIfInBounds_toArray, List.set_cons_zero, List.set_cons_succ]
              refine wpAnyH_take (i := 6) (v := ?_) (show _ = some { dst := some 139, op := _, type := _, pos := _, after := _, guard := _ } from rfl) (by kernel_rfl) (by kernel_rfl) (by kernel_rfl) (fun _ _ _ h => h) (Or.inl ⟨by rfl, ?_⟩) hHeld ?_
              rotate_left
              · intro w' hSw
                (try dsimp only at hSw)
                go_simp
                try with_reducible rfl
              try simp only [Act.put, List.setIfInBounds_toArray, List.set_cons_zero, List.set_cons_succ]
              refine wpAnyH_take (i := 7) (v := ?_) (show _ = some { dst := some 140, op := _, type := _, pos := _, after := _, guard := _ } from rfl) (by kernel_rfl) (by kernel_rfl) (by kernel_rfl) (fun _ _ _ h => h) (Or.inl ⟨by rfl, ?_⟩) hHeld ?_
              rotate_left
              · intro w' hSw
                (try dsimp only at hSw)
                go_simp
                try with_reducible rfl
              try simp only [Act.put, List.setIfInBounds_toArray, List.set_cons_zero, List.set_cons_succ]
              refine wpAnyH_take (i := 8) (v := ?_) (show _ = some { dst := some 141, op := _, type := _, pos := _, after := _, guard := _ } from rfl) (by kernel_rfl) (by kernel_rfl) (by kernel_rfl) (fun _ _ _ h => h) (Or.inl ⟨by rfl, ?_⟩) hHeld ?_
              rotate_left
              · intro w' hSw
                (try dsimp only at hSw)
                go_simp
                try with_reducible rfl
              try simp only [Act.put, List.setIfInBounds_toArray, List.set_cons_zero, List.set_cons_succ]
              refine wpAnyH_take (i := 9) (v := ?_) (show _ = some { dst := some 142, op := _, type := _, pos := _, after := _, guard := _ } from rfl) (by kernel_rfl) (by kernel_rfl) (by kernel_rfl) (fun _ _ _ h => h) (Or.inl ⟨by rfl, ?_⟩) hHeld ?_
              rotate_left
              · intro w' hSw
                (try dsimp only at hSw)
                go_simp
                try with_reducible rfl
              try simp only [Act.put, List.setIfInBounds_toArray, List.set_cons_zero, List.set_cons_succ]
              refine wpAnyH_take (i := 10) (v := ?_) (show _ = some { dst := some 143, op := _, type := _, pos := _, after := _, guard := _ } from rfl) (by kernel_rfl) (by kernel_rfl) (by kernel_rfl) (fun _ _ _ h => h) (Or.inl ⟨by rfl, ?_⟩) hHeld ?_
              rotate_left
              · intro w' hSw
                (try dsimp only at hSw)
                go_simp
                try with_reducible rfl
              try simp only [Act.put, List.setIfInBounds_toArray, List.set_cons_zero, List.set_cons_succ]
              refine wpAnyH_take (i := 11) (v := ?_) (show _ = some { dst := some 144, op := _, type := _, pos := _, after := _, guard := _ } from rfl) (by kernel_rfl) (by kernel_rfl) (by kernel_rfl) (fun _ _ _ h => h) (Or.inl ⟨by rfl, ?_⟩) hHeld ?_
              rotate_left
              · intro w' hSw
                (try dsimp only at hSw)
                go_simp
                try with_reducible rfl
              try simp only [Act.put, List.setIfInBounds_toArray, List.set_cons_zero, List.set_cons_succ]
              refine wpAnyH_take (i := 12) (v := ?_) (show _ = some { dst := some 145, op := _, type := _, pos := _, after := _, guard := _ } from rfl) (by kernel_rfl) (by kernel_rfl) (by kernel_rfl) (fun _ _ _ h => h) (Or.inl ⟨by rfl, ?_⟩) hHeld ?_
              rotate_left
              · intro w' hSw
                (try dsimp only at hSw)
                go_simp
                try with_reducible rfl
              try simp only [Act.put, List.setIfInBounds_toArray, List.set_cons_zero, List.set_cons_succ]
              refine wpAnyH_ready (rs := [13]) (by kernel_rfl) (by simp) ?_
              refine AllReadyH.cons (show _ = some { dst := some 146, op := _, type := _, pos := _, after := _, guard := _ } from rfl) (fun K hK => ?_) AllReadyH.nil
              go_simp
              refine KS.out.mono ?_
              rintro e w7 ⟨L7, hG7, rfl, hg7, hs7⟩
              rw [HLs.out.2] at hg7 hs7
              have hS7 : setsS E1 n0 t0 s6 = setS s6 := by unfold setsS; rw [if_pos HLs.out.1]
              rw [hS7] at hg7
              have HF7 := Lib.hid ((HF6.out.later (Below.refl _ _).drew).step hG7 hg7 hs7)
              have HC7 := Lib.hid (And.intro (row_lastc HF7.out.rows.n) (row_lastc HF7.out.rows.t))
              clear hg7 hs7 hS7
              go_wp2_with fail
              refine hK.out _ _ (HC7.out) (fun hHeld => ?_)
              clear hK K
              try simp only [Act.put, List.setIfInBounds_toArray, List.set_cons_zero, List.set_cons_succ]
              refine wpAnyH_done (by kernel_rfl) ?_ _
              clear hHeld
              obtain ⟨z0, z1, z2⟩ := op_at (HOb.out _ HF7.out.own.below) HZ.out
              have KA7 := Lib.hid (Ask_any HF7.out.gr (by omega) (a := z.n) HZs.out.1)
              rw [HF7.out.G] at KA7
              go_wp2_with fail
              refine KA7.out.mono ?_
              rintro e w8 ⟨s8, av8, rfl, hg8, hs8, -, -, -, -, -, hst8⟩
              have HF8 := Lib.hid (HF7.out.step rfl hg8 hs8)
              have HR8 := Lib.hid ((hst8 (done_set HD6.out)).trans HR6.out)
              have KR8 := Lib.hid (Runs_any HF8.out.gr)
              rw [HF7.out.G, HR8.out] at KR8
              clear hg8 hs8 hst8 KA7
              go_wp2_with fail
              refine KR8.out.mono ?_
              rintro e wd ⟨rfl, rfl⟩
              go_wp2_with fail
              exact ⟨⟨i + 1, L7, E1, s8, av8, ns' ++ [n0], ts' ++ [t0], by omega, by simp, HF8.out.more (by omega), HNb.out⟩, by simp [intOf]; omega⟩
          · have tc : (setC E z.n z.t == 0) = false := by simpa using h0
            go_wp2_with fail
            refine wp_region_held_drew (S := (fun w' => w'.cell? ⟨b, o + i * 3, none⟩ = some (.int .i64 z.k) ∧ w'.cell? ⟨b, o + i * 3 + 1, none⟩ = some (.string z.n) ∧ w'.cell? ⟨b, o + i * 3 + 2, none⟩ = some (.string z.t))) (by kernel_rfl) ⟨z0, z1, z2⟩ (fun hHeld => ?_)
            refine wpAnyH_take (i := 0) (v := ?_) (show _ = some { dst := some 42, op := _, type := _, pos := _, after := _, guard := _ } from rfl) (by kernel_rfl) (by kernel_rfl) (by kernel_rfl) (fun _ _ _ h => h) (Or.inl ⟨by rfl, ?_⟩) hHeld ?_
            rotate_left
            · intro w' hSw
              (try dsimp only at hSw)
              go_simp
              try with_reducible rfl
            try simp only [Act.put, List.setIfInBounds_toArray, List.set_cons_zero, List.set_cons_succ]
            refine wpAnyH_take (i := 1) (v := ?_) (show _ = some { dst := some 43, op := _, type := _, pos := _, after := _, guard := _ } from rfl) (by kernel_rfl) (by kernel_rfl) (by kernel_rfl) (fun _ _ _ h => h) (Or.inl ⟨by rfl, ?_⟩) hHeld ?_
            rotate_left
            · intro w' hSw
              (try dsimp only at hSw)
              go_simp
              try with_reducible rfl
            try simp only [Act.put, List.setIfInBounds_toArray, List.set_cons_zero, List.set_cons_succ]
            refine wpAnyH_take (i := 2) (v := ?_) (show _ = some { dst := some 44, op := _, type := _, pos := _, after := _, guard := _ } from rfl) (by kernel_rfl) (by kernel_rfl) (by kernel_rfl) (fun _ _ _ h => h) (Or.inl ⟨by rfl, ?_⟩) hHeld ?_
            rotate_left
            · intro w' hSw
              (try dsimp only at hSw)
              go_simp
              try with_reducible rfl
            try simp only [Act.put, List.setIfInBounds_toArray, List.set_cons_zero, List.set_cons_succ]
            refine wpAnyH_take (i := 3) (v := ?_) (show _ = some { dst := some 45, op := _, type := _, pos := _, after := _, guard := _ } from rfl) (by kernel_rfl) (by kernel_rfl) (by kernel_rfl) (fun _ _ _ h => h) (Or.inl ⟨by rfl, ?_⟩) hHeld ?_
            rotate_left
            · intro w' hSw
              (try dsimp only at hSw)
              go_simp
              try with_reducible rfl
            try simp only [Act.put, List.setIfInBounds_toArray, List.set_cons_zero, List.set_cons_succ]
            refine wpAnyH_take (i := 4) (v := ?_) (show _ = some { dst := some 46, op := _, type := _, pos := _, after := _, guard := _ } from rfl) (by kernel_rfl) (by kernel_rfl) (by kernel_rfl) (fun _ _ _ h => h) (Or.inl ⟨by rfl, ?_⟩) hHeld ?_
            rotate_left
            · intro w' hSw
              (try dsimp only at hSw)
              go_simp
              try with_reducible rfl
            try simp only [Act.put, List.setIfInBounds_toArray, List.set_cons_zero, List.set_cons_succ]
            refine wpAnyH_take (i := 5) (v := ?_) (show _ = some { dst := some 47, op := _, type := _, pos := _, after := _, guard := _ } from rfl) (by kernel_rfl) (by kernel_rfl) (by kernel_rfl) (fun _ _ _ h => h) (Or.inl ⟨by rfl, ?_⟩) hHeld ?_
            rotate_left
            · intro w' hSw
              (try dsimp only at hSw)
              go_simp
              try with_reducible rfl
            try simp only [Act.put, List.setIfInBounds_toArray, List.set_cons_zero, List.set_cons_succ]
            refine wpAnyH_take (i := 6) (v := ?_) (show _ = some { dst := some 48, op := _, type := _, pos := _, after := _, guard := _ } from rfl) (by kernel_rfl) (by kernel_rfl) (by kernel_rfl) (fun _ _ _ h => h) (Or.inl ⟨by rfl, ?_⟩) hHeld ?_
            rotate_left
            · intro w' hSw
              (try dsimp only at hSw)
              go_simp
              try with_reducible rfl
            try simp only [Act.put, List.setIfInBounds_toArray, List.set_cons_zero, List.set_cons_succ]
            refine wpAnyH_take (i := 7) (v := ?_) (show _ = some { dst := some 49, op := _, type := _, pos := _, after := _, guard := _ } from rfl) (by kernel_rfl) (by kernel_rfl) (by kernel_rfl) (fun _ _ _ h => h) (Or.inl ⟨by rfl, ?_⟩) hHeld ?_
            rotate_left
            · intro w' hSw
              (try dsimp only at hSw)
              go_simp
              try with_reducible rfl
            try simp only [Act.put, List.setIfInBounds_toArray, List.set_cons_zero, List.set_cons_succ]
            refine wpAnyH_take (i := 8) (v := ?_) (show _ = some { dst := some 50, op := _, type := _, pos := _, after := _, guard := _ } from rfl) (by kernel_rfl) (by kernel_rfl) (by kernel_rfl) (fun _ _ _ h => h) (Or.inl ⟨by rfl, ?_⟩) hHeld ?_
            rotate_left
            · intro w' hSw
              (try dsimp only at hSw)
              go_simp
              try with_reducible rfl
            try simp only [Act.put, List.setIfInBounds_toArray, List.set_cons_zero, List.set_cons_succ]
            refine wpAnyH_take (i := 9) (v := ?_) (show _ = some { dst := some 51, op := _, type := _, pos := _, after := _, guard := _ } from rfl) (by kernel_rfl) (by kernel_rfl) (by kernel_rfl) (fun _ _ _ h => h) (Or.inl ⟨by rfl, ?_⟩) hHeld ?_
            rotate_left
            · intro w' hSw
              (try dsimp only at hSw)
              go_simp
              try with_reducible rfl
            try simp only [Act.put, List.setIfInBounds_toArray, List.set_cons_zero, List.set_cons_succ]
            refine wpAnyH_take (i := 10) (v := ?_) (show _ = some { dst := some 52, op := _, type := _, pos := _, after := _, guard := _ } from rfl) (by kernel_rfl) (by kernel_rfl) (by kernel_rfl) (fun _ _ _ h => h) (Or.inl ⟨by rfl, ?_⟩) hHeld ?_
            rotate_left
            · intro w' hSw
              (try dsimp only at hSw)
              go_simp
              try with_reducible rfl
            try simp only [Act.put, List.setIfInBounds_toArray, List.set_cons_zero, List.set_cons_succ]
            refine wpAnyH_take (i := 11) (v := ?_) (show _ = some { dst := some 53, op := _, type := _, pos := _, after := _, guard := _ } from rfl) (by kernel_rfl) (by kernel_rfl) (by kernel_rfl) (fun _ _ _ h => h) (Or.inl ⟨by rfl, ?_⟩) hHeld ?_
            rotate_left
            · intro w' hSw
              (try dsimp only at hSw)
              go_simp
              try with_reducible rfl
            try simp only [Act.put, List.setIfInBounds_toArray, List.set_cons_zero, List.set_cons_succ]
            refine wpAnyH_take (i := 12) (v := ?_) (show _ = some { dst := some 54, op := _, type := _, pos := _, after := _, guard := _ } from rfl) (by kernel_rfl) (by kernel_rfl) (by kernel_rfl) (fun _ _ _ h => h) (Or.inl ⟨by rfl, ?_⟩) hHeld ?_
            rotate_left
            · intro w' hSw
              (try dsimp only at hSw)
              go_simp
              try with_reducible rfl
            try simp only [Act.put, List.setIfInBounds_toArray, List.set_cons_zero, List.set_cons_succ]
            refine wpAnyH_take (i := 13) (v := ?_) (show _ = some { dst := some 55, op := _, type := _, pos := _, after := _, guard := _ } from rfl) (by kernel_rfl) (by kernel_rfl) (by kernel_rfl) (fun _ _ _ h => h) (Or.inl ⟨by rfl, ?_⟩) hHeld ?_
            rotate_left
            · intro w' hSw
              (try dsimp only at hSw)
              go_simp
              try with_reducible rfl
            try simp only [Act.put, List.setIfInBounds_toArray, List.set_cons_zero, List.set_cons_succ]
            refine wpAnyH_take (i := 14) (v := ?_) (show _ = some { dst := some 56, op := _, type := _, pos := _, after := _, guard := _ } from rfl) (by kernel_rfl) (by kernel_rfl) (by kernel_rfl) (fun _ _ _ h => h) (Or.inl ⟨by rfl, ?_⟩) hHeld ?_
            rotate_left
            · intro w' hSw
              (try dsimp only at hSw)
              go_simp
              try with_reducible rfl
            try simp only [Act.put, List.setIfInBounds_toArray, List.set_cons_zero, List.set_cons_succ]
            refine wpAnyH_take (i := 15) (v := ?_) (show _ = some { dst := some 57, op := _, type := _, pos := _, after := _, guard := _ } from rfl) (by kernel_rfl) (by kernel_rfl) (by kernel_rfl) (fun _ _ _ h => h) (Or.inl ⟨by rfl, ?_⟩) hHeld ?_
            rotate_left
            · intro w' hSw
              (try dsimp only at hSw)
              go_simp
              try with_reducible rfl
            try simp only [Act.put, List.setIfInBounds_toArray, List.set_cons_zero, List.set_cons_succ]
            refine wpAnyH_take (i := 16) (v := ?_) (show _ = some { dst := some 58, op := _, type := _, pos := _, after := _, guard := _ } from rfl) (by kernel_rfl) (by kernel_rfl) (by kernel_rfl) (fun _ _ _ h => h) (Or.inl ⟨by rfl, ?_⟩) hHeld ?_
            rotate_left
            · intro w' hSw
              (try dsimp only at hSw)
              go_simp
              try with_reducible rfl
            try simp only [Act.put, List.setIfInBounds_toArray, List.set_cons_zero, List.set_cons_succ]
            refine wpAnyH_take (i := 17) (v := ?_) (show _ = some { dst := some 59, op := _, type := _, pos := _, after := _, guard := _ } from rfl) (by kernel_rfl) (by kernel_rfl) (by kernel_rfl) (fun _ _ _ h => h) (Or.inl ⟨by rfl, ?_⟩) hHeld ?_
            rotate_left
            · intro w' hSw
              (try dsimp only at hSw)
              go_simp
              try with_reducible rfl
            try simp only [Act.put, List.setIfInBounds_toArray, List.set_cons_zero, List.set_cons_succ]
            refine wpAnyH_ready (rs := [18]) (by kernel_rfl) (by simp) ?_
            refine AllReadyH.cons (show _ = some { dst := some 60, op := _, type := _, pos := _, after := _, guard := _ } from rfl) (fun K hK => ?_) AllReadyH.nil
            go_simp
            refine KS.out.mono ?_
            rintro e WS ⟨L', hG', rfl, hg', hs'⟩
            have HO2 := Lib.hid (Own.step (HF0.out.own.later (Below.refl _ _).drew) hs'.fi)
            have HR2 := Lib.hid ((HF0.out.rows.later (Below.refl _ _).drew).step hs')
            have HG2 := Lib.hid hg'
            have HGe := Lib.hid (hG'.trans HF0.out.G)
            have HC3 := Lib.hid (op_at (HOb.out _ HO2.out.below) HZ.out)
            clear hg' hs' hG'
            go_wp2_with fail
            refine hK.out _ _ (HC3.out) (fun hHeld => ?_)
            clear hK K
            try simp only [Act.put, List.setIfInBounds_toArray, List.set_cons_zero, List.set_cons_succ]
            refine wpAnyH_take (i := 19) (v := ?_) (show _ = some { dst := some 61, op := _, type := _, pos := _, after := _, guard := _ } from rfl) (by kernel_rfl) (by kernel_rfl) (by kernel_rfl) (fun _ _ _ h => h) (Or.inl ⟨by rfl, ?_⟩) hHeld ?_
            rotate_left
            · intro w' hSw
              (try dsimp only at hSw)
              go_simp
              try with_reducible rfl
            try simp only [Act.put, List.setIfInBounds_toArray, List.set_cons_zero, List.set_cons_succ]
            refine wpAnyH_take (i := 20) (v := ?_) (show _ = some { dst := some 62, op := _, type := _, pos := _, after := _, guard := _ } from rfl) (by kernel_rfl) (by kernel_rfl) (by kernel_rfl) (fun _ _ _ h => h) (Or.inl ⟨by rfl, ?_⟩) hHeld ?_
            rotate_left
            · intro w' hSw
              (try dsimp only at hSw)
              go_simp
              try with_reducible rfl
            try simp only [Act.put, List.setIfInBounds_toArray, List.set_cons_zero, List.set_cons_succ]
            refine wpAnyH_done (by kernel_rfl) ?_ _
            clear hHeld
            obtain ⟨hE0, hS0⟩ := sets_no h0
            have hg2 := HG2.out
            have ho2 := HO2.out
            have hr2 := HR2.out
            rw [hE0, hS0] at hg2
            rw [hE0] at ho2 hr2
            have HF := Lib.hid (Fru.mk HGe.out hg2 ho2 HF0.out.rules hr2 HF0.out.last)
            have HNb : Hid (ns.length ≤ i + 1) := Lib.hid (by have := HNb0.out; omega)
            clear hg2 ho2 hr2 hE0 hS0 h0 HG2 HO2 HR2 HGe HC3 HF0 HNb0 KS
            rcases HF.out.last with hl | hl
            · obtain ⟨rfl, rfl⟩ := hl
              obtain ⟨An, cn, rfl, -⟩ := own_slice HF.out.rows.n
              obtain ⟨At, ct, rfl, -⟩ := own_slice HF.out.rows.t
              have KR0 := Lib.hid (Runs_any HF.out.gr)
              rw [HF.out.G] at KR0
              go_wp2_with fail
              refine KR0.out.mono ?_
              rintro e wa ⟨rfl, rfl⟩
              obtain ⟨z0, z1, z2⟩ := op_at (HOb.out _ HF.out.own.below) HZ.out
              have KA := Lib.hid (Ask_any HF.out.gr (by omega) (a := z.n) HZs.out.1)
              rw [HF.out.G] at KA
              clear KR0
              go_wp2_with fail
              refine KA.out.mono ?_
              rintro e w5 ⟨s5, av5, rfl, hg5, hs5, -, hr1, hr2, -, hdn5, -⟩
              have HF5 := Lib.hid (HF.out.step rfl hg5 hs5)
              rw [HF.out.rules, HRl.out] at hr2
              have hru := HF5.out.gr.runs
              have hru0 := HF.out.gr.runs0
              have hru1 := HF.out.gr.runs
              have hruc := HF5.out.gr.runs0
              have tm1 : decide (s5.runs < s.runs) = false := by simp; omega
              have tm2 : wrap64 (s.runs + (n : Int)) = s.runs + (n : Int) := by rw [← w64_eq]; exact w64_in (by omega) (by omega)
              have tm3 : decide (s.runs + (n : Int) < s5.runs) = false := by simp; omega
              have KR5 := Lib.hid (Runs_any HF5.out.gr)
              rw [HF.out.G] at KR5
              have KA5 := Lib.hid (Ask_any HF5.out.gr (by omega) (a := z.n) HZs.out.1)
              rw [HF.out.G] at KA5
              have HD5 := Lib.hid hdn5
              clear hg5 hs5 hr1 hr2 hru hru0 hru1 hruc KA z0 z1 z2 hdn5
              obtain ⟨z0, z1, z2⟩ := op_at (HOb.out _ HF5.out.own.below) HZ.out
              go_wp2_with fail
              refine KR5.out.mono ?_
              rintro e wb ⟨rfl, rfl⟩
              go_wp2_with fail
              refine KA5.out.mono ?_
              rintro e w6 ⟨s6, av6, rfl, hg6, hs6, -, -, -, -, hdn6, hst6⟩
              have HF6 := Lib.hid (HF5.out.step rfl hg6 hs6)
              have HR6 := Lib.hid (hst6 HD5.out)
              have KR6 := Lib.hid (Runs_any HF6.out.gr)
              rw [HF.out.G, HR6.out] at KR6
              have HD6 := Lib.hid hdn6
              clear hg6 hs6 hst6 hdn6 KR5 KA5
              go_wp2_with fail
              refine KR6.out.mono ?_
              rintro e wc ⟨rfl, rfl⟩
              go_wp2_with fail
              exact ⟨⟨i + 1, L', E, s6, av6, [], [], by omega, by simp, HF6.out.more (by omega), by simp⟩, by simp [intOf]; omega⟩
            · obtain ⟨ns', n0, ts', t0, rfl, rfl, hln, hi0, hf0, ht0, hn0⟩ := hl
              have HLs := Lib.hid (last_set hi0 hf0 ht0)
              obtain ⟨gn, cn, rfl, -, -⟩ := row_last HF.out.rows.n
              obtain ⟨gt, ct, rfl, -, -⟩ := row_last HF.out.rows.t
              have hnl : ns'.length ≤ 1000 := by have := HNb.out; simp at this; omega
              have htl : ts'.length ≤ 1000 := by omega
              have tl0 : decide ((0 : Int) < ((ns'.length + 1 : Nat) : Int)) = true := by simp
              have tw1 : IntKind.i64.wrap (ns'.length : Int) = (ns'.length : Int) := w64_in (by omega) (by omega)
              have tw2 : IntKind.i64.wrap (ts'.length : Int) = (ts'.length : Int) := w64_in (by omega) (by omega)
              have tw3 : (ns'.length : Int) < (ns'.length : Int) + 1 := by omega
              have tw4 : (ts'.length : Int) < (ts'.length : Int) + 1 := by omega
              have tw5 : (0 : Int) ≤ (ns'.length : Int) := by omega
              have tw6 : (0 : Int) ≤ (ts'.length : Int) := by omega
              clear hi0 hf0 ht0 hln
              have KR0 := Lib.hid (Runs_any HF.out.gr)
              rw [HF.out.G] at KR0
              go_wp2_with fail
              refine KR0.out.mono ?_
              rintro e wa ⟨rfl, rfl⟩
              obtain ⟨z0, z1, z2⟩ := op_at (HOb.out _ HF.out.own.below) HZ.out
              have KA := Lib.hid (Ask_any HF.out.gr (by omega) (a := z.n) HZs.out.1)
              rw [HF.out.G] at KA
              clear KR0
              go_wp2_with fail
              refine KA.out.mono ?_
              rintro e w5 ⟨s5, av5, rfl, hg5, hs5, -, hr1, hr2, -, hdn5, -⟩
              have HF5 := Lib.hid (HF.out.step rfl hg5 hs5)
              rw [HF.out.rules, HRl.out] at hr2
              have hru := HF5.out.gr.runs
              have hru0 := HF.out.gr.runs0
              have hru1 := HF.out.gr.runs
              have hruc := HF5.out.gr.runs0
              have tm1 : decide (s5.runs < s.runs) = false := by simp; omega
              have tm2 : wrap64 (s.runs + (n : Int)) = s.runs + (n : Int) := by rw [← w64_eq]; exact w64_in (by omega) (by omega)
              have tm3 : decide (s.runs + (n : Int) < s5.runs) = false := by simp; omega
              have KR5 := Lib.hid (Runs_any HF5.out.gr)
              rw [HF.out.G] at KR5
              have KA5 := Lib.hid (Ask_any HF5.out.gr (by omega) (a := z.n) HZs.out.1)
              rw [HF.out.G] at KA5
              have HD5 := Lib.hid hdn5
              clear hg5 hs5 hr1 hr2 hru hru0 hru1 hruc KA z0 z1 z2 hdn5
              obtain ⟨z0, z1, z2⟩ := op_at (HOb.out _ HF5.out.own.below) HZ.out
              go_wp2_with fail
              refine KR5.out.mono ?_
              rintro e wb ⟨rfl, rfl⟩
              go_wp2_with fail
              refine KA5.out.mono ?_
              rintro e w6 ⟨s6, av6, rfl, hg6, hs6, -, -, -, -, hdn6, hst6⟩
              have HF6 := Lib.hid (HF5.out.step rfl hg6 hs6)
              have HR6 := Lib.hid (hst6 HD5.out)
              have KR6 := Lib.hid (Runs_any HF6.out.gr)
              rw [HF.out.G, HR6.out] at KR6
              have HD6 := Lib.hid hdn6
              clear hg6 hs6 hst6 hdn6 KR5 KA5
              go_wp2_with fail
              refine KR6.out.mono ?_
              rintro e wc ⟨rfl, rfl⟩
              have KS := Lib.hid (Set_any (HF6.out.gr.later (Below.refl _ _).drew) (by omega) (n := n0) (t := t0) hn0)
              rw [HF.out.G] at KS
              have p0 : wc.drew.cell? ⟨gn, ns'.length, none⟩ = some (.string n0) := row_lastc HF6.out.rows.n
              have p1 : wc.drew.cell? ⟨gt, ts'.length, none⟩ = some (.string t0) := row_lastc HF6.out.rows.t
              clear z0 z1 z2
              go_wp2_with fail
              refine wp_region_held_drew (S := (fun w' => w'.cell? ⟨gn, ns'.length, none⟩ = some (.string n0) ∧ w'.cell? ⟨gt, ts'.length, none⟩ = some (.string t0))) (by kernel_rfl) ⟨p0, p1⟩ (fun hHeld => ?_)
              refine wpAnyH_take (i := 0) (v := ?_) (show _ = some { dst := some 133, op := _, type := _, pos := _, after := _, guard := _ } from rfl) (by kernel_rfl) (by kernel_rfl) (by kernel_rfl) (fun _ _ _ h => h) (Or.inl ⟨by rfl, ?_⟩) hHeld ?_
              rotate_left
              · intro w' hSw
                (try dsimp only at hSw)
                go_simp
                try with_reducible rfl
              try simp only [Act.put, List.setIfInBounds_toArray, List.set_cons_zero, List.set_cons_succ]
              refine wpAnyH_take (i := 1) (v := ?_) (show _ = some { dst := some 134, op := _, type := _, pos := _, after := _, guard := _ } from rfl) (by kernel_rfl) (by kernel_rfl) (by kernel_rfl) (fun _ _ _ h => h) (Or.inl ⟨by rfl, ?_⟩) hHeld ?_
              rotate_left
              · intro w' hSw
                (try dsimp only at hSw)
                go_simp
                try with_reducible rfl
              try simp only [Act.put, List.setIfInBounds_toArray, List.set_cons_zero, List.set_cons_succ]
              refine wpAnyH_take (i := 2) (v := ?_) (show _ = some { dst := some 135, op := _, type := _, pos := _, after := _, guard := _ } from rfl) (by kernel_rfl) (by kernel_rfl) (by kernel_rfl) (fun _ _ _ h => h) (Or.inl ⟨by rfl, ?_⟩) hHeld ?_
              rotate_left
              · intro w' hSw
                (try dsimp only at hSw)
                go_simp
                try with_reducible rfl
              try simp only [Act.put, List.setIfInBounds_toArray, List.set_cons_zero, List.set_cons_succ]
              refine wpAnyH_take (i := 3) (v := ?_) (show _ = some { dst := some 136, op := _, type := _, pos := _, after := _, guard := _ } from rfl) (by kernel_rfl) (by kernel_rfl) (by kernel_rfl) (fun _ _ _ h => h) (Or.inl ⟨by rfl, ?_⟩) hHeld ?_
              rotate_left
              · intro w' hSw
                (try dsimp only at hSw)
                go_simp
                try with_reducible rfl
              try simp only [Act.put, List.setIfInBounds_toArray, List.set_cons_zero, List.set_cons_succ]
              refine wpAnyH_take (i := 4) (v := ?_) (show _ = some { dst := some 137, op := _, type := _, pos := _, after := _, guard := _ } from rfl) (by kernel_rfl) (by kernel_rfl) (by kernel_rfl) (fun _ _ _ h => h) (Or.inl ⟨by rfl, ?_⟩) hHeld ?_
              rotate_left
              · intro w' hSw
                (try dsimp only at hSw)
                go_simp
                try with_reducible rfl
              try simp only [Act.put, List.setIfInBounds_toArray, List.set_cons_zero, List.set_cons_succ]
              refine wpAnyH_take (i := 5) (v := ?_) (show _ = some { dst := some 138, op := _, type := _, pos := _, after := _, guard := _ } from rfl) (by kernel_rfl) (by kernel_rfl) (by kernel_rfl) (fun _ _ _ h => h) (Or.inl ⟨by rfl, ?_⟩) hHeld ?_
              rotate_left
              · intro w' hSw
                (try dsimp only at hSw)
                go_simp
                try with_reducible rfl
              try simp only [Act.put, List.setIfInBounds_toArray, List.set_cons_zero, List.set_cons_succ]
              refine wpAnyH_take (i := 6) (v := ?_) (show _ = some { dst := some 139, op := _, type := _, pos := _, after := _, guard := _ } from rfl) (by kernel_rfl) (by kernel_rfl) (by kernel_rfl) (fun _ _ _ h => h) (Or.inl ⟨by rfl, ?_⟩) hHeld ?_
              rotate_left
              · intro w' hSw
                (try dsimp only at hSw)
                go_simp
                try with_reducible rfl
              try simp only [Act.put, List.setIfInBounds_toArray, List.set_cons_zero, List.set_cons_succ]
              refine wpAnyH_take (i := 7) (v := ?_) (show _ = some { dst := some 140, op := _, type := _, pos := _, after := _, guard := _ } from rfl) (by kernel_rfl) (by kernel_rfl) (by kernel_rfl) (fun _ _ _ h => h) (Or.inl ⟨by rfl, ?_⟩) hHeld ?_
              rotate_left
              · intro w' hSw
                (try dsimp only at hSw)
                go_simp
                try with_reducible rfl
              try simp only [Act.put, List.setIfInBounds_toArray, List.set_cons_zero, List.set_cons_succ]
              refine wpAnyH_take (i := 8) (v := ?_) (show _ = some { dst := some 141, op := _, type := _, pos := _, after := _, guard := _ } from rfl) (by kernel_rfl) (by kernel_rfl) (by kernel_rfl) (fun _ _ _ h => h) (Or.inl ⟨by rfl, ?_⟩) hHeld ?_
              rotate_left
              · intro w' hSw
                (try dsimp only at hSw)
                go_simp
                try with_reducible rfl
              try simp only [Act.put, List.setIfInBounds_toArray, List.set_cons_zero, List.set_cons_succ]
              refine wpAnyH_take (i := 9) (v := ?_) (show _ = some { dst := some 142, op := _, type := _, pos := _, after := _, guard := _ } from rfl) (by kernel_rfl) (by kernel_rfl) (by kernel_rfl) (fun _ _ _ h => h) (Or.inl ⟨by rfl, ?_⟩) hHeld ?_
              rotate_left
              · intro w' hSw
                (try dsimp only at hSw)
                go_simp
                try with_reducible rfl
              try simp only [Act.put, List.setIfInBounds_toArray, List.set_cons_zero, List.set_cons_succ]
              refine wpAnyH_take (i := 10) (v := ?_) (show _ = some { dst := some 143, op := _, type := _, pos := _, after := _, guard := _ } from rfl) (by kernel_rfl) (by kernel_rfl) (by kernel_rfl) (fun _ _ _ h => h) (Or.inl ⟨by rfl, ?_⟩) hHeld ?_
              rotate_left
              · intro w' hSw
                (try dsimp only at hSw)
                go_simp
                try with_reducible rfl
              try simp only [Act.put, List.setIfInBounds_toArray, List.set_cons_zero, List.set_cons_succ]
              refine wpAnyH_take (i := 11) (v := ?_) (show _ = some { dst := some 144, op := _, type := _, pos := _, after := _, guard := _ } from rfl) (by kernel_rfl) (by kernel_rfl) (by kernel_rfl) (fun _ _ _ h => h) (Or.inl ⟨by rfl, ?_⟩) hHeld ?_
              rotate_left
              · intro w' hSw
                (try dsimp only at hSw)
                go_simp
                try with_reducible rfl
              try simp only [Act.put, List.setIfInBounds_toArray, List.set_cons_zero, List.set_cons_succ]
              refine wpAnyH_take (i := 12) (v := ?_) (show _ = some { dst := some 145, op := _, type := _, pos := _, after := _, guard := _ } from rfl) (by kernel_rfl) (by kernel_rfl) (by kernel_rfl) (fun _ _ _ h => h) (Or.inl ⟨by rfl, ?_⟩) hHeld ?_
              rotate_left
              · intro w' hSw
                (try dsimp only at hSw)
                go_simp
                try with_reducible rfl
              try simp only [Act.put, List.setIfInBounds_toArray, List.set_cons_zero, List.set_cons_succ]
              refine wpAnyH_ready (rs := [13]) (by kernel_rfl) (by simp) ?_
              refine AllReadyH.cons (show _ = some { dst := some 146, op := _, type := _, pos := _, after := _, guard := _ } from rfl) (fun K hK => ?_) AllReadyH.nil
              go_simp
              refine KS.out.mono ?_
              rintro e w7 ⟨L7, hG7, rfl, hg7, hs7⟩
              rw [HLs.out.2] at hg7 hs7
              have hS7 : setsS E n0 t0 s6 = setS s6 := by unfold setsS; rw [if_pos HLs.out.1]
              rw [hS7] at hg7
              have HF7 := Lib.hid ((HF6.out.later (Below.refl _ _).drew).step hG7 hg7 hs7)
              have HC7 := Lib.hid (And.intro (row_lastc HF7.out.rows.n) (row_lastc HF7.out.rows.t))
              clear hg7 hs7 hS7
              go_wp2_with fail
              refine hK.out _ _ (HC7.out) (fun hHeld => ?_)
              clear hK K
              try simp only [Act.put, List.setIfInBounds_toArray, List.set_cons_zero, List.set_cons_succ]
              refine wpAnyH_done (by kernel_rfl) ?_ _
              clear hHeld
              obtain ⟨z0, z1, z2⟩ := op_at (HOb.out _ HF7.out.own.below) HZ.out
              have KA7 := Lib.hid (Ask_any HF7.out.gr (by omega) (a := z.n) HZs.out.1)
              rw [HF7.out.G] at KA7
              go_wp2_with fail
              refine KA7.out.mono ?_
              rintro e w8 ⟨s8, av8, rfl, hg8, hs8, -, -, -, -, -, hst8⟩
              have HF8 := Lib.hid (HF7.out.step rfl hg8 hs8)
              have HR8 := Lib.hid ((hst8 (done_set HD6.out)).trans HR6.out)
              have KR8 := Lib.hid (Runs_any HF8.out.gr)
              rw [HF7.out.G, HR8.out] at KR8
              clear hg8 hs8 hst8 KA7
              go_wp2_with fail
              refine KR8.out.mono ?_
              rintro e wd ⟨rfl, rfl⟩
              go_wp2_with fail
              exact ⟨⟨i + 1, L7, E, s8, av8, ns' ++ [n0], ts' ++ [t0], by omega, by simp, HF8.out.more (by omega), HNb.out⟩, by simp [intOf]; omega⟩
        · have tk : (z.k == 1) = false := by simpa using hk
          have HF := Lib.hid (HF0.out.later (Below.refl _ _).drew |>.more (Nat.le_succ _))
          have HNb : Hid (ns.length ≤ i + 1) := Lib.hid (by have := HNb0.out; omega)
          clear hk HNb0
          go_wp2_with fail
          refine wp_region_held_drew (S := (fun w' => w'.cell? ⟨b, o + i * 3, none⟩ = some (.int .i64 z.k) ∧ w'.cell? ⟨b, o + i * 3 + 1, none⟩ = some (.string z.n) ∧ w'.cell? ⟨b, o + i * 3 + 2, none⟩ = some (.string z.t))) (by kernel_rfl) ⟨z0, z1, z2⟩ (fun hHeld => ?_)
          refine wpAnyH_take (i := 0) (v := ?_) (show _ = some { dst := some 42, op := _, type := _, pos := _, after := _, guard := _ } from rfl) (by kernel_rfl) (by kernel_rfl) (by kernel_rfl) (fun _ _ _ h => h) (Or.inl ⟨by rfl, ?_⟩) hHeld ?_
          rotate_left
          · intro w' hSw
            (try dsimp only at hSw)
            go_simp
            try with_reducible rfl
          try simp only [Act.put, List.setIfInBounds_toArray, List.set_cons_zero, List.set_cons_succ]
          refine wpAnyH_take (i := 1) (v := ?_) (show _ = some { dst := some 43, op := _, type := _, pos := _, after := _, guard := _ } from rfl) (by kernel_rfl) (by kernel_rfl) (by kernel_rfl) (fun _ _ _ h => h) (Or.inl ⟨by rfl, ?_⟩) hHeld ?_
          rotate_left
          · intro w' hSw
            (try dsimp only at hSw)
            go_simp
            try with_reducible rfl
          try simp only [Act.put, List.setIfInBounds_toArray, List.set_cons_zero, List.set_cons_succ]
          refine wpAnyH_take (i := 2) (v := ?_) (show _ = some { dst := some 44, op := _, type := _, pos := _, after := _, guard := _ } from rfl) (by kernel_rfl) (by kernel_rfl) (by kernel_rfl) (fun _ _ _ h => h) (Or.inl ⟨by rfl, ?_⟩) hHeld ?_
          rotate_left
          · intro w' hSw
            (try dsimp only at hSw)
            go_simp
            try with_reducible rfl
          try simp only [Act.put, List.setIfInBounds_toArray, List.set_cons_zero, List.set_cons_succ]
          refine wpAnyH_take (i := 3) (v := ?_) (show _ = some { dst := some 45, op := _, type := _, pos := _, after := _, guard := _ } from rfl) (by kernel_rfl) (by kernel_rfl) (by kernel_rfl) (fun _ _ _ h => h) (Or.inl ⟨by rfl, ?_⟩) hHeld ?_
          rotate_left
          · intro w' hSw
            (try dsimp only at hSw)
            go_simp
            try with_reducible rfl
          try simp only [Act.put, List.setIfInBounds_toArray, List.set_cons_zero, List.set_cons_succ]
          refine wpAnyH_take (i := 4) (v := ?_) (show _ = some { dst := some 46, op := _, type := _, pos := _, after := _, guard := _ } from rfl) (by kernel_rfl) (by kernel_rfl) (by kernel_rfl) (fun _ _ _ h => h) (Or.inl ⟨by rfl, ?_⟩) hHeld ?_
          rotate_left
          · intro w' hSw
            (try dsimp only at hSw)
            go_simp
            try with_reducible rfl
          try simp only [Act.put, List.setIfInBounds_toArray, List.set_cons_zero, List.set_cons_succ]
          refine wpAnyH_take (i := 5) (v := ?_) (show _ = some { dst := some 47, op := _, type := _, pos := _, after := _, guard := _ } from rfl) (by kernel_rfl) (by kernel_rfl) (by kernel_rfl) (fun _ _ _ h => h) (Or.inl ⟨by rfl, ?_⟩) hHeld ?_
          rotate_left
          · intro w' hSw
            (try dsimp only at hSw)
            go_simp
            try with_reducible rfl
          try simp only [Act.put, List.setIfInBounds_toArray, List.set_cons_zero, List.set_cons_succ]
          refine wpAnyH_take (i := 6) (v := ?_) (show _ = some { dst := some 48, op := _, type := _, pos := _, after := _, guard := _ } from rfl) (by kernel_rfl) (by kernel_rfl) (by kernel_rfl) (fun _ _ _ h => h) (Or.inl ⟨by rfl, ?_⟩) hHeld ?_
          rotate_left
          · intro w' hSw
            (try dsimp only at hSw)
            go_simp
            try with_reducible rfl
          try simp only [Act.put, List.setIfInBounds_toArray, List.set_cons_zero, List.set_cons_succ]
          refine wpAnyH_take (i := 7) (v := undef) (show _ = some { dst := some 49, op := _, type := _, pos := _, after := _, guard := _ } from rfl) (by kernel_rfl) (by kernel_rfl) (by kernel_rfl) (fun _ _ _ h => h) (Or.inr ⟨by rfl, rfl⟩) hHeld ?_
          try simp only [Act.put, List.setIfInBounds_toArray, List.set_cons_zero, List.set_cons_succ]
          refine wpAnyH_take (i := 8) (v := undef) (show _ = some { dst := some 50, op := _, type := _, pos := _, after := _, guard := _ } from rfl) (by kernel_rfl) (by kernel_rfl) (by kernel_rfl) (fun _ _ _ h => h) (Or.inr ⟨by rfl, rfl⟩) hHeld ?_
          try simp only [Act.put, List.setIfInBounds_toArray, List.set_cons_zero, List.set_cons_succ]
          refine wpAnyH_take (i := 9) (v := undef) (show _ = some { dst := some 51, op := _, type := _, pos := _, after := _, guard := _ } from rfl) (by kernel_rfl) (by kernel_rfl) (by kernel_rfl) (fun _ _ _ h => h) (Or.inr ⟨by rfl, rfl⟩) hHeld ?_
          try simp only [Act.put, List.setIfInBounds_toArray, List.set_cons_zero, List.set_cons_succ]
          refine wpAnyH_take (i := 10) (v := undef) (show _ = some { dst := some 52, op := _, type := _, pos := _, after := _, guard := _ } from rfl) (by kernel_rfl) (by kernel_rfl) (by kernel_rfl) (fun _ _ _ h => h) (Or.inr ⟨by rfl, rfl⟩) hHeld ?_
          try simp only [Act.put, List.setIfInBounds_toArray, List.set_cons_zero, List.set_cons_succ]
          refine wpAnyH_take (i := 11) (v := undef) (show _ = some { dst := some 53, op := _, type := _, pos := _, after := _, guard := _ } from rfl) (by kernel_rfl) (by kernel_rfl) (by kernel_rfl) (fun _ _ _ h => h) (Or.inr ⟨by rfl, rfl⟩) hHeld ?_
          try simp only [Act.put, List.setIfInBounds_toArray, List.set_cons_zero, List.set_cons_succ]
          refine wpAnyH_take (i := 12) (v := undef) (show _ = some { dst := some 54, op := _, type := _, pos := _, after := _, guard := _ } from rfl) (by kernel_rfl) (by kernel_rfl) (by kernel_rfl) (fun _ _ _ h => h) (Or.inr ⟨by rfl, rfl⟩) hHeld ?_
          try simp only [Act.put, List.setIfInBounds_toArray, List.set_cons_zero, List.set_cons_succ]
          refine wpAnyH_take (i := 13) (v := undef) (show _ = some { dst := some 55, op := _, type := _, pos := _, after := _, guard := _ } from rfl) (by kernel_rfl) (by kernel_rfl) (by kernel_rfl) (fun _ _ _ h => h) (Or.inr ⟨by rfl, rfl⟩) hHeld ?_
          try simp only [Act.put, List.setIfInBounds_toArray, List.set_cons_zero, List.set_cons_succ]
          refine wpAnyH_take (i := 14) (v := undef) (show _ = some { dst := some 56, op := _, type := _, pos := _, after := _, guard := _ } from rfl) (by kernel_rfl) (by kernel_rfl) (by kernel_rfl) (fun _ _ _ h => h) (Or.inr ⟨by rfl, rfl⟩) hHeld ?_
          try simp only [Act.put, List.setIfInBounds_toArray, List.set_cons_zero, List.set_cons_succ]
          refine wpAnyH_take (i := 15) (v := undef) (show _ = some { dst := some 57, op := _, type := _, pos := _, after := _, guard := _ } from rfl) (by kernel_rfl) (by kernel_rfl) (by kernel_rfl) (fun _ _ _ h => h) (Or.inr ⟨by rfl, rfl⟩) hHeld ?_
          try simp only [Act.put, List.setIfInBounds_toArray, List.set_cons_zero, List.set_cons_succ]
          refine wpAnyH_take (i := 16) (v := undef) (show _ = some { dst := some 58, op := _, type := _, pos := _, after := _, guard := _ } from rfl) (by kernel_rfl) (by kernel_rfl) (by kernel_rfl) (fun _ _ _ h => h) (Or.inr ⟨by rfl, rfl⟩) hHeld ?_
          try simp only [Act.put, List.setIfInBounds_toArray, List.set_cons_zero, List.set_cons_succ]
          refine wpAnyH_take (i := 17) (v := undef) (show _ = some { dst := some 59, op := _, type := _, pos := _, after := _, guard := _ } from rfl) (by kernel_rfl) (by kernel_rfl) (by kernel_rfl) (fun _ _ _ h => h) (Or.inr ⟨by rfl, rfl⟩) hHeld ?_
          try simp only [Act.put, List.setIfInBounds_toArray, List.set_cons_zero, List.set_cons_succ]
          refine wpAnyH_take (i := 18) (v := undef) (show _ = some { dst := some 60, op := _, type := _, pos := _, after := _, guard := _ } from rfl) (by kernel_rfl) (by kernel_rfl) (by kernel_rfl) (fun _ _ _ h => h) (Or.inr ⟨by rfl, rfl⟩) hHeld ?_
          try simp only [Act.put, List.setIfInBounds_toArray, List.set_cons_zero, List.set_cons_succ]
          refine wpAnyH_take (i := 19) (v := undef) (show _ = some { dst := some 61, op := _, type := _, pos := _, after := _, guard := _ } from rfl) (by kernel_rfl) (by kernel_rfl) (by kernel_rfl) (fun _ _ _ h => h) (Or.inr ⟨by rfl, rfl⟩) hHeld ?_
          try simp only [Act.put, List.setIfInBounds_toArray, List.set_cons_zero, List.set_cons_succ]
          refine wpAnyH_take (i := 20) (v := ?_) (show _ = some { dst := some 62, op := _, type := _, pos := _, after := _, guard := _ } from rfl) (by kernel_rfl) (by kernel_rfl) (by kernel_rfl) (fun _ _ _ h => h) (Or.inl ⟨by rfl, ?_⟩) hHeld ?_
          rotate_left
          · intro w' hSw
            (try dsimp only at hSw)
            go_simp
            try with_reducible rfl
          try simp only [Act.put, List.setIfInBounds_toArray, List.set_cons_zero, List.set_cons_succ]
          refine wpAnyH_done (by kernel_rfl) ?_ _
          clear hHeld
          rcases HF.out.last with hl | hl
          · obtain ⟨rfl, rfl⟩ := hl
            obtain ⟨An, cn, rfl, -⟩ := own_slice HF.out.rows.n
            obtain ⟨At, ct, rfl, -⟩ := own_slice HF.out.rows.t
            have KR0 := Lib.hid (Runs_any HF.out.gr)
            rw [HF.out.G] at KR0
            go_wp2_with fail
            refine KR0.out.mono ?_
            rintro e wa ⟨rfl, rfl⟩
            obtain ⟨z0, z1, z2⟩ := op_at (HOb.out _ HF.out.own.below) HZ.out
            have KA := Lib.hid (Ask_any HF.out.gr (by omega) (a := z.n) HZs.out.1)
            rw [HF.out.G] at KA
            clear KR0
            go_wp2_with fail
            refine KA.out.mono ?_
            rintro e w5 ⟨s5, av5, rfl, hg5, hs5, -, hr1, hr2, -, hdn5, -⟩
            have HF5 := Lib.hid (HF.out.step rfl hg5 hs5)
            rw [HF.out.rules, HRl.out] at hr2
            have hru := HF5.out.gr.runs
            have hru0 := HF.out.gr.runs0
            have hru1 := HF.out.gr.runs
            have hruc := HF5.out.gr.runs0
            have tm1 : decide (s5.runs < s.runs) = false := by simp; omega
            have tm2 : wrap64 (s.runs + (n : Int)) = s.runs + (n : Int) := by rw [← w64_eq]; exact w64_in (by omega) (by omega)
            have tm3 : decide (s.runs + (n : Int) < s5.runs) = false := by simp; omega
            have KR5 := Lib.hid (Runs_any HF5.out.gr)
            rw [HF.out.G] at KR5
            have KA5 := Lib.hid (Ask_any HF5.out.gr (by omega) (a := z.n) HZs.out.1)
            rw [HF.out.G] at KA5
            have HD5 := Lib.hid hdn5
            clear hg5 hs5 hr1 hr2 hru hru0 hru1 hruc KA z0 z1 z2 hdn5
            obtain ⟨z0, z1, z2⟩ := op_at (HOb.out _ HF5.out.own.below) HZ.out
            go_wp2_with fail
            refine KR5.out.mono ?_
            rintro e wb ⟨rfl, rfl⟩
            go_wp2_with fail
            refine KA5.out.mono ?_
            rintro e w6 ⟨s6, av6, rfl, hg6, hs6, -, -, -, -, hdn6, hst6⟩
            have HF6 := Lib.hid (HF5.out.step rfl hg6 hs6)
            have HR6 := Lib.hid (hst6 HD5.out)
            have KR6 := Lib.hid (Runs_any HF6.out.gr)
            rw [HF.out.G, HR6.out] at KR6
            have HD6 := Lib.hid hdn6
            clear hg6 hs6 hst6 hdn6 KR5 KA5
            go_wp2_with fail
            refine KR6.out.mono ?_
            rintro e wc ⟨rfl, rfl⟩
            go_wp2_with fail
            exact ⟨⟨i + 1, L, E, s6, av6, [], [], by omega, by simp, HF6.out.more (by omega), by simp⟩, by simp [intOf]; omega⟩
          · obtain ⟨ns', n0, ts', t0, rfl, rfl, hln, hi0, hf0, ht0, hn0⟩ := hl
            have HLs := Lib.hid (last_set hi0 hf0 ht0)
            obtain ⟨gn, cn, rfl, -, -⟩ := row_last HF.out.rows.n
            obtain ⟨gt, ct, rfl, -, -⟩ := row_last HF.out.rows.t
            have hnl : ns'.length ≤ 1000 := by have := HNb.out; simp at this; omega
            have htl : ts'.length ≤ 1000 := by omega
            have tl0 : decide ((0 : Int) < ((ns'.length + 1 : Nat) : Int)) = true := by simp
            have tw1 : IntKind.i64.wrap (ns'.length : Int) = (ns'.length : Int) := w64_in (by omega) (by omega)
            have tw2 : IntKind.i64.wrap (ts'.length : Int) = (ts'.length : Int) := w64_in (by omega) (by omega)
            have tw3 : (ns'.length : Int) < (ns'.length : Int) + 1 := by omega
            have tw4 : (ts'.length : Int) < (ts'.length : Int) + 1 := by omega
            have tw5 : (0 : Int) ≤ (ns'.length : Int) := by omega
            have tw6 : (0 : Int) ≤ (ts'.length : Int) := by omega
            clear hi0 hf0 ht0 hln
            have KR0 := Lib.hid (Runs_any HF.out.gr)
            rw [HF.out.G] at KR0
            go_wp2_with fail
            refine KR0.out.mono ?_
            rintro e wa ⟨rfl, rfl⟩
            obtain ⟨z0, z1, z2⟩ := op_at (HOb.out _ HF.out.own.below) HZ.out
            have KA := Lib.hid (Ask_any HF.out.gr (by omega) (a := z.n) HZs.out.1)
            rw [HF.out.G] at KA
            clear KR0
            go_wp2_with fail
            refine KA.out.mono ?_
            rintro e w5 ⟨s5, av5, rfl, hg5, hs5, -, hr1, hr2, -, hdn5, -⟩
            have HF5 := Lib.hid (HF.out.step rfl hg5 hs5)
            rw [HF.out.rules, HRl.out] at hr2
            have hru := HF5.out.gr.runs
            have hru0 := HF.out.gr.runs0
            have hru1 := HF.out.gr.runs
            have hruc := HF5.out.gr.runs0
            have tm1 : decide (s5.runs < s.runs) = false := by simp; omega
            have tm2 : wrap64 (s.runs + (n : Int)) = s.runs + (n : Int) := by rw [← w64_eq]; exact w64_in (by omega) (by omega)
            have tm3 : decide (s.runs + (n : Int) < s5.runs) = false := by simp; omega
            have KR5 := Lib.hid (Runs_any HF5.out.gr)
            rw [HF.out.G] at KR5
            have KA5 := Lib.hid (Ask_any HF5.out.gr (by omega) (a := z.n) HZs.out.1)
            rw [HF.out.G] at KA5
            have HD5 := Lib.hid hdn5
            clear hg5 hs5 hr1 hr2 hru hru0 hru1 hruc KA z0 z1 z2 hdn5
            obtain ⟨z0, z1, z2⟩ := op_at (HOb.out _ HF5.out.own.below) HZ.out
            go_wp2_with fail
            refine KR5.out.mono ?_
            rintro e wb ⟨rfl, rfl⟩
            go_wp2_with fail
            refine KA5.out.mono ?_
            rintro e w6 ⟨s6, av6, rfl, hg6, hs6, -, -, -, -, hdn6, hst6⟩
            have HF6 := Lib.hid (HF5.out.step rfl hg6 hs6)
            have HR6 := Lib.hid (hst6 HD5.out)
            have KR6 := Lib.hid (Runs_any HF6.out.gr)
            rw [HF.out.G, HR6.out] at KR6
            have HD6 := Lib.hid hdn6
            clear hg6 hs6 hst6 hdn6 KR5 KA5
            go_wp2_with fail
            refine KR6.out.mono ?_
            rintro e wc ⟨rfl, rfl⟩
            have KS := Lib.hid (Set_any (HF6.out.gr.later (Below.refl _ _).drew) (by omega) (n := n0) (t := t0) hn0)
            rw [HF.out.G] at KS
            have p0 : wc.drew.cell? ⟨gn, ns'.length, none⟩ = some (.string n0) := row_lastc HF6.out.rows.n
            have p1 : wc.drew.cell? ⟨gt, ts'.length, none⟩ = some (.string t0) := row_lastc HF6.out.rows.t
            clear z0 z1 z2
            go_wp2_with fail
            refine wp_region_held_drew (S := (fun w' => w'.cell? ⟨gn, ns'.length, none⟩ = some (.string n0) ∧ w'.cell? ⟨gt, ts'.length, none⟩ = some (.string t0))) (by kernel_rfl) ⟨p0, p1⟩ (fun hHeld => ?_)
            refine wpAnyH_take (i := 0) (v := ?_) (show _ = some { dst := some 133, op := _, type := _, pos := _, after := _, guard := _ } from rfl) (by kernel_rfl) (by kernel_rfl) (by kernel_rfl) (fun _ _ _ h => h) (Or.inl ⟨by rfl, ?_⟩) hHeld ?_
            rotate_left
            · intro w' hSw
              (try dsimp only at hSw)
              go_simp
              try with_reducible rfl
            try simp only [Act.put, List.setIfInBounds_toArray, List.set_cons_zero, List.set_cons_succ]
            refine wpAnyH_take (i := 1) (v := ?_) (show _ = some { dst := some 134, op := _, type := _, pos := _, after := _, guard := _ } from rfl) (by kernel_rfl) (by kernel_rfl) (by kernel_rfl) (fun _ _ _ h => h) (Or.inl ⟨by rfl, ?_⟩) hHeld ?_
            rotate_left
            · intro w' hSw
              (try dsimp only at hSw)
              go_simp
              try with_reducible rfl
            try simp only [Act.put, List.setIfInBounds_toArray, List.set_cons_zero, List.set_cons_succ]
            refine wpAnyH_take (i := 2) (v := ?_) (show _ = some { dst := some 135, op := _, type := _, pos := _, after := _, guard := _ } from rfl) (by kernel_rfl) (by kernel_rfl) (by kernel_rfl) (fun _ _ _ h => h) (Or.inl ⟨by rfl, ?_⟩) hHeld ?_
            rotate_left
            · intro w' hSw
              (try dsimp only at hSw)
              go_simp
              try with_reducible rfl
            try simp only [Act.put, List.setIfInBounds_toArray, List.set_cons_zero, List.set_cons_succ]
            refine wpAnyH_take (i := 3) (v := ?_) (show _ = some { dst := some 136, op := _, type := _, pos := _, after := _, guard := _ } from rfl) (by kernel_rfl) (by kernel_rfl) (by kernel_rfl) (fun _ _ _ h => h) (Or.inl ⟨by rfl, ?_⟩) hHeld ?_
            rotate_left
            · intro w' hSw
              (try dsimp only at hSw)
              go_simp
              try with_reducible rfl
            try simp only [Act.put, List.setIfInBounds_toArray, List.set_cons_zero, List.set_cons_succ]
            refine wpAnyH_take (i := 4) (v := ?_) (show _ = some { dst := some 137, op := _, type := _, pos := _, after := _, guard := _ } from rfl) (by kernel_rfl) (by kernel_rfl) (by kernel_rfl) (fun _ _ _ h => h) (Or.inl ⟨by rfl, ?_⟩) hHeld ?_
            rotate_left
            · intro w' hSw
              (try dsimp only at hSw)
              go_simp
              try with_reducible rfl
            try simp only [Act.put, List.setIfInBounds_toArray, List.set_cons_zero, List.set_cons_succ]
            refine wpAnyH_take (i := 5) (v := ?_) (show _ = some { dst := some 138, op := _, type := _, pos := _, after := _, guard := _ } from rfl) (by kernel_rfl) (by kernel_rfl) (by kernel_rfl) (fun _ _ _ h => h) (Or.inl ⟨by rfl, ?_⟩) hHeld ?_
            rotate_left
            · intro w' hSw
              (try dsimp only at hSw)
              go_simp
              try with_reducible rfl
            try simp only [Act.put, List.setIfInBounds_toArray, List.set_cons_zero, List.set_cons_succ]
            refine wpAnyH_take (i := 6) (v := ?_) (show _ = some { dst := some 139, op := _, type := _, pos := _, after := _, guard := _ } from rfl) (by kernel_rfl) (by kernel_rfl) (by kernel_rfl) (fun _ _ _ h => h) (Or.inl ⟨by rfl, ?_⟩) hHeld ?_
            rotate_left
            · intro w' hSw
              (try dsimp only at hSw)
              go_simp
              try with_reducible rfl
            try simp only [Act.put, List.setIfInBounds_toArray, List.set_cons_zero, List.set_cons_succ]
            refine wpAnyH_take (i := 7) (v := ?_) (show _ = some { dst := some 140, op := _, type := _, pos := _, after := _, guard := _ } from rfl) (by kernel_rfl) (by kernel_rfl) (by kernel_rfl) (fun _ _ _ h => h) (Or.inl ⟨by rfl, ?_⟩) hHeld ?_
            rotate_left
            · intro w' hSw
              (try dsimp only at hSw)
              go_simp
              try with_reducible rfl
            try simp only [Act.put, List.setIfInBounds_toArray, List.set_cons_zero, List.set_cons_succ]
            refine wpAnyH_take (i := 8) (v := ?_) (show _ = some { dst := some 141, op := _, type := _, pos := _, after := _, guard := _ } from rfl) (by kernel_rfl) (by kernel_rfl) (by kernel_rfl) (fun _ _ _ h => h) (Or.inl ⟨by rfl, ?_⟩) hHeld ?_
            rotate_left
            · intro w' hSw
              (try dsimp only at hSw)
              go_simp
              try with_reducible rfl
            try simp only [Act.put, List.setIfInBounds_toArray, List.set_cons_zero, List.set_cons_succ]
            refine wpAnyH_take (i := 9) (v := ?_) (show _ = some { dst := some 142, op := _, type := _, pos := _, after := _, guard := _ } from rfl) (by kernel_rfl) (by kernel_rfl) (by kernel_rfl) (fun _ _ _ h => h) (Or.inl ⟨by rfl, ?_⟩) hHeld ?_
            rotate_left
            · intro w' hSw
              (try dsimp only at hSw)
              go_simp
              try with_reducible rfl
            try simp only [Act.put, List.setIfInBounds_toArray, List.set_cons_zero, List.set_cons_succ]
            refine wpAnyH_take (i := 10) (v := ?_) (show _ = some { dst := some 143, op := _, type := _, pos := _, after := _, guard := _ } from rfl) (by kernel_rfl) (by kernel_rfl) (by kernel_rfl) (fun _ _ _ h => h) (Or.inl ⟨by rfl, ?_⟩) hHeld ?_
            rotate_left
            · intro w' hSw
              (try dsimp only at hSw)
              go_simp
              try with_reducible rfl
            try simp only [Act.put, List.setIfInBounds_toArray, List.set_cons_zero, List.set_cons_succ]
            refine wpAnyH_take (i := 11) (v := ?_) (show _ = some { dst := some 144, op := _, type := _, pos := _, after := _, guard := _ } from rfl) (by kernel_rfl) (by kernel_rfl) (by kernel_rfl) (fun _ _ _ h => h) (Or.inl ⟨by rfl, ?_⟩) hHeld ?_
            rotate_left
            · intro w' hSw
              (try dsimp only at hSw)
              go_simp
              try with_reducible rfl
            try simp only [Act.put, List.setIfInBounds_toArray, List.set_cons_zero, List.set_cons_succ]
            refine wpAnyH_take (i := 12) (v := ?_) (show _ = some { dst := some 145, op := _, type := _, pos := _, after := _, guard := _ } from rfl) (by kernel_rfl) (by kernel_rfl) (by kernel_rfl) (fun _ _ _ h => h) (Or.inl ⟨by rfl, ?_⟩) hHeld ?_
            rotate_left
            · intro w' hSw
              (try dsimp only at hSw)
              go_simp
              try with_reducible rfl
            try simp only [Act.put, List.setIfInBounds_toArray, List.set_cons_zero, List.set_cons_succ]
            refine wpAnyH_ready (rs := [13]) (by kernel_rfl) (by simp) ?_
            refine AllReadyH.cons (show _ = some { dst := some 146, op := _, type := _, pos := _, after := _, guard := _ } from rfl) (fun K hK => ?_) AllReadyH.nil
            go_simp
            refine KS.out.mono ?_
            rintro e w7 ⟨L7, hG7, rfl, hg7, hs7⟩
            rw [HLs.out.2] at hg7 hs7
            have hS7 : setsS E n0 t0 s6 = setS s6 := by unfold setsS; rw [if_pos HLs.out.1]
            rw [hS7] at hg7
            have HF7 := Lib.hid ((HF6.out.later (Below.refl _ _).drew).step hG7 hg7 hs7)
            have HC7 := Lib.hid (And.intro (row_lastc HF7.out.rows.n) (row_lastc HF7.out.rows.t))
            clear hg7 hs7 hS7
            go_wp2_with fail
            refine hK.out _ _ (HC7.out) (fun hHeld => ?_)
            clear hK K
            try simp only [Act.put, List.setIfInBounds_toArray, List.set_cons_zero, List.set_cons_succ]
            refine wpAnyH_done (by kernel_rfl) ?_ _
            clear hHeld
            obtain ⟨z0, z1, z2⟩ := op_at (HOb.out _ HF7.out.own.below) HZ.out
            have KA7 := Lib.hid (Ask_any HF7.out.gr (by omega) (a := z.n) HZs.out.1)
            rw [HF7.out.G] at KA7
            go_wp2_with fail
            refine KA7.out.mono ?_
            rintro e w8 ⟨s8, av8, rfl, hg8, hs8, -, -, -, -, -, hst8⟩
            have HF8 := Lib.hid (HF7.out.step rfl hg8 hs8)
            have HR8 := Lib.hid ((hst8 (done_set HD6.out)).trans HR6.out)
            have KR8 := Lib.hid (Runs_any HF8.out.gr)
            rw [HF7.out.G, HR8.out] at KR8
            clear hg8 hs8 hst8 KA7
            go_wp2_with fail
            refine KR8.out.mono ?_
            rintro e wd ⟨rfl, rfl⟩
            go_wp2_with fail
            exact ⟨⟨i + 1, L7, E, s8, av8, ns' ++ [n0], ts' ++ [t0], by omega, by simp, HF8.out.more (by omega), HNb.out⟩, by simp [intOf]; omega⟩
      · obtain rfl : i = m := by omega
        have ti : decide ((i : Int) < (i : Int)) = false := by simp
        go_wp2_with fail
        go_ret
        exact ⟨rfl, HF0.out.own.below⟩
end Go.Proofs.YteghbblbkljdhaaDoor
