import Derived.Test.YtogoolpgajopcaaTrX
import Derived.Deep.RegionHeld3
namespace Go.Proofs.Ytogoolpgajopcaa
open Go.RowKit
set_option maxRecDepth 100000 in
set_option maxHeartbeats 4000000 in
theorem builds_walk (k : Int) (t : ByteArray) (n m a : Int) (P : Fo) (A : Option Addr) (c : Nat) (k' : Int) (t' : ByteArray) (n' m' a' : Int) (Q : Fo) (A' : Option Addr) (c' : Nat) (w : World) (hH : Holds w w.heap.size P A 0) (hl : P.len ≤ c) (hc : c ≤ 1000000000000000) (ht : t.size ≤ 1000000000000000) (hH' : Holds w w.heap.size Q A' 0) (hl' : Q.len ≤ c') (hc' : c' ≤ 1000000000000000) (ht' : t'.size ≤ 1000000000000000) :
    Calls Try.prog 8 #[val6 k t n m a P.len A c, val6 k' t' n' m' a' Q.len A' c'] w (LawPost w) := by
  have HH := Lib.hid hH
  have HH' := Lib.hid hH'
  have KA := Lib.hid (fun W => awake_true W)
  simp only [val6, cells6]
  clear hH hH'
  go_enter Try.func8, Try.ntmps8
  go_wp2_with fail
  refine (KA.out _).mono ?_
  rintro e W1 ⟨rfl, hb1⟩
  have FN : Hid (∀ w', Below W1.heap.size W1 w' → w'.cell? ⟨w.heap.size, 0, none⟩ = some (.int .i64 k) ∧ w'.cell? ⟨w.heap.size, 1, none⟩ = some (.string t) ∧ w'.cell? ⟨w.heap.size, 2, none⟩ = some (.int .i64 n) ∧ w'.cell? ⟨w.heap.size, 3, none⟩ = some (.int .i64 m) ∧ w'.cell? ⟨w.heap.size, 4, none⟩ = some (.int .i64 a) ∧ w'.cell? ⟨w.heap.size, 5, none⟩ = some (.slice A P.len c) ∧ w'.cell? ⟨w.heap.size + 1, 0, none⟩ = some (.int .i64 k') ∧ w'.cell? ⟨w.heap.size + 1, 1, none⟩ = some (.string t') ∧ w'.cell? ⟨w.heap.size + 1, 2, none⟩ = some (.int .i64 n') ∧ w'.cell? ⟨w.heap.size + 1, 3, none⟩ = some (.int .i64 m') ∧ w'.cell? ⟨w.heap.size + 1, 4, none⟩ = some (.int .i64 a') ∧ w'.cell? ⟨w.heap.size + 1, 5, none⟩ = some (.slice A' Q.len c')) := Lib.hid fun W' h => by
    have h2 := hb1.trans (h.mono hb1.size)
    exact ⟨(two_boxes h2 0).1, (two_boxes h2 1).1, (two_boxes h2 2).1, (two_boxes h2 3).1, (two_boxes h2 4).1, (two_boxes h2 5).1, (two_boxes h2 0).2, (two_boxes h2 1).2, (two_boxes h2 2).2, (two_boxes h2 3).2, (two_boxes h2 4).2, (two_boxes h2 5).2⟩
  have HB1 := Lib.hid (below_step (((Below.refl w.heap.size w).alloc (Nat.le_refl _) _).alloc (by simp) _) hb1)
  obtain ⟨c0, c1, c2, c3, c4, c5, x0, x1, x2, x3, x4, x5⟩ := FN.out W1 (Below.refl _ _)
  have K := Lib.hid (small_prog k t n m a P A c W1 ((HH.out.below HB1.out).more HB1.out.size) (by omega))
  simp only [val6, cells6] at K
  clear hb1
  go_wp2_with fail
  refine K.out.mono ?_
  rintro e W2 ⟨rfl, hb2⟩
  have HB2 := Lib.hid (below_step HB1.out hb2)
  have HC2 := Lib.hid hb2
  obtain ⟨d0, d1, d2, d3, d4, d5, y0, y1, y2, y3, y4, y5⟩ := FN.out W2 hb2
  clear hb2 c0 c1 c2 c3 c4 c5 x0 x1 x2 x3 x4 x5 K
  by_cases hN : 1 + P.nodes ≤ 20000
  case neg =>
    rw [decide_eq_false hN]
    go_wp2_with fail
    refine (KA.out _).mono ?_
    rintro e W3 ⟨rfl, hb3⟩
    have HB3 := Lib.hid (below_step HB2.out hb3)
    clear hb3
    go_wp2_with fail
    go_ret
    exact ⟨rfl, HB3.out⟩
  rw [decide_eq_true hN]
  clear hN
  have K := Lib.hid (small_prog k' t' n' m' a' Q A' c' W2 ((HH'.out.below HB2.out).more HB2.out.size) (by omega))
  simp only [val6, cells6] at K
  go_wp2_with fail
  refine K.out.mono ?_
  rintro e W3 ⟨rfl, hb3⟩
  have HB3 := Lib.hid (below_step HB2.out hb3)
  have HC3 := Lib.hid (below_step HC2.out hb3)
  obtain ⟨c0, c1, c2, c3, c4, c5, x0, x1, x2, x3, x4, x5⟩ := FN.out W3 HC3.out
  clear hb3 K d0 d1 d2 d3 d4 d5 y0 y1 y2 y3 y4 y5
  by_cases hM : 1 + Q.nodes ≤ 20000
  case neg =>
    rw [decide_eq_false hM]
    go_wp2_with fail
    refine (KA.out _).mono ?_
    rintro e W4 ⟨rfl, hb4⟩
    have HB4 := Lib.hid (below_step HB3.out hb4)
    clear hb4
    go_wp2_with fail
    go_ret
    exact ⟨rfl, HB4.out⟩
  rw [decide_eq_true hM]
  clear hM
  have K := Lib.hid ((type_prog P).1 k t n m a A c W3 ((HH.out.below HB3.out).more HB3.out.size) hl hc ht)
  simp only [val6, cells6] at K
  obtain ⟨o1, ho1⟩ : ∃ o, (mk k t n m P.inf).ty = o := ⟨_, rfl⟩
  rw [ho1] at K
  have HO1 := Lib.hid ho1
  clear ho1
  go_wp2_with fail
  refine K.out.mono ?_
  rintro e W4 ⟨rfl, hb4⟩
  have HB4 := Lib.hid (below_step HB3.out hb4)
  have HC4 := Lib.hid (below_step HC3.out hb4)
  obtain ⟨d0, d1, d2, d3, d4, d5, y0, y1, y2, y3, y4, y5⟩ := FN.out W4 HC4.out
  clear hb4 K c0 c1 c2 c3 c4 c5 x0 x1 x2 x3 x4 x5
  cases o1 with
  | false =>
    go_wp2_with fail
    refine (KA.out _).mono ?_
    rintro e W5 ⟨rfl, hb5⟩
    have HB5 := Lib.hid (below_step HB4.out hb5)
    clear hb5
    go_wp2_with fail
    go_ret
    exact ⟨rfl, HB5.out⟩
  | true =>
  have K := Lib.hid ((type_prog Q).1 k' t' n' m' a' A' c' W4 ((HH'.out.below HB4.out).more HB4.out.size) hl' hc' ht')
  simp only [val6, cells6] at K
  obtain ⟨o2, ho2⟩ : ∃ o, (mk k' t' n' m' Q.inf).ty = o := ⟨_, rfl⟩
  rw [ho2] at K
  have HO2 := Lib.hid ho2
  clear ho2
  go_wp2_with fail
  refine K.out.mono ?_
  rintro e W5 ⟨rfl, hb5⟩
  have HB5 := Lib.hid (below_step HB4.out hb5)
  have HC5 := Lib.hid (below_step HC4.out hb5)
  obtain ⟨c0, c1, c2, c3, c4, c5, x0, x1, x2, x3, x4, x5⟩ := FN.out W5 HC5.out
  clear hb5 K d0 d1 d2 d3 d4 d5 y0 y1 y2 y3 y4 y5
  cases o2 with
  | false =>
    go_wp2_with fail
    refine (KA.out _).mono ?_
    rintro e W6 ⟨rfl, hb6⟩
    have HB6 := Lib.hid (below_step HB5.out hb6)
    clear hb6
    go_wp2_with fail
    go_ret
    exact ⟨rfl, HB6.out⟩
  | true =>
  have s5 : w.heap.size < W5.heap.size := World.block_lt_of_cell? _ _ c0
  have s5' : w.heap.size + 1 < W5.heap.size := World.block_lt_of_cell? _ _ x0
  go_wp2_with fail
  have OX : (Nd.mk k t n m a P A c).ok W5 W5.heap.size := ⟨hl, hc, ht, (HH.out.below HB5.out).more HB5.out.size⟩
  have OY : (Nd.mk k' t' n' m' a' Q A' c').ok W5 W5.heap.size := ⟨hl', hc', ht', (HH'.out.below HB5.out).more HB5.out.size⟩
  have hx : (Nd.mk k t n m a P A c).inf.ty = true := HO1.out
  have hy : (Nd.mk k' t' n' m' a' Q A' c').inf.ty = true := HO2.out
  generalize hX : Nd.mk k t n m a P A c = X at *
  generalize hY : Nd.mk k' t' n' m' a' Q A' c' = Y at *
  generalize hV1 : W5.alloc _ = V1
  generalize hV2 : V1.alloc _ = V2
  generalize hW : V2.alloc _ = W
  have hs1 : V1.heap.size = W5.heap.size + 1 := by rw [← hV1, alloc_size]
  have hs2 : V2.heap.size = W5.heap.size + 1 + 1 := by rw [← hV2, alloc_size, hs1]
  have hs3 : W.heap.size = W5.heap.size + 1 + 1 + 1 := by rw [← hW, alloc_size, hs2]
  have b51 : Below W5.heap.size W5 V1 := by rw [← hV1]; exact (Below.refl _ _).alloc (Nat.le_refl _) _
  have b12 : Below V1.heap.size V1 V2 := by rw [← hV2]; exact (Below.refl _ _).alloc (Nat.le_refl _) _
  have b2W : Below V2.heap.size V2 W := by rw [← hW]; exact (Below.refl _ _).alloc (Nat.le_refl _) _
  have HW := Lib.hid (below_step (below_step (below_step HB5.out b51) b12) b2W)
  have HCW := Lib.hid (below_step (below_step (below_step HC5.out b51) b12) b2W)
  have H2 : Hid (∀ W', Below W.heap.size W W' → Holds W' W'.heap.size (foL [X, Y]) (some ⟨W5.heap.size, 0, none⟩) 0) := Lib.hid fun W' h => by
    have h1 := below_step (below_step b12 b2W) h
    rw [← hV1] at h1
    refine row_new ?_ ?_ h1
    · subst hX hY; rfl
    · intro z hz
      rcases List.mem_cons.1 hz with rfl | hz
      · exact OX
      · rcases List.mem_cons.1 hz with rfl | hz
        · exact OY
        · cases hz
  have H3 : Hid (∀ W', Below W.heap.size W W' → Holds W' W'.heap.size (foL [X, Y, X]) (some ⟨W5.heap.size + 1, 0, none⟩) 0) := Lib.hid fun W' h => by
    have h1 := below_step b2W h
    rw [← hV2] at h1
    rw [← hs1]
    refine row_new ?_ ?_ h1
    · subst hX hY; rfl
    · intro z hz
      rcases List.mem_cons.1 hz with rfl | hz
      · exact (OX.below b51).more b51.size
      · rcases List.mem_cons.1 hz with rfl | hz
        · exact (OY.below b51).more b51.size
        · rcases List.mem_cons.1 hz with rfl | hz
          · exact (OX.below b51).more b51.size
          · cases hz
  have HK : Hid (∀ W', Below W.heap.size W W' → W'.cell? ⟨W5.heap.size + 1 + 1, 0, none⟩ = some (.int .i64 12) ∧ W'.cell? ⟨W5.heap.size + 1 + 1, 1, none⟩ = some (.int .i64 9) ∧ W'.cell? ⟨W5.heap.size + 1 + 1, 2, none⟩ = some (.int .i64 10)) := Lib.hid fun W' h => by
    rw [← hW] at h
    rw [← hs2]
    exact ⟨box_cells h 0, box_cells h 1, box_cells h 2⟩
  have HOX := Lib.hid (((OX.below b51).more b51.size |>.below b12 |>.more b12.size).below b2W |>.more b2W.size)
  have HOY := Lib.hid (((OY.below b51).more b51.size |>.below b12 |>.more b12.size).below b2W |>.more b2W.size)
  have HX := Lib.hid hX
  have HY := Lib.hid hY
  clear hV1 hV2 hW OX OY b51 b12 b2W hX hY c0 c1 c2 c3 c4 c5 x0 x1 x2 x3 x4 x5
  go_loopw [8] (fun i wr => ∃ j : Nat, j ≤ 3 ∧ i = .int .i64 j ∧ Below W.heap.size W wr) (fun i _ => 3 - (intOf i).toNat)
  case atStart => exact ⟨0, by omega, by go_num, Below.refl _ _⟩
  case round =>
    obtain ⟨j, hj, rfl, hB⟩ := hrel
    have HBr := Lib.hid hB
    have q2 := fun W' (h : Below wr.heap.size wr W') => H2.out W' (below_step hB h)
    have q3 := fun W' (h : Below wr.heap.size wr W') => H3.out W' (below_step hB h)
    have hKr := fun W' (h : Below wr.heap.size wr W') => HK.out W' (below_step hB h)
    have hsr : W5.heap.size + 1 + 1 + 1 ≤ wr.heap.size := by have := hB.size; omega
    have B3 := build_three X Y hx hy
    have goodA : ∀ K : Int, K = 12 ∨ K = 9 ∨ K = 10 → GoodT wr (.agg #[.int .i64 K, .string ⟨#[]⟩, .int .i64 0, .int .i64 0, .int .i64 0, .slice (some ⟨W5.heap.size, 0, none⟩) 2 2]) true := fun K hK => GoodT.mk' q2 rfl (by omega) (by omega) (by decide) (build_yes X Y hx hy K hK)
    have goodB : ∀ K : Int, K = 12 ∨ K = 9 ∨ K = 10 → GoodT wr (.agg #[.int .i64 K, .string ⟨#[]⟩, .int .i64 0, .int .i64 0, .int .i64 0, .slice (some ⟨W5.heap.size, 0, none⟩) 1 2]) false := fun K hK => GoodT.mk' (F := foL [X]) (fun W' h => (q2 W' h).take 1) rfl (by omega) (by omega) (by decide) (build_one X K hK)
    have goodC : ∀ (K : Int) (y : Bool), typeB K ⟨#[]⟩ 0 0 (foL [X, Y, X]).inf = y → GoodT wr (.agg #[.int .i64 K, .string ⟨#[]⟩, .int .i64 0, .int .i64 0, .int .i64 0, .slice (some ⟨W5.heap.size + 1, 0, none⟩) 3 3]) y := fun K y h => GoodT.mk' q3 rfl (by omega) (by omega) (by decide) h
    have MK := Lib.hid (fun w' (h : BD wr w') => (⟨h, hKr w' h⟩ : BD wr w' ∧ w'.cell? ⟨W5.heap.size + 1 + 1, 0, none⟩ = some (.int .i64 12) ∧ w'.cell? ⟨W5.heap.size + 1 + 1, 1, none⟩ = some (.int .i64 9) ∧ w'.cell? ⟨W5.heap.size + 1 + 1, 2, none⟩ = some (.int .i64 10)))
    have B0 := MK.out wr (Below.refl _ _)
    by_cases h3 : j = 3
    · subst h3
      obtain ⟨c0, c1, c2, c3, c4, c5, x0, x1, x2, x3, x4, x5⟩ := FN.out wr (below_step HCW.out HBr.out)
      have sw : w.heap.size < wr.heap.size := World.block_lt_of_cell? _ _ c0
      have sw' : w.heap.size + 1 < wr.heap.size := World.block_lt_of_cell? _ _ x0
      clear B0 goodA goodB goodC B3
      go_wp2_with fail
      go_region
      · go_wp2_with fail
        generalize hD1 : wr.alloc _ = D1
        generalize hD2 : D1.alloc _ = D2
        generalize hD3 : D2.alloc _ = D3
        generalize hDD : D3.drew = D
        have z1 : D1.heap.size = wr.heap.size + 1 := by rw [← hD1, alloc_size]
        have z2 : D2.heap.size = wr.heap.size + 1 + 1 := by rw [← hD2, alloc_size, z1]
        have e1 : Below wr.heap.size wr D1 := by rw [← hD1]; exact (Below.refl _ _).alloc (Nat.le_refl _) _
        have e2 : Below D1.heap.size D1 D2 := by rw [← hD2]; exact (Below.refl _ _).alloc (Nat.le_refl _) _
        have e3 : Below D2.heap.size D2 D3 := by rw [← hD3]; exact (Below.refl _ _).alloc (Nat.le_refl _) _
        have e4 : Below D3.heap.size D3 D := by rw [← hDD]; exact Below.drew (Below.refl _ _)
        have hD : Below wr.heap.size wr D := below_step (below_step (below_step e1 e2) e3) e4
        have OX : X.ok wr wr.heap.size := (HOX.out.below HBr.out).more HBr.out.size
        have OY : Y.ok wr wr.heap.size := (HOY.out.below HBr.out).more HBr.out.size
        obtain ⟨Z, hZ⟩ : ∃ Z, Nd.mk 16 ⟨#[112]⟩ 0 0 0 (foL [X]) (some ⟨W5.heap.size, 0, none⟩) 2 = Z := ⟨_, rfl⟩
        have hz : Z.k = 16 ∧ Z.t = ⟨#[112]⟩ ∧ Z.n = 0 ∧ Z.m = 0 ∧ Z.P = foL [X] := by subst hZ; exact ⟨rfl, rfl, rfl, rfl, rfl⟩
        have HC4 : Hid (∀ W', Below D.heap.size D W' → Holds W' W'.heap.size (foL [X, Y, X, Y]) (some ⟨wr.heap.size, 0, none⟩) 0) := Lib.hid fun W' h => by
          have h1 := below_step (below_step (below_step e2 e3) e4) h
          rw [← hD1] at h1
          refine row_new ?_ ?_ h1
          · rw [← HX.out, ← HY.out]; rfl
          · intro z hz
            simp only [List.mem_cons, List.not_mem_nil, or_false] at hz
            rcases hz with rfl | rfl | rfl | rfl
            · exact OX
            · exact OY
            · exact OX
            · exact OY
        have HZ : Hid (∀ W', Below D.heap.size D W' → Holds W' W'.heap.size (foL [Z, Y]) (some ⟨wr.heap.size + 1, 0, none⟩) 0) := Lib.hid fun W' h => by
          have h1 := below_step (below_step e3 e4) h
          rw [← hD2] at h1
          rw [← z1]
          have b1 : Below wr.heap.size wr D1 := e1
          refine row_new ?_ ?_ h1
          · rw [← hZ, ← HY.out]; rfl
          · intro z hz
            simp only [List.mem_cons, List.not_mem_nil, or_false] at hz
            rcases hz with rfl | rfl
            · subst hZ
              exact ⟨(by show (1 : Nat) ≤ 2; decide), (by show (2 : Nat) ≤ 1000000000000000; decide), (by show (1 : Nat) ≤ 1000000000000000; decide), (q2 D1 b1).take 1⟩
            · exact (OY.below b1).more b1.size
        have HBX : Hid (∀ W', Below D.heap.size D W' → W'.cell? ⟨wr.heap.size + 1 + 1, 0, none⟩ = some (.int .i64 6) ∧ W'.cell? ⟨wr.heap.size + 1 + 1, 1, none⟩ = some (.string ⟨#[]⟩) ∧ W'.cell? ⟨wr.heap.size + 1 + 1, 2, none⟩ = some (.int .i64 0) ∧ W'.cell? ⟨wr.heap.size + 1 + 1, 3, none⟩ = some (.int .i64 0) ∧ W'.cell? ⟨wr.heap.size + 1 + 1, 4, none⟩ = some (.int .i64 0) ∧ W'.cell? ⟨wr.heap.size + 1 + 1, 5, none⟩ = some (.slice (some ⟨wr.heap.size + 1, 0, none⟩) 2 2)) := Lib.hid fun W' h => by
          have h1 := below_step e4 h
          rw [← hD3] at h1
          have g := fun j => box_cells h1 j
          simp only [z2] at g
          exact ⟨g 0, g 1, g 2, g 3, g 4, g 5⟩
        clear hD1 hD2 hD3 hDD e1 e2 e3 e4 z1 z2 OX OY hZ
        have GC := Lib.hid (GoodT.mk' (l := 4) (k := 14) (n := 0) (m := 0) (a := 0) (t := ⟨#[]⟩) (c := 4) HC4.out rfl (by omega) (by omega) (by decide) (build_cond X Y hx hy).1)
        have GM := Lib.hid (GoodT.mk' (l := 3) (k := 14) (n := 0) (m := 0) (a := 0) (t := ⟨#[]⟩) (c := 3) (fun W' h => q3 W' (below_step hD h)) rfl (by omega) (by omega) (by decide) (build_three X Y hx hy).2.2.2)
        have GF := Lib.hid (GoodT.mk' (l := 2) (k := 6) (n := 0) (m := 0) (a := 0) (t := ⟨#[]⟩) (c := 2) HZ.out rfl (by omega) (by omega) (by decide) (build_fun X Y Z hx hy hz))
        have GK := Lib.hid (GoodT.mk' (l := 2) (k := 13) (n := 0) (m := 0) (a := 0) (t := ⟨#[75]⟩) (c := 2) (fun W' h => q2 W' (below_step hD h)) rfl (by omega) (by omega) (by decide) (build_map X Y hx hy))
        have GR := Lib.hid (GoodT.mk' (l := 2) (k := 4) (n := 0) (m := 0) (a := 0) (t := ⟨#[]⟩) (c := 2) (fun W' h => q2 W' (below_step hD h)) rfl (by omega) (by omega) (by decide) (build_cond X Y hx hy).2)
        have HE := Lib.hid (below_step (below_step HW.out HBr.out) hD)
        clear q2 q3 hKr hD hz HC4 HZ
        refine (GC.out.prog _ (Below.refl _ _)).mono ?_
        rintro e E1 ⟨rfl, h1⟩
        go_wp2_with fail
        refine (GM.out.prog _ h1).mono ?_
        rintro e E2 ⟨rfl, h2⟩
        have h2' := below_step h1 h2
        obtain ⟨f0, f1, f2, f3, f4, f5⟩ := HBX.out E2 h2'
        clear h1 h2
        go_wp2_with fail
        refine (GF.out.prog _ h2').mono ?_
        rintro e E3 ⟨rfl, h3⟩
        have h3' := below_step h2' h3
        clear h2' h3 f0 f1 f2 f3 f4 f5
        go_wp2_with fail
        refine (GK.out.prog _ h3').mono ?_
        rintro e E4 ⟨rfl, h4⟩
        have h4' := below_step h3' h4
        clear h3' h4
        go_wp2_with fail
        refine (GR.out.prog _ h4').mono ?_
        rintro e E5 ⟨rfl, h5⟩
        have h5' := Lib.hid (below_step HE.out (below_step h4' h5))
        clear h4' h5
        go_wp2_with fail
        go_ret
        exact ⟨rfl, h5'.out⟩
      · go_wp2_with fail
        generalize hD1 : wr.alloc _ = D1
        generalize hD2 : D1.alloc _ = D2
        generalize hD3 : D2.alloc _ = D3
        generalize hDD : D3.drew = D
        have z1 : D1.heap.size = wr.heap.size + 1 := by rw [← hD1, alloc_size]
        have z2 : D2.heap.size = wr.heap.size + 1 + 1 := by rw [← hD2, alloc_size, z1]
        have e1 : Below wr.heap.size wr D1 := by rw [← hD1]; exact (Below.refl _ _).alloc (Nat.le_refl _) _
        have e2 : Below D1.heap.size D1 D2 := by rw [← hD2]; exact (Below.refl _ _).alloc (Nat.le_refl _) _
        have e3 : Below D2.heap.size D2 D3 := by rw [← hD3]; exact (Below.refl _ _).alloc (Nat.le_refl _) _
        have e4 : Below D3.heap.size D3 D := by rw [← hDD]; exact Below.drew (Below.refl _ _)
        have hD : Below wr.heap.size wr D := below_step (below_step (below_step e1 e2) e3) e4
        have OX : X.ok wr wr.heap.size := (HOX.out.below HBr.out).more HBr.out.size
        have OY : Y.ok wr wr.heap.size := (HOY.out.below HBr.out).more HBr.out.size
        obtain ⟨Z, hZ⟩ : ∃ Z, Nd.mk 16 ⟨#[112]⟩ 0 0 0 (foL [X]) (some ⟨W5.heap.size, 0, none⟩) 2 = Z := ⟨_, rfl⟩
        have hz : Z.k = 16 ∧ Z.t = ⟨#[112]⟩ ∧ Z.n = 0 ∧ Z.m = 0 ∧ Z.P = foL [X] := by subst hZ; exact ⟨rfl, rfl, rfl, rfl, rfl⟩
        have HC4 : Hid (∀ W', Below D.heap.size D W' → Holds W' W'.heap.size (foL [X, Y, X, Y]) (some ⟨wr.heap.size, 0, none⟩) 0) := Lib.hid fun W' h => by
          have h1 := below_step (below_step (below_step e2 e3) e4) h
          rw [← hD1] at h1
          refine row_new ?_ ?_ h1
          · rw [← HX.out, ← HY.out]; rfl
          · intro z hz
            simp only [List.mem_cons, List.not_mem_nil, or_false] at hz
            rcases hz with rfl | rfl | rfl | rfl
            · exact OX
            · exact OY
            · exact OX
            · exact OY
        have HZ : Hid (∀ W', Below D.heap.size D W' → Holds W' W'.heap.size (foL [Z, Y]) (some ⟨wr.heap.size + 1 + 1, 0, none⟩) 0) := Lib.hid fun W' h => by
          have h1 := below_step e4 h
          rw [← hD3] at h1
          rw [← z2]
          have b1 : Below wr.heap.size wr D2 := below_step e1 e2
          refine row_new ?_ ?_ h1
          · rw [← hZ, ← HY.out]; rfl
          · intro z hz
            simp only [List.mem_cons, List.not_mem_nil, or_false] at hz
            rcases hz with rfl | rfl
            · subst hZ
              exact ⟨(by show (1 : Nat) ≤ 2; decide), (by show (2 : Nat) ≤ 1000000000000000; decide), (by show (1 : Nat) ≤ 1000000000000000; decide), (q2 D2 b1).take 1⟩
            · exact (OY.below b1).more b1.size
        have HBX : Hid (∀ W', Below D.heap.size D W' → W'.cell? ⟨wr.heap.size + 1, 0, none⟩ = some (.int .i64 6) ∧ W'.cell? ⟨wr.heap.size + 1, 1, none⟩ = some (.string ⟨#[]⟩) ∧ W'.cell? ⟨wr.heap.size + 1, 2, none⟩ = some (.int .i64 0) ∧ W'.cell? ⟨wr.heap.size + 1, 3, none⟩ = some (.int .i64 0) ∧ W'.cell? ⟨wr.heap.size + 1, 4, none⟩ = some (.int .i64 0) ∧ W'.cell? ⟨wr.heap.size + 1, 5, none⟩ = some (.slice (some ⟨wr.heap.size + 1 + 1, 0, none⟩) 2 2)) := Lib.hid fun W' h => by
          have h1 := below_step (below_step e3 e4) h
          rw [← hD2] at h1
          have g := fun j => box_cells h1 j
          simp only [z1] at g
          exact ⟨g 0, g 1, g 2, g 3, g 4, g 5⟩
        clear hD1 hD2 hD3 hDD e1 e2 e3 e4 z1 z2 OX OY hZ
        have GC := Lib.hid (GoodT.mk' (l := 4) (k := 14) (n := 0) (m := 0) (a := 0) (t := ⟨#[]⟩) (c := 4) HC4.out rfl (by omega) (by omega) (by decide) (build_cond X Y hx hy).1)
        have GM := Lib.hid (GoodT.mk' (l := 3) (k := 14) (n := 0) (m := 0) (a := 0) (t := ⟨#[]⟩) (c := 3) (fun W' h => q3 W' (below_step hD h)) rfl (by omega) (by omega) (by decide) (build_three X Y hx hy).2.2.2)
        have GF := Lib.hid (GoodT.mk' (l := 2) (k := 6) (n := 0) (m := 0) (a := 0) (t := ⟨#[]⟩) (c := 2) HZ.out rfl (by omega) (by omega) (by decide) (build_fun X Y Z hx hy hz))
        have GK := Lib.hid (GoodT.mk' (l := 2) (k := 13) (n := 0) (m := 0) (a := 0) (t := ⟨#[75]⟩) (c := 2) (fun W' h => q2 W' (below_step hD h)) rfl (by omega) (by omega) (by decide) (build_map X Y hx hy))
        have GR := Lib.hid (GoodT.mk' (l := 2) (k := 4) (n := 0) (m := 0) (a := 0) (t := ⟨#[]⟩) (c := 2) (fun W' h => q2 W' (below_step hD h)) rfl (by omega) (by omega) (by decide) (build_cond X Y hx hy).2)
        have HE := Lib.hid (below_step (below_step HW.out HBr.out) hD)
        clear q2 q3 hKr hD hz HC4 HZ
        refine (GC.out.prog _ (Below.refl _ _)).mono ?_
        rintro e E1 ⟨rfl, h1⟩
        go_wp2_with fail
        refine (GM.out.prog _ h1).mono ?_
        rintro e E2 ⟨rfl, h2⟩
        have h2' := below_step h1 h2
        obtain ⟨f0, f1, f2, f3, f4, f5⟩ := HBX.out E2 h2'
        clear h1 h2
        go_wp2_with fail
        refine (GF.out.prog _ h2').mono ?_
        rintro e E3 ⟨rfl, h3⟩
        have h3' := below_step h2' h3
        clear h2' h3 f0 f1 f2 f3 f4 f5
        go_wp2_with fail
        refine (GK.out.prog _ h3').mono ?_
        rintro e E4 ⟨rfl, h4⟩
        have h4' := below_step h3' h4
        clear h3' h4
        go_wp2_with fail
        refine (GR.out.prog _ h4').mono ?_
        rintro e E5 ⟨rfl, h5⟩
        have h5' := Lib.hid (below_step HE.out (below_step h4' h5))
        clear h4' h5
        go_wp2_with fail
        go_ret
        exact ⟨rfl, h5'.out⟩
    have hj3 : j = 0 ∨ j = 1 ∨ j = 2 := by omega
    clear hj h3 hB
    rcases hj3 with rfl | rfl | rfl
    · have G1 := Lib.hid (goodA 12 (by omega))
      have G2 := Lib.hid (goodB 12 (by omega))
      have G3 := Lib.hid (goodC 12 _ B3.1)
      clear goodA goodB goodC B3 q2 q3 hKr
      go_wp2_with fail
      go_region_held3 (fun w' => BD wr w' ∧ w'.cell? ⟨W5.heap.size + 1 + 1, 0, none⟩ = some (.int .i64 12) ∧ w'.cell? ⟨W5.heap.size + 1 + 1, 1, none⟩ = some (.int .i64 9) ∧ w'.cell? ⟨W5.heap.size + 1 + 1, 2, none⟩ = some (.int .i64 10))
        (first | exact B0 | exact MK.out _ (Below.drew (Below.refl _ _)) | exact MK.out _ (by assumption) | exact MK.out _ (below_step (And.left (by assumption)) (by assumption)) | exact MK.out _ (below_step (by assumption) (by assumption)))
        (first | (go_at_call 11; refine (GoodT.prog (by first | exact G1.out | exact G2.out | exact G3.out) _ ?_).mono ?_; (first | exact And.left (by assumption) | exact Below.refl _ _ | exact Below.drew (Below.refl _ _) | assumption); rintro e w' ⟨rfl, hb⟩))
      rename_i hS
      have HBe := Lib.hid (below_step HBr.out hS.1)
      clear hS B0
      go_wp2_with fail
      go_roundw
      case rel => exact ⟨1, by omega, by go_num, HBe.out⟩
      case measure => simp [intOf]
    · have G1 := Lib.hid (goodA 9 (by omega))
      have G2 := Lib.hid (goodB 9 (by omega))
      have G3 := Lib.hid (goodC 9 _ B3.2.1)
      clear goodA goodB goodC B3 q2 q3 hKr
      go_wp2_with fail
      go_region_held3 (fun w' => BD wr w' ∧ w'.cell? ⟨W5.heap.size + 1 + 1, 0, none⟩ = some (.int .i64 12) ∧ w'.cell? ⟨W5.heap.size + 1 + 1, 1, none⟩ = some (.int .i64 9) ∧ w'.cell? ⟨W5.heap.size + 1 + 1, 2, none⟩ = some (.int .i64 10))
        (first | exact B0 | exact MK.out _ (Below.drew (Below.refl _ _)) | exact MK.out _ (by assumption) | exact MK.out _ (below_step (And.left (by assumption)) (by assumption)) | exact MK.out _ (below_step (by assumption) (by assumption)))
        (first | (go_at_call 11; refine (GoodT.prog (by first | exact G1.out | exact G2.out | exact G3.out) _ ?_).mono ?_; (first | exact And.left (by assumption) | exact Below.refl _ _ | exact Below.drew (Below.refl _ _) | assumption); rintro e w' ⟨rfl, hb⟩))
      rename_i hS
      have HBe := Lib.hid (below_step HBr.out hS.1)
      clear hS B0
      go_wp2_with fail
      go_roundw
      case rel => exact ⟨2, by omega, by go_num, HBe.out⟩
      case measure => simp [intOf]
    · have G1 := Lib.hid (goodA 10 (by omega))
      have G2 := Lib.hid (goodB 10 (by omega))
      have G3 := Lib.hid (goodC 10 _ B3.2.2.1)
      clear goodA goodB goodC B3 q2 q3 hKr
      go_wp2_with fail
      go_region_held3 (fun w' => BD wr w' ∧ w'.cell? ⟨W5.heap.size + 1 + 1, 0, none⟩ = some (.int .i64 12) ∧ w'.cell? ⟨W5.heap.size + 1 + 1, 1, none⟩ = some (.int .i64 9) ∧ w'.cell? ⟨W5.heap.size + 1 + 1, 2, none⟩ = some (.int .i64 10))
        (first | exact B0 | exact MK.out _ (Below.drew (Below.refl _ _)) | exact MK.out _ (by assumption) | exact MK.out _ (below_step (And.left (by assumption)) (by assumption)) | exact MK.out _ (below_step (by assumption) (by assumption)))
        (first | (go_at_call 11; refine (GoodT.prog (by first | exact G1.out | exact G2.out | exact G3.out) _ ?_).mono ?_; (first | exact And.left (by assumption) | exact Below.refl _ _ | exact Below.drew (Below.refl _ _) | assumption); rintro e w' ⟨rfl, hb⟩))
      rename_i hS
      have HBe := Lib.hid (below_step HBr.out hS.1)
      clear hS B0
      go_wp2_with fail
      go_roundw
      case rel => exact ⟨3, by omega, by go_num, HBe.out⟩
      case measure => simp [intOf]
end Go.Proofs.Ytogoolpgajopcaa
