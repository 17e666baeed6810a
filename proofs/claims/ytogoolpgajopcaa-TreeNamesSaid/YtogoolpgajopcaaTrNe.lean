import Derived.Test.YtogoolpgajopcaaTrNd
import Derived.Test.YtogoolpgajopcaaTrL
namespace Go.Proofs.Ytogoolpgajopcaa
open Go.RowKit Go.Maps Go.WideMaps
def RefNames (P : Fo) : Prop := ∀ (k : Int) (t : ByteArray) (n m a : Int) (A : Option Addr) (c : Nat) (w : World), Holds w w.heap.size P A 0 → P.len ≤ 1000000000000000 → 1 + P.nodes ≤ 40000 → t.size ≤ 1000000000000000 →
    Calls Try.prog 26 #[val6 k t n m a P.len A c] w fun e w' => ∃ A' c' base, e = .returned (.slice A' (P.nm (addN [] k t)).length c') ∧ w'.ownsRow base 9 1 (.slice A' (P.nm (addN [] k t)).length c') (P.nm (addN [] k t)).length ((P.nm (addN [] k t)).map Value.string) ∧ Below w.heap.size w w'
set_option maxRecDepth 100000 in
set_option maxHeartbeats 2000000 in
theorem names_ref (P : Fo) : RefNames P := by
  intro k t n m a A c w hH hl hn ht
  have HH := Lib.hid hH
  obtain ⟨L, hL⟩ : ∃ L, P.nm (addN [] k t) = L := ⟨_, rfl⟩
  rw [hL]
  have HL := Lib.hid hL
  simp only [val6, cells6]
  clear hH hL
  go_enter Try.func26, Try.ntmps26
  go_wp2_with fail
  generalize hW : World.alloc _ _ = W at *
  have hb : Below w.heap.size w W := by rw [← hW]; exact (Below.refl _ _).alloc (Nat.le_refl _) _
  have K := Lib.hid (ref_prog P k t n m a A c W w.heap.size w.heap.size [] none 0 (HH.out.below hb) hl (Nat.le_refl _) hb.size (World.ownsRow_nil _ _ _ _) (by simpa using hn) ht)
  have HB := Lib.hid hb
  simp only [val6, cells6] at K
  rw [HL.out] at K
  clear hW HH hb
  refine K.out.mono ?_
  rintro e W2 ⟨A2, c2, rfl, r2, -, hb2⟩
  have HR := Lib.hid r2
  have HB2 := Lib.hid (HB.out.trans hb2)
  clear r2 hb2
  go_wp2_with fail
  go_ret
  exact ⟨A2, c2, _, rfl, HR.out, HB2.out⟩
set_option maxRecDepth 100000 in
set_option maxHeartbeats 4000000 in
theorem names_walk (k : Int) (t : ByteArray) (n m a : Int) (P : Fo) (A : Option Addr) (c : Nat) (w : World) (hH : Holds w w.heap.size P A 0) (hl : P.len ≤ c) (hc : c ≤ 1000000000000000) (ht : t.size ≤ 1000000000000000) :
    Calls Try.prog 7 #[val6 k t n m a P.len A c] w (LawPost w) := by
  have HH := Lib.hid hH
  have KA := Lib.hid (fun W => awake_true W)
  simp only [val6, cells6]
  clear hH
  go_enter Try.func7, Try.ntmps7
  go_wp2_with fail
  refine (KA.out _).mono ?_
  rintro e W1 ⟨rfl, hb1⟩
  have bx1 := Box.later (Box.new w k t n m a P.len A c) hb1
  have bx := bx1
  obtain ⟨HB1, -, c0, c1, c2, c3, c4, c5⟩ := bx
  have K := Lib.hid (small_prog k t n m a P A c W1 ((HH.out.below HB1).more HB1.size) (by omega))
  simp only [val6, cells6] at K
  clear hb1 HB1
  go_wp2_with fail
  refine K.out.mono ?_
  rintro e W2 ⟨rfl, hb2⟩
  have bx2 := bx1.later hb2
  have bx := bx2
  clear hb2 c0 c1 c2 c3 c4 c5 K bx1
  obtain ⟨HB2, -, c0, c1, c2, c3, c4, c5⟩ := bx
  by_cases hN : 1 + P.nodes ≤ 20000
  case neg =>
    rw [decide_eq_false hN]
    have HB := Lib.hid HB2
    clear HB2
    go_wp2_with fail
    refine (KA.out _).mono ?_
    rintro e W3 ⟨rfl, hb3⟩
    have HB3 := Lib.hid (below_step HB.out hb3)
    clear hb3
    go_wp2_with fail
    go_ret
    exact ⟨rfl, HB3.out⟩
  rw [decide_eq_true hN]
  obtain ⟨L, hL⟩ : ∃ L, P.nm (addN [] k t) = L := ⟨_, rfl⟩
  have hLn : L.length ≤ 40000 := by
    have h1 := nm_len P (addN [] k t)
    have h2 := addN_len [] k t
    rw [hL] at h1
    simp at h2
    omega
  have K := Lib.hid (names_prog P k t n m a A c W2 ((HH.out.below HB2).more HB2.size) (by omega) (by omega) ht)
  simp only [val6, cells6] at K
  rw [hL] at K
  have HL := Lib.hid hL
  have HNn := Lib.hid hN
  clear hN HB2 hL
  go_wp2_with fail
  refine K.out.mono ?_
  rintro e W3 ⟨A1, c1', base1, rfl, r1, hb3⟩
  have bx3 := bx2.later hb3
  have bx := bx3
  clear hb3 c0 c1 c2 c3 c4 c5 K bx2
  obtain ⟨HB3, -, c0, c1, c2, c3, c4, c5⟩ := bx
  have K := Lib.hid (names_ref P k t n m a A c W3 ((HH.out.below HB3).more HB3.size) (by omega) (by have := HNn.out; omega) ht)
  simp only [val6, cells6] at K
  rw [HL.out] at K
  have R1 := Lib.hid r1
  clear HB3 r1
  go_wp2_with fail
  refine K.out.mono ?_
  rintro e W4 ⟨A2, c2', base2, rfl, r2, hb4⟩
  have HB4 := Lib.hid (bx3.later hb4).below
  have R1' := Lib.hid (own_below R1.out hb4)
  have R2 := Lib.hid r2
  clear hb4 c0 c1 c2 c3 c4 c5 K bx3 r2 R1
  go_wp2_with fail
  go_loopw [5] (fun i wr => ∃ j : Nat, j ≤ L.length ∧ i = .int .i64 j ∧ Below W4.heap.size W4 wr) (fun i _ => L.length - (intOf i).toNat)
  case atStart => exact ⟨0, by omega, by go_num, Below.refl _ _⟩
  case round =>
    obtain ⟨j, hj, rfl, hB⟩ := hrel
    have HBr := Lib.hid hB
    by_cases hlt : j < L.length
    · have hO1 := own_below R1'.out hB
      have hO2 := own_below R2.out hB
      obtain ⟨g1, rfl⟩ : ∃ g, A1 = some ⟨g, 0, none⟩ := by
        rcases hO1.2 with ⟨_, h⟩ | ⟨g, cap, cur, h, _⟩
        · omega
        · exact ⟨g, by injection h⟩
      obtain ⟨g2, rfl⟩ : ∃ g, A2 = some ⟨g, 0, none⟩ := by
        rcases hO2.2 with ⟨_, h⟩ | ⟨g, cap, cur, h, _⟩
        · omega
        · exact ⟨g, by injection h⟩
      have e1 : wr.cell? ⟨g1, j, none⟩ = some (.string (L[j]'hlt)) := by
        rw [hO1.cellAt j (by omega), List.getElem?_map, List.getElem?_eq_getElem hlt]; rfl
      have e2 : wr.cell? ⟨g2, j, none⟩ = some (.string (L[j]'hlt)) := by
        rw [hO2.cellAt j (by omega), List.getElem?_map, List.getElem?_eq_getElem hlt]; rfl
      generalize (L[j]'hlt) = x at *
      have q1 : (x.toList != x.toList) = false := by simp
      have q2 : (x.toList == x.toList) = true := by simp
      clear hB hO1 hO2
      go_wp2_with fail
      go_quiet (fail)
      go_wp2_with fail
      go_roundw
      case rel => exact ⟨j + 1, by omega, by go_num, below_drewN HBr.out _⟩
      case measure => simp [intOf]; omega
    · have tj : decide ((j : Int) < (L.length : Int)) = false := by simp; omega
      have tj2 : decide (j < L.length) = false := by simp; omega
      clear hB
      go_wp2_with fail
      go_ret
      exact ⟨rfl, below_step HB4.out HBr.out⟩
end Go.Proofs.Ytogoolpgajopcaa
