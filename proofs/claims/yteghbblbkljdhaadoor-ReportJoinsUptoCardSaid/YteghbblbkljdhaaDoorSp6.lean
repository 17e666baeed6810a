import Derived.Test.YteghbblbkljdhaaDoorSp5
import Derived.Deep.RegionHeld3
namespace Go.Proofs.YteghbblbkljdhaaDoor
open Go.RowKit Go.Maps
theorem linesL_add (q : ByteArray → ByteArray) (f : Nat → DiagD) (k : Nat) : ∀ j, linesL q f (k + j) = linesL q f k ++ linesL q (fun i => f (k + i)) j
  | 0 => by simp [linesL]
  | j + 1 => by rw [← Nat.add_assoc, linesL, linesL_add q f k j, linesL]; simp
def RowOk (A' : Option Addr) (n c' : Nat) : Prop := A' = none ∧ n = 0 ∧ c' = 0 ∨ ∃ g, A' = some ⟨g, 0, none⟩ ∧ n ≤ c'
set_option maxRecDepth 100000 in
set_option maxHeartbeats 2000000 in
/-- Sort: the Diags in order. -/
theorem sort_prog2 (A : Option Addr) (n c : Nat) (f : Nat → DiagD) (w : World) (hn : n ≤ 1000000) (hA : NilOk A n c) (h : Src w A n f) :
    Calls Tryd.prog 29 #[.slice A n c] w fun e w' => ∃ A' c' f', e = .returned (.slice A' n c') ∧ RowOk A' n c' ∧ Src w' A' n f' ∧ Srt ltD f' 0 n ∧ (∀ p, cnt p f' n = cnt p f n) ∧ Below w.heap.size w w' := by
  cases A with
  | none =>
    obtain ⟨rfl, rfl⟩ := hA rfl
    clear h hA
    go_enter Tryd.func29, Tryd.ntmps29
    go_wp2_with fail
    refine (clone_nil _).mono ?_
    rintro e w2 ⟨rfl, rfl⟩
    go_wp2_with fail
    refine (ssf_nil _).mono ?_
    rintro e w2 ⟨rfl, rfl⟩
    go_wp2_with fail
    go_ret
    exact ⟨none, 0, f, rfl, .inl ⟨rfl, rfl, rfl⟩, .inl rfl, Srt.one (by omega), fun _ => rfl, Below.refl _ _⟩
  | some ad =>
    have hcl : ∀ j u, (flat4 f n)[j]? = some u → w.cell? (ad.add j) = some u := by
      rcases h with h | ⟨b, off, hA, _, hc⟩
      · subst h; intro j u hj; simp [flat4] at hj
      · injection hA with hA; subst hA; exact src_add hc
    have K := Lib.hid (clone_some ad n c f w hn hcl)
    have HN := Lib.hid hn
    clear h hA hcl hn
    go_enter Tryd.func29, Tryd.ntmps29
    go_wp2_with fail
    refine K.out.mono ?_
    rintro e w2 ⟨g, c', rfl, hg1, hg2, hnc, hrow, hb2⟩
    have HB2 := Lib.hid hb2
    have HG1 := Lib.hid hg1
    have HNC := Lib.hid hnc
    have K2 := Lib.hid (ssf_some g n c' f w2 hrow hg2 HN.out hnc)
    clear hg1 hg2 hnc hrow hb2
    go_wp2_with fail
    refine K2.out.mono ?_
    rintro e w3 ⟨rfl, f', hr3, hs3, ht3, hk3⟩
    have HR3 := Lib.hid hr3
    have HS3 := Lib.hid hs3
    have HT3 := Lib.hid ht3
    have HK3 := Lib.hid hk3
    clear hr3 hs3 ht3 hk3
    go_wp2_with fail
    go_ret
    refine ⟨_, c', f', rfl, .inr ⟨g, rfl, HNC.out⟩, ?_, HT3.out, HS3.out.same, kp_below HB2.out HK3.out HG1.out⟩
    rcases Nat.eq_zero_or_pos n with h0 | h0
    · exact .inl h0
    · exact src_of_row HR3.out (HR3.out.lt h0)
/-- What is asked of report.All, from a world on. -/
structure GoodAll (w : World) (A : Option Addr) (n c : Nat) (B : Option Addr) (m d : Nat) (s : ByteArray) : Prop where
  ok : ∀ w1, BD w w1 → Calls Tryd.prog 31 #[.slice A n c, .slice B m d] w1 fun e w' => e = .returned (.string s) ∧ Below w1.heap.size w1 w'
theorem keepG {w w1 w2 : World} (hb : Below w1.heap.size w1 w2) (h : BD w w1) : BD w w2 := below_step h hb
theorem Src.part {w : World} {A : Option Addr} {n : Nat} {f : Nat → DiagD} (h : Src w A n f) {k : Nat} (hk : k ≤ n) : Src w A k f := by
  rcases h with h | ⟨b, off, hA, hl, hc⟩
  · exact .inl (by omega)
  · refine .inr ⟨b, off, hA, hl, fun j u hj => hc j u ?_⟩
    have hlt : j < k * 4 := by have := (List.getElem?_eq_some_iff.1 hj).1; rwa [flat4_len] at this
    obtain ⟨q, x, hx, rfl⟩ : ∃ q x, x < 4 ∧ j = q * 4 + x := ⟨j / 4, j % 4, by omega, by omega⟩
    rw [flat4_at f k q x (by omega) hx] at hj
    rw [flat4_at f n q x (by omega) hx]
    exact hj
theorem Src.tail {w : World} {b off : Nat} {n : Nat} {f : Nat → DiagD} (h : Src w (some ⟨b, off, none⟩) n f) {k : Nat} (hk : k < n) : Src w (some ⟨b, off + k * 4, none⟩) (n - k) (fun i => f (k + i)) := by
  rcases h with h | ⟨b', off', hA, hl, hc⟩
  · exact .inl (by omega)
  · injection hA with hA
    injection hA with e1 e2
    subst e1 e2
    refine .inr ⟨b, off + k * 4, rfl, hl, fun j u hj => ?_⟩
    have hlt : j < (n - k) * 4 := by have := (List.getElem?_eq_some_iff.1 hj).1; rwa [flat4_len] at this
    obtain ⟨q, x, hx, rfl⟩ : ∃ q x, x < 4 ∧ j = q * 4 + x := ⟨j / 4, j % 4, by omega, by omega⟩
    rw [flat4_at _ _ q x (by omega) hx] at hj
    have := hc ((k + q) * 4 + x) u (by rw [flat4_at f n (k + q) x (by omega) hx]; exact hj)
    rw [show off + k * 4 + (q * 4 + x) = off + ((k + q) * 4 + x) by omega]
    exact this
theorem good_all {w : World} {A : Option Addr} {n c : Nat} {g : Nat → Fi} {B : Option Addr} {m d : Nat} {f : Nat → DiagD} (hR : RepOk w) (hF : FSrc w A n g) (hn : n ≤ 1000) (hg : ∀ k, k < n → (g k).n.size ≤ 1048576 ∧ (g k).t.size ≤ 1048576) (hm : m ≤ 300) (hB : NilOk B m d) (h : Src w B m f) (hs : Srt ltD f 0 m) (hfs : ∀ k, k < m → (f k).f.size ≤ 1048576 ∧ (f k).t.size ≤ 1048576) :
    GoodAll w A n c B m d ⟨(linesL (srcOf g n) f m).toArray⟩ :=
  ⟨fun w1 hb => (all_any A n c g B m d f w1 (hF.later hb) hn (by omega) (fun k hk => by have := hg k hk; omega) (fun k hk => by have := hg k hk; omega) 1048576 (by decide) hfs (Nat.le_trans (Nat.mul_le_mul_right _ hm) (by decide)) hB (h.later hb) (hR.later hb).1 (hR.later hb).2).mono
    fun e w' ⟨fs, he, ht, hc, hb2⟩ => ⟨by rw [he, linesL_ext (f' := f) (fun k hk => (srt_unique ord_ltD hs ht (fun p => (hc p).symm) k hk))], hb2⟩⟩
set_option maxRecDepth 100000 in
set_option maxHeartbeats 4000000 in
theorem joins_any (A : Option Addr) (n c : Nat) (g : Nat → Fi) (B : Option Addr) (m d : Nat) (f : Nat → DiagD) (x : Int) (hx0 : 0 ≤ x) (hx1 : x ≤ 65535) (w : World) (hR : RepOk w) (hF : FSrc w A n g) (hg : ∀ k, k < n → (g k).n.size ≤ 1048576 ∧ (g k).t.size ≤ 1048576) (hB : NilOk B m d) (h : Src w B m f) (hfs : ∀ k, k < m → (f k).f.size ≤ 1048576 ∧ (f k).t.size ≤ 1048576) :
    Calls Tryd.prog 11 #[.slice A n c, .slice B m d, .int .u16 x] w fun e w' => e = .returned (.bool true) ∧ Below w.heap.size w w' := by
  have KA := Lib.hid (fun w1 (hb : Below w.heap.size w w1) => awake_any w1 (hR.later hb))
  have HR := Lib.hid hR
  have HS := Lib.hid h
  have HB := Lib.hid hB
  have HX := Lib.hid hfs
  have HF := Lib.hid hF
  have HG := Lib.hid hg
  clear hR h hB hfs hF hg
  by_cases hbig : 300 < m ∨ 20 < n
  · by_cases hm : 300 < m
    · have tm : decide ((300 : Int) < (m : Int)) = true := by simp; omega
      go_enter Tryd.func11, Tryd.ntmps11
      go_wp2_with fail
      refine (KA.out _ (Below.refl _ _)).mono ?_
      rintro e w1 ⟨rfl, hb1⟩
      go_wp2_with fail
      refine (KA.out _ hb1).mono ?_
      rintro e w2 ⟨rfl, hb2⟩
      go_wp2_with fail
      go_ret
      exact ⟨rfl, hb1.trans (hb2.mono hb1.size)⟩
    · have hn : 20 < n := by omega
      have tm : decide ((300 : Int) < (m : Int)) = false := by simp; omega
      have tn : decide ((20 : Int) < (n : Int)) = true := by simp; omega
      go_enter Tryd.func11, Tryd.ntmps11
      go_wp2_with fail
      refine (KA.out _ (Below.refl _ _)).mono ?_
      rintro e w1 ⟨rfl, hb1⟩
      go_wp2_with fail
      refine (KA.out _ hb1).mono ?_
      rintro e w2 ⟨rfl, hb2⟩
      go_wp2_with fail
      go_ret
      exact ⟨rfl, hb1.trans (hb2.mono hb1.size)⟩
  have hm : m ≤ 300 := by omega
  have hn : n ≤ 20 := by omega
  have tm : decide ((300 : Int) < (m : Int)) = false := by simp; omega
  have tn : decide ((20 : Int) < (n : Int)) = false := by simp; omega
  clear hbig
  go_enter Tryd.func11, Tryd.ntmps11
  go_wp2_with fail
  refine (KA.out _ (Below.refl _ _)).mono ?_
  rintro e w1 ⟨rfl, hb1⟩
  have HB1 := Lib.hid hb1
  clear hb1
  go_wp2_with fail
  go_loopw [7] (fun v wr => ∃ i : Nat, i ≤ n ∧ v = .int .i64 i ∧ Below w.heap.size w wr) (fun v _ => n - (intOf v).toNat)
  case atStart => exact ⟨0, by omega, rfl, HB1.out⟩
  case round =>
    obtain ⟨i, hi, rfl, hb⟩ := hrel
    have HBi := Lib.hid hb
    by_cases hlt : i < n
    · have ti : decide ((i : Int) < (n : Int)) = true := by simp; omega
      obtain ⟨b, off, hA, c0, c1, c2⟩ := (HF.out.later hb).at hlt
      subst hA
      have HLt := Lib.hid hlt
      clear hb c0 c2
      by_cases ht : 1000 < (g i).t.size
      · have tt : decide ((1000 : Int) < ((g i).t.size : Int)) = true := by simp; omega
        go_wp2_with fail
        go_ret
        exact ⟨rfl, HBi.out⟩
      · have tt : decide ((1000 : Int) < ((g i).t.size : Int)) = false := by simp; omega
        go_wp2_with fail
        exact ⟨⟨i + 1, HLt.out, by simp, HBi.out⟩, by simp [intOf]; omega⟩
    · obtain rfl : i = n := by omega
      have ti : decide ((i : Int) < (i : Int)) = false := by simp
      clear hb hlt
      go_wp2_with fail
      refine (sort_prog2 _ _ _ f _ (by omega) HB.out (HS.out.later HBi.out)).mono ?_
      rintro e w6 ⟨A2, c2, fs, rfl, hn2, hs2, ht2, hc2, hb6⟩
      have HS2 := Lib.hid hs2
      have HT2 := Lib.hid ht2
      have HX2 := Lib.hid (all_of_cnt hc2 HX.out)
      have HB6 := Lib.hid (HBi.out.trans (hb6.mono HBi.out.size))
      clear hs2 ht2 hc2 hb6
      have HR6 := Lib.hid (HR.out.later HB6.out)
      have HF6 := Lib.hid (HF.out.later HB6.out)
      have B0 : BD w6 w6.drew := Below.drew (Below.refl _ _)
      have K4 : GoodAll w6 A i c none 0 0 ⟨#[]⟩ := good_all HR6.out HF6.out (by omega) HG.out (by omega) (fun _ => ⟨rfl, rfl⟩) (f := fs) (.inl rfl) (Srt.one (by omega)) (fun k hk => by omega)
      by_cases h0 : m = 0
      · subst h0
        obtain ⟨P, hPe, hPP, hP1⟩ : ∃ P : ByteArray, P = ⟨#[]⟩ ∧ P ++ P = P ∧ P.toList.isEmpty = true := ⟨⟨#[]⟩, rfl, by decide, by simp [ByteArray.toList_eq]⟩
        have n0 : ¬ (9223372036854775807 < P.size + P.size) := by rw [hPe]; decide
        rcases hn2 with ⟨rfl, _, rfl⟩ | ⟨b2, rfl, _⟩
        · have K4 : GoodAll w6 A i c none 0 0 P := hPe ▸ K4
          clear hPe
          go_wp2_with fail
          go_region_held3 (fun w' => BD w6 w') (first | exact B0 | exact keepG (by assumption) (by assumption)) (first
            | (go_at_call 31; (with_reducible refine (K4.ok _ (by assumption)).mono ?_); rintro e w' ⟨rfl, hb⟩))
          rename_i hS
          have HBz := Lib.hid (HB6.out.trans (hS.mono HB6.out.size))
          clear hS hb
          go_wp2_with fail
          go_ret
          exact ⟨rfl, HBz.out⟩
        · have K5 : GoodAll w6 A i c (some ⟨b2, 0, none⟩) 0 c2 P := hPe ▸ good_all HR6.out HF6.out (by omega) HG.out (by omega) (fun h => by cases h) (f := fs) (.inl rfl) (Srt.one (by omega)) (fun k hk => by omega)
          clear hPe
          go_wp2_with fail
          have tk1 : (0 : Int) ≤ (c2 : Int) := by omega
          go_region_held3 (fun w' => BD w6 w') (first | exact B0 | exact keepG (by assumption) (by assumption)) (first
            | (go_at_call 31; (with_reducible refine (K4.ok _ (by assumption)).mono ?_); rintro e w' ⟨rfl, hb⟩)
            | (go_at_call 31; (with_reducible refine (K5.ok _ (by assumption)).mono ?_); rintro e w' ⟨rfl, hb⟩))
          rename_i hS
          have HBz := Lib.hid (HB6.out.trans (hS.mono HB6.out.size))
          clear hS hb
          go_wp2_with fail
          go_ret
          exact ⟨rfl, HBz.out⟩
      · have hm0 : 0 < m := by omega
        obtain ⟨b2, rfl, hmc⟩ : ∃ b, A2 = some ⟨b, 0, none⟩ ∧ m ≤ c2 := by
          rcases hn2 with ⟨_, h, _⟩ | ⟨b, h, h'⟩
          · omega
          · exact ⟨b, h, h'⟩
        have tm0 : decide ((0 : Int) < (m : Int)) = true := by simp; omega
        clear h0 hn2
        go_wp2_with fail
        obtain ⟨k, hk, hkm⟩ : ∃ k : Nat, x % (m : Int) = (k : Int) ∧ k < m := ⟨(x % (m : Int)).toNat, by have := Int.emod_nonneg x (show (m : Int) ≠ 0 by omega); omega, by have := Int.emod_nonneg x (show (m : Int) ≠ 0 by omega); have := Int.emod_lt_of_pos x (show (0 : Int) < m by omega); omega⟩
        rw [hk]
        have K1 := good_all (A := A) (c := c) (d := c2) HR6.out HF6.out (by omega) HG.out hm (fun h => by cases h) HS2.out HT2.out HX2.out
        have K2 := good_all (A := A) (c := c) (d := c2) HR6.out HF6.out (by omega) HG.out (show k ≤ 300 by omega) (fun h => by cases h) (HS2.out.part (show k ≤ m by omega)) (HT2.out.sub (Nat.le_refl _) (by omega)) (fun j hj => HX2.out j (by omega))
        have K3 := good_all (A := A) (c := c) (d := c2 - k) HR6.out HF6.out (by omega) HG.out (show m - k ≤ 300 by omega) (fun h => by cases h) (HS2.out.tail hkm) (fun a b h1 h2 h3 => HT2.out (k + a) (k + b) (by omega) (by omega) (by omega)) (fun j hj => HX2.out (k + j) (by omega))
        have e1 : linesL (srcOf g i) fs m = linesL (srcOf g i) fs k ++ linesL (srcOf g i) (fun j => fs (k + j)) (m - k) := by rw [← linesL_add, show k + (m - k) = m by omega]
        have z2 := lines_len (srcOf g i) fs 1048576 (src_size (fun k hk => by have := HG.out k hk; omega)) k (fun j hj => HX2.out j (by omega))
        have z3 := lines_len (srcOf g i) (fun j => fs (k + j)) 1048576 (src_size (fun k hk => by have := HG.out k hk; omega)) (m - k) (fun j hj => HX2.out (k + j) (by omega))
        have z2 := Nat.le_trans z2 (Nat.mul_le_mul_right _ (show k ≤ 300 by omega))
        have z3 := Nat.le_trans z3 (Nat.mul_le_mul_right _ (show m - k ≤ 300 by omega))
        rw [e1] at K1
        have e2 : ∀ l l' : List UInt8, (ByteArray.mk (l ++ l').toArray) = ByteArray.mk l.toArray ++ ByteArray.mk l'.toArray := fun l l' => by
          apply bytes_inj
          rw [ByteArray.data_append]
          simp
        rw [e2] at K1
        have z4 : (ByteArray.mk (linesL (srcOf g i) fs k).toArray).size ≤ 300 * (2 * 1048576 + 200) := z2
        have z5 : (ByteArray.mk (linesL (srcOf g i) (fun j => fs (k + j)) (m - k)).toArray).size ≤ 300 * (2 * 1048576 + 200) := z3
        generalize ByteArray.mk (linesL (srcOf g i) fs k).toArray = P at K1 K2 z4
        generalize ByteArray.mk (linesL (srcOf g i) (fun j => fs (k + j)) (m - k)).toArray = Q at K1 K3 z5
        have n0 : ¬ (9223372036854775807 < P.size + Q.size) := by omega
        have tk1 : (k : Int) ≤ (c2 : Int) := by omega
        have tk2 : (k : Int) ≤ (m : Int) := by omega
        have tk3 : (m : Int) ≤ (c2 : Int) := by omega
        rw [Nat.zero_add] at K3
        clear z2 z3 z4 z5 e1 e2 hk
        go_region_held3 (fun w' => BD w6 w') (first | exact B0 | exact keepG (by assumption) (by assumption)) (first
          | (go_at_call 31; (with_reducible refine (K1.ok _ (by assumption)).mono ?_); rintro e w' ⟨rfl, hb⟩)
          | (go_at_call 31; (with_reducible refine (K2.ok _ (by assumption)).mono ?_); rintro e w' ⟨rfl, hb⟩)
          | (go_at_call 31; (with_reducible refine (K3.ok _ (by assumption)).mono ?_); rintro e w' ⟨rfl, hb⟩)
          | (go_at_call 31; (with_reducible refine (K4.ok _ (by assumption)).mono ?_); rintro e w' ⟨rfl, hb⟩))
        rename_i hS
        have HBz := Lib.hid (HB6.out.trans (hS.mono HB6.out.size))
        clear hS hb
        go_wp2_with fail
        go_ret
        exact ⟨rfl, HBz.out⟩
theorem u16_bounds {n : Int} (h : (Lit.int .u16 n).wf = true) : 0 ≤ n ∧ n ≤ 65535 := by
  simp [Lit.wf, IntKind.min, IntKind.max, IntKind.bits, IntKind.signed] at h
  omega
end Go.Proofs.YteghbblbkljdhaaDoor
