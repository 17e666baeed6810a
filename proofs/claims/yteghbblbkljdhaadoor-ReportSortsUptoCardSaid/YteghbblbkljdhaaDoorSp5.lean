import Derived.Test.YteghbblbkljdhaaDoorSp4
import Derived.Test.YteghbblbkljdhaaDoorSoO
namespace Go.Proofs.YteghbblbkljdhaaDoor
open Go.RowKit Go.Maps
theorem linesL_ext {q : ByteArray → ByteArray} {f f' : Nat → DiagD} : ∀ {m : Nat}, (∀ k, k < m → f' k = f k) → linesL q f m = linesL q f' m
  | 0, _ => rfl
  | m + 1, h => by rw [linesL, linesL, linesL_ext (fun k hk => h k (by omega)), h m (by omega)]
set_option maxRecDepth 100000 in
set_option maxHeartbeats 4000000 in
theorem sorts_any (A : Option Addr) (n c : Nat) (g : Nat → Fi) (B : Option Addr) (m d : Nat) (f : Nat → DiagD) (w : World) (hR : RepOk w) (hF : FSrc w A n g) (hg : ∀ k, k < n → (g k).n.size ≤ 1048576 ∧ (g k).t.size ≤ 1048576) (hB : NilOk B m d) (h : Src w B m f) (hfs : ∀ k, k < m → (f k).f.size ≤ 1048576 ∧ (f k).t.size ≤ 1048576) :
    Calls Tryd.prog 8 #[.slice A n c, .slice B m d] w fun e w' => e = .returned (.bool true) ∧ Below w.heap.size w w' := by
  have KA := Lib.hid (fun w1 (hb : Below w.heap.size w w1) => awake_any w1 (hR.later hb))
  have HR := Lib.hid hR
  have HS := Lib.hid h
  have HB := Lib.hid hB
  have HX := Lib.hid hfs
  have HF := Lib.hid hF
  have HG := Lib.hid hg
  clear hR h hB hfs hF hg
  by_cases hbig : 2000 < m ∨ 100 < n
  · by_cases hm : 2000 < m
    · have tm : decide ((2000 : Int) < (m : Int)) = true := by simp; omega
      go_enter Tryd.func8, Tryd.ntmps8
      go_wp2_with fail
      refine (KA.out _ (Below.refl _ _)).mono ?_
      rintro e w1 ⟨rfl, hb1⟩
      go_wp2_with fail
      refine (KA.out _ hb1).mono ?_
      rintro e w2 ⟨rfl, hb2⟩
      go_wp2_with fail
      go_ret
      exact ⟨rfl, hb1.trans (hb2.mono hb1.size)⟩
    · have hn : 100 < n := by omega
      have tm : decide ((2000 : Int) < (m : Int)) = false := by simp; omega
      have tn : decide ((100 : Int) < (n : Int)) = true := by simp; omega
      go_enter Tryd.func8, Tryd.ntmps8
      go_wp2_with fail
      refine (KA.out _ (Below.refl _ _)).mono ?_
      rintro e w1 ⟨rfl, hb1⟩
      go_wp2_with fail
      refine (KA.out _ hb1).mono ?_
      rintro e w2 ⟨rfl, hb2⟩
      go_wp2_with fail
      go_ret
      exact ⟨rfl, hb1.trans (hb2.mono hb1.size)⟩
  have hm : m ≤ 2000 := by omega
  have hn : n ≤ 100 := by omega
  have tm : decide ((2000 : Int) < (m : Int)) = false := by simp; omega
  have tn : decide ((100 : Int) < (n : Int)) = false := by simp; omega
  clear hbig
  go_enter Tryd.func8, Tryd.ntmps8
  go_wp2_with fail
  refine (KA.out _ (Below.refl _ _)).mono ?_
  rintro e w1 ⟨rfl, hb1⟩
  have HB1 := Lib.hid hb1
  clear hb1
  go_wp2_with fail
  go_loopw [5, 6] (fun sv v wr => ∃ i s : Nat, i ≤ n ∧ s ≤ 50000 ∧ v = .int .i64 i ∧ sv = .int .i64 s ∧ Below w.heap.size w wr) (fun _ v _ => n - (intOf v).toNat)
  case atStart => exact ⟨0, 0, by omega, by omega, rfl, rfl, HB1.out⟩
  case round =>
    obtain ⟨i, s, hi, hs, rfl, rfl, hb⟩ := hrel
    have HBi := Lib.hid hb
    by_cases hs2 : 20000 < s
    · have ts : decide ((s : Int) ≤ (20000 : Int)) = false := by simp; omega
      have ts2 : decide ((20000 : Int) < (s : Int)) = true := by simp; omega
      clear hb
      by_cases hlt : i < n
      all_goals
        go_wp2_with fail
        go_ret
        exact ⟨rfl, HBi.out⟩
    have ts : decide ((s : Int) ≤ (20000 : Int)) = true := by simp; omega
    have ts2 : decide ((20000 : Int) < (s : Int)) = false := by simp; omega
    by_cases hlt : i < n
    · have ti : decide ((i : Int) < (n : Int)) = true := by simp; omega
      obtain ⟨b, off, hA, c0, c1, c2⟩ := (HF.out.later hb).at hlt
      subst hA
      have hgz := (HG.out i hlt).2
      have HLt := Lib.hid hlt
      clear hb c0 c2
      go_wp2_with fail
      refine ⟨⟨i + 1, s + min (g i).t.size 30000, HLt.out, by omega, by simp, ?_, HBi.out⟩, by simp [intOf]; omega⟩
      simp only [Value.int.injEq, true_and]
      omega
    · obtain rfl : i = n := by omega
      have ti : decide ((i : Int) < (i : Int)) = false := by simp
      clear hb hlt
      cases B with
      | none =>
        obtain ⟨hm0, hd0⟩ := HB.out rfl
        subst hm0 hd0
        have HN1 : Hid (NilOk none 0 0) := Lib.hid (fun _ => ⟨rfl, rfl⟩)
        have HS1 : Hid (Src wr none 0 f) := Lib.hid (.inl rfl)
        have HB2 := HBi
        go_wp2_with fail
        refine (sort_prog _ _ _ f _ (by omega) HN1.out HS1.out).mono ?_
        rintro e w6 ⟨A2, c2, fs, rfl, hn2, hs2, ht2, hc2, hb6⟩
        have HS2 := Lib.hid hs2
        have HT2 := Lib.hid ht2
        have HC2 := Lib.hid hc2
        have HB6 := Lib.hid (HB2.out.trans (hb6.mono HB2.out.size))
        clear hn2 hs2 ht2 hc2 hb6
        go_wp2_with fail
        refine (sort_ref _ _ _ f _ (by omega) (HS.out.later HB6.out)).mono ?_
        rintro e w7 ⟨A3, c3, f3, rfl, hs3, ht3, hc3, hb7⟩
        have HS3 := Lib.hid (Src.ext hs3 (g := fs) (fun k hk => srt_unique ord_ltD HT2.out ht3 (fun p => (HC2.out p).trans (hc3 p).symm) k hk))
        have HB7 := Lib.hid (HB6.out.trans (hb7.mono HB6.out.size))
        have HS4 := Lib.hid (HS2.out.later hb7)
        clear hs3 ht3 hc3 hb7
        go_wp2_with fail
        refine (same_diags (f := fs) (by omega) HS4.out HS3.out).mono ?_
        rintro e w8 ⟨rfl, hb8⟩
        have HB8 := Lib.hid (HB7.out.trans (hb8.mono HB7.out.size))
        clear hb8
        go_wp2_with fail
        refine (all_any _ _ _ g _ _ _ f _ (HF.out.later HB8.out) (by omega) (by omega) (fun k hk => by have := HG.out k hk; omega) (fun k hk => by have := HG.out k hk; omega) 1048576 (by decide) HX.out (Nat.le_trans (Nat.mul_le_mul_right _ (by omega : _ ≤ 2000)) (by decide)) HB.out (HS.out.later HB8.out) (HR.out.later HB8.out).1 (HR.out.later HB8.out).2).mono ?_
        rintro e w9 ⟨f4, rfl, ht4, hc4, hb9⟩
        have HT4 := Lib.hid ht4
        have HC4 := Lib.hid hc4
        have HB9 := Lib.hid (HB8.out.trans (hb9.mono HB8.out.size))
        clear ht4 hc4 hb9
        go_wp2_with fail
        refine (all_ref _ _ _ g _ _ _ f _ (HF.out.later HB9.out) (by omega) (by omega) (fun k hk => by have := HG.out k hk; omega) 1048576 (by decide) HX.out (Nat.le_trans (Nat.mul_le_mul_right _ (by omega : _ ≤ 2000)) (by decide)) (HS.out.later HB9.out) (HR.out.later HB9.out).2).mono ?_
        rintro e w10 ⟨f5, rfl, ht5, hc5, hb10⟩
        have HB10 := Lib.hid (HB9.out.trans (hb10.mono HB9.out.size))
        rw [linesL_ext (f' := f4) (fun k hk => (srt_unique ord_ltD HT4.out ht5 (fun p => (HC4.out p).trans (hc5 p).symm) k hk))]
        clear ht5 hc5 hb10
        generalize ByteArray.mk (linesL (srcOf g i) f4 _).toArray = x
        go_wp2_with fail
        go_ret
        exact ⟨rfl, HB10.out⟩
      | some ad =>
        have hcl : ∀ j u, (flat4 f m)[j]? = some u → wr.cell? (ad.add j) = some u := by
          rcases HS.out.later HBi.out with h | ⟨b, off, hA, _, hc⟩
          · subst h; intro j u hj; simp [flat4] at hj
          · injection hA with hA; subst hA; exact src_add hc
        have HCl := Lib.hid hcl
        have HL := Lib.hid (flat4_len f m)
        have HO := Lib.hid (flat4_one f m)
        obtain ⟨i0, hi0, hz0, hz1, hz2⟩ := info_partsD infoD
        clear hcl
        go_wp2_with (at_builtin; go_loud (refine wpList_append_own _ rfl _ _ 60 rfl wr.heap.size 55 i0 (.agg #[.string ⟨#[]⟩, .int .i64 0, .int .i64 0, .string ⟨#[]⟩]) 4 48 Tryd.underlying60 hi0 hz0 hz1 hz2 rfl (by decide) _ _ _ rfl (World.ownsRow_nil _ _ _ _) ad m d (flat4 f m) rfl ?a0 ?a1 ?a2 ?a3 ?a4 ?a5 ?_))
        case a0 => exact HL.out
        case a1 => exact HCl.out
        case a2 => exact HO.out
        case a3 => exact Nat.le_trans (by omega : 0 + m ≤ 2000) (by decide : 2000 ≤ maxLen)
        case a4 => omega
        case a5 => exact Nat.le_refl _
        intro v' w' hown hgrow hne
        have hb : Below wr.heap.size wr w' := (Below.refl wr.heap.size wr).grown hgrow (Nat.le_refl _) (fun k hk => by simp [Value.ownBlock] at hk)
        have hsrc : ∃ (A1 : Option Addr) (c1 : Nat), v' = .slice A1 m c1 ∧ NilOk A1 m c1 ∧ Src w' A1 m f := by
          have h2 := hown.2
          rcases h2 with ⟨h3, h4⟩ | ⟨g, cap, cur, h3, h4, h5, h6, _⟩
          · exact ⟨none, 0, by rw [h3, h4], fun _ => ⟨h4, rfl⟩, .inl h4⟩
          · subst h3
            have hlt : g < w'.heap.size := by
              rcases Nat.lt_or_ge g w'.heap.size with hh | hh
              · exact hh
              · rw [Array.getElem?_eq_none hh] at h5; cases h5
            exact ⟨_, cap, rfl, (fun h => by cases h), src_of_row (row_of_own hown) hlt⟩
        obtain ⟨A1, c1, rfl, hn1, hs1⟩ := hsrc
        have HN1 := Lib.hid hn1
        have HS1 := Lib.hid hs1
        have HB2 := Lib.hid (HBi.out.trans (hb.mono HBi.out.size))
        clear hown hgrow hne hb hn1 hs1
        go_wp2_with fail
        refine (sort_prog _ _ _ f _ (by omega) HN1.out HS1.out).mono ?_
        rintro e w6 ⟨A2, c2, fs, rfl, hn2, hs2, ht2, hc2, hb6⟩
        have HS2 := Lib.hid hs2
        have HT2 := Lib.hid ht2
        have HC2 := Lib.hid hc2
        have HB6 := Lib.hid (HB2.out.trans (hb6.mono HB2.out.size))
        clear hn2 hs2 ht2 hc2 hb6
        go_wp2_with fail
        refine (sort_ref _ _ _ f _ (by omega) (HS.out.later HB6.out)).mono ?_
        rintro e w7 ⟨A3, c3, f3, rfl, hs3, ht3, hc3, hb7⟩
        have HS3 := Lib.hid (Src.ext hs3 (g := fs) (fun k hk => srt_unique ord_ltD HT2.out ht3 (fun p => (HC2.out p).trans (hc3 p).symm) k hk))
        have HB7 := Lib.hid (HB6.out.trans (hb7.mono HB6.out.size))
        have HS4 := Lib.hid (HS2.out.later hb7)
        clear hs3 ht3 hc3 hb7
        go_wp2_with fail
        refine (same_diags (f := fs) (by omega) HS4.out HS3.out).mono ?_
        rintro e w8 ⟨rfl, hb8⟩
        have HB8 := Lib.hid (HB7.out.trans (hb8.mono HB7.out.size))
        clear hb8
        go_wp2_with fail
        refine (all_any _ _ _ g _ _ _ f _ (HF.out.later HB8.out) (by omega) (by omega) (fun k hk => by have := HG.out k hk; omega) (fun k hk => by have := HG.out k hk; omega) 1048576 (by decide) HX.out (Nat.le_trans (Nat.mul_le_mul_right _ (by omega : _ ≤ 2000)) (by decide)) HB.out (HS.out.later HB8.out) (HR.out.later HB8.out).1 (HR.out.later HB8.out).2).mono ?_
        rintro e w9 ⟨f4, rfl, ht4, hc4, hb9⟩
        have HT4 := Lib.hid ht4
        have HC4 := Lib.hid hc4
        have HB9 := Lib.hid (HB8.out.trans (hb9.mono HB8.out.size))
        clear ht4 hc4 hb9
        go_wp2_with fail
        refine (all_ref _ _ _ g _ _ _ f _ (HF.out.later HB9.out) (by omega) (by omega) (fun k hk => by have := HG.out k hk; omega) 1048576 (by decide) HX.out (Nat.le_trans (Nat.mul_le_mul_right _ (by omega : _ ≤ 2000)) (by decide)) (HS.out.later HB9.out) (HR.out.later HB9.out).2).mono ?_
        rintro e w10 ⟨f5, rfl, ht5, hc5, hb10⟩
        have HB10 := Lib.hid (HB9.out.trans (hb10.mono HB9.out.size))
        rw [linesL_ext (f' := f4) (fun k hk => (srt_unique ord_ltD HT4.out ht5 (fun p => (HC4.out p).trans (hc5 p).symm) k hk))]
        clear ht5 hc5 hb10
        generalize ByteArray.mk (linesL (srcOf g i) f4 _).toArray = x
        go_wp2_with fail
        go_ret
        exact ⟨rfl, HB10.out⟩
end Go.Proofs.YteghbblbkljdhaaDoor
