import Derived.Test.YteghbblbkljdhaaDoorSoJ
namespace Go.Proofs.YteghbblbkljdhaaDoor
open Go.RowKit
/-- symMerge: two sorted pieces become one. -/
theorem merge_all (g N c : Nat) (hN : N ≤ 1000000) (hc : N ≤ c) : ∀ d, MergeOk g N c d := by
  intro d
  induction d with
  | zero => intro a m b f w hd; intros; omega
  | succ d ih =>
    intro a m b f w hd h hg ham hmb hb hX hY
    by_cases h1 : m = a + 1
    · exact merge_a g N c a m b h1 f w h hg hmb hb hN hc hY
    · by_cases h2 : b = m + 1
      · exact merge_b g N c a m b h2 f w h hg (by omega) hb hN hc hX
      · exact merge_c g N c d a m b ih hd f w h hg (by omega) (by omega) hb hN hc hX hY
/-- The same, its numbers as the walk spells them. -/
theorem merge_i {g N c a m b : Nat} {f : Nat → DiagD} {w : World} (hN : N ≤ 1000000) (hc : N ≤ c) (h : Row w g N f) (hg : g < w.heap.size) (ham : a < m) (hmb : m < b) (hb : b ≤ N) (hX : Srt ltD f a m) (hY : Srt ltD f m b) (x y z : Int) (hx : x = a) (hy : y = m) (hz : z = b) :
    Calls Tryd.prog 73 #[.slice (some ⟨g, 0, none⟩) N c, .int .i64 x, .int .i64 y, .int .i64 z, cmpV] w fun e w' => e = .returned (.tuple #[]) ∧ ∃ f', Row w' g N f' ∧ Seg N a b f f' ∧ Srt ltD f' a b ∧ Kp (fun k => k ≠ g) w w' := by
  subst hx hy hz
  exact merge_all g N c hN hc b a m b f w (by omega) h hg ham hmb hb hX hY
theorem insertion_i {g N c a b : Nat} {f : Nat → DiagD} {w : World} (hN : N ≤ 1000000) (hc : N ≤ c) (h : Row w g N f) (hg : g < w.heap.size) (hab : a ≤ b) (hb : b ≤ N) (x y : Int) (hx : x = a) (hy : y = b) :
    Calls Tryd.prog 72 #[.slice (some ⟨g, 0, none⟩) N c, .int .i64 x, .int .i64 y, cmpV] w fun e w' => e = .returned (.tuple #[]) ∧ ∃ f', Row w' g N f' ∧ Seg N a b f f' ∧ Srt ltD f' a b ∧ Kp (fun k => k ≠ g) w w' := by
  subst hx hy
  exact insertion_ok g N c a b f w h hg hab hb hN hc
/-- All pieces of t places, the last one too, are sorted. -/
def Chunks (t : Nat) (f : Nat → DiagD) (N : Nat) : Prop := ∀ k, Srt ltD f (k * t) (min ((k + 1) * t) N)
/-- All whole pieces of t places up to a are sorted. -/
def Done (t : Nat) (f : Nat → DiagD) (a : Nat) : Prop := ∀ j, (j + 1) * t ≤ a → Srt ltD f (j * t) ((j + 1) * t)
theorem done_step {t K a b N : Nat} {f g : Nat → DiagD} (ht : 0 < t) (ha : a = K * t) (hb : b = a + t) (h : Done t f a) (hs : Seg N a b f g) (hr : Srt ltD g a b) : Done t g b := by
  intro j hj
  by_cases h1 : (j + 1) * t ≤ a
  · exact (h j h1).ext (fun k _ hk => hs.out k (Or.inl (by omega)))
  · have hbK : b = (K + 1) * t := by rw [hb, ha, Nat.add_mul, Nat.one_mul]
    have h2 : j + 1 ≤ K + 1 := Nat.le_of_mul_le_mul_right (by rw [← hbK]; exact hj) ht
    have h3 : K ≤ j := by
      rcases Nat.lt_or_ge j K with h4 | h4
      · exact absurd (by rw [ha]; exact Nat.mul_le_mul_right t h4) h1
      · exact h4
    obtain rfl : j = K := by omega
    rw [← ha, ← hbK]
    exact hr
theorem done_end {t K a N : Nat} {f : Nat → DiagD} (ha : a = K * t) (hN : N < a + t) (h : Done t f a) (hr : Srt ltD f a N) : Chunks t f N := by
  intro j
  by_cases h1 : (j + 1) * t ≤ a
  · exact (h j h1).sub (Nat.le_refl _) (Nat.min_le_left _ _)
  · have h3 : K ≤ j := by
      rcases Nat.lt_or_ge j K with h4 | h4
      · exact absurd (by rw [ha]; exact Nat.mul_le_mul_right t h4) h1
      · exact h4
    by_cases h4 : j = K
    · subst h4
      rw [← ha]
      exact hr.sub (Nat.le_refl _) (Nat.min_le_right _ _)
    · have h5 : (K + 1) * t ≤ j * t := Nat.mul_le_mul_right t (by omega)
      have h6 : (K + 1) * t = a + t := by rw [ha, Nat.add_mul, Nat.one_mul]
      exact Srt.one (by have := Nat.min_le_right ((j + 1) * t) N; omega)
theorem chunk_two {s K a N : Nat} {f : Nat → DiagD} (h : Chunks s f N) (ha : a = K * (2 * s)) : Srt ltD f a (min (a + s) N) ∧ Srt ltD f (a + s) (min (a + 2 * s) N) := by
  have e1 : 2 * K * s = a := by rw [ha, Nat.mul_comm 2 K, Nat.mul_assoc]
  have e2 : (2 * K + 1) * s = a + s := by rw [Nat.add_mul, e1, Nat.one_mul]
  have e3 : (2 * K + 1 + 1) * s = a + 2 * s := by rw [Nat.add_mul, e2, Nat.one_mul]; omega
  have h1 := h (2 * K)
  have h2 := h (2 * K + 1)
  rw [e1, e2] at h1
  rw [e2, e3] at h2
  exact ⟨h1, h2⟩
set_option maxRecDepth 100000 in
set_option maxHeartbeats 4000000 in
theorem stable_ok (g N c : Nat) (f : Nat → DiagD) (w : World) (h : Row w g N f) (hg : g < w.heap.size) (hN : N ≤ 1000000) (hc : N ≤ c) :
    Calls Tryd.prog 61 #[.slice (some ⟨g, 0, none⟩) N c, .int .i64 N, cmpV] w fun e w' => e = .returned (.tuple #[]) ∧ ∃ f', Row w' g N f' ∧ Seg N 0 N f f' ∧ Srt ltD f' 0 N ∧ Kp (fun k => k ≠ g) w w' := by
  have HR := Lib.hid h
  have HGw := Lib.hid hg
  have KI := Lib.hid (fun (a b : Nat) (f' : Nat → DiagD) (w' : World) (hr : Row w' g N f') (hg' : g < w'.heap.size) (hab : a ≤ b) (hb : b ≤ N) => insertion_i hN hc hr hg' hab hb)
  have KM := Lib.hid (fun (a m b : Nat) (f' : Nat → DiagD) (w' : World) (hr : Row w' g N f') (hg' : g < w'.heap.size) (ham : a < m) (hmb : m < b) (hb : b ≤ N) (hX : Srt ltD f' a m) (hY : Srt ltD f' m b) => merge_i hN hc hr hg' ham hmb hb hX hY)
  clear h hg
  generalize cmpV = cv at KI KM
  go_enter Tryd.func61, Tryd.ntmps61
  go_wp2_with fail
  go_loopw [7, 8] (fun v u wr => ∃ (x y q : Nat) (f' : Nat → DiagD), v = .int .i64 x ∧ u = .int .i64 y ∧ x ≤ N ∧ Hid (x = q * 20 ∧ y = x + 20) ∧ Row wr g N f' ∧ Seg N 0 N f f' ∧ Done 20 f' x ∧ Kp (fun k => k ≠ g) w wr) (fun v _ _ => N + 1 - (intOf v).toNat)
  case atStart => exact ⟨0, 20, 0, f, rfl, rfl, by omega, Lib.hid ⟨by omega, by omega⟩, HR.out, Seg.refl _ _ _ _, fun k hk => by omega, Kp.refl _ _⟩
  case round =>
    obtain ⟨x, y, q, f1, rfl, rfl, hxN, hxy, hr, hs, hbl, hk⟩ := hrel
    have HR1 := Lib.hid hr
    have HS1 := Lib.hid hs
    have HB1 := Lib.hid hbl
    have HK1 := Lib.hid hk
    have HG1 : Hid (g < wr.heap.size) := Lib.hid (Nat.lt_of_lt_of_le HGw.out hk.size)
    clear hr hs hbl hk
    have hy1 : y ≤ 1000020 := by have := hxy.out; omega
    by_cases hlt : y ≤ N
    · have tl : decide ((y : Int) ≤ (N : Int)) = true := by simp; omega
      have HLt := Lib.hid hlt
      clear hlt
      go_wp2_with (go_at_call 72; refine (KI.out x y f1 _ HR1.out HG1.out (by have := hxy.out; omega) HLt.out _ _ rfl rfl).mono ?_; rintro e w2 ⟨rfl, f2, hr2, hs2, ht2, hk2⟩; have HR2 := Lib.hid hr2; have HS2 := Lib.hid hs2; have HT2 := Lib.hid ht2; have HK2 := Lib.hid hk2; clear hr2 hs2 ht2 hk2)
      exact ⟨⟨y, y + 20, q + 1, f2, rfl, by go_num, HLt.out, Lib.hid ⟨by have := hxy.out; omega, rfl⟩, HR2.out, HS1.out.trans (HS2.out.widen (by omega) HLt.out), done_step (by omega) hxy.out.1 hxy.out.2 HB1.out HS2.out HT2.out, HK1.out.trans HK2.out⟩, by have := hxy.out; simp [intOf]; omega⟩
    · have tl : decide ((y : Int) ≤ (N : Int)) = false := by simp; omega
      have HLt := Lib.hid hlt
      clear hlt
      go_wp2_with (go_at_call 72; refine (KI.out x N f1 _ HR1.out HG1.out hxN (Nat.le_refl _) _ _ rfl rfl).mono ?_; rintro e w2 ⟨rfl, f2, hr2, hs2, ht2, hk2⟩; have HR2 := Lib.hid hr2; have HS2 := Lib.hid hs2; have HT2 := Lib.hid ht2; have HK2 := Lib.hid hk2; clear hr2 hs2 ht2 hk2)
      have hch : Chunks 20 f2 N := done_end (K := q) hxy.out.1 (by have := hxy.out; have := HLt.out; omega) (fun j hj => (HB1.out j hj).ext (fun k _ hk => HS2.out.out k (Or.inl (by omega)))) HT2.out
      have HCh := Lib.hid hch
      have HSg2 := Lib.hid (HS1.out.trans (HS2.out.widen (by omega) (Nat.le_refl _)))
      have HK3 := Lib.hid (HK1.out.trans HK2.out)
      clear hch
      go_loopw [6] (fun v wr2 => ∃ (s : Nat) (f' : Nat → DiagD), v = .int .i64 s ∧ 0 < s ∧ s ≤ 2000000 ∧ Chunks s f' N ∧ Row wr2 g N f' ∧ Seg N 0 N f f' ∧ Kp (fun k => k ≠ g) w wr2) (fun v _ => 4000000 - (intOf v).toNat)
      case atStart => exact ⟨20, f2, rfl, by omega, by omega, HCh.out, HR2.out, HSg2.out, HK3.out⟩
      case round =>
        obtain ⟨s, f3, rfl, hs0, hs1, hch, hr3, hsg3, hk3⟩ := hrel
        have HR3 := Lib.hid hr3
        have HS3 := Lib.hid hsg3
        have HC3 := Lib.hid hch
        have HKs := Lib.hid hk3
        clear hr3 hsg3 hch hk3
        by_cases hsN : s < N
        case neg =>
          have ts : decide ((s : Int) < (N : Int)) = false := by simp; omega
          have hfin : Srt ltD f3 0 N := by
            have h1 := HC3.out 0
            rw [Nat.zero_mul, Nat.zero_add, Nat.one_mul, Nat.min_eq_right (by omega)] at h1
            exact h1
          have HF := Lib.hid hfin
          clear hfin
          go_wp2_with fail
          exact bodyPost_end (v := .tuple #[]) (by simp [results, Tryd.results61, go_sem]) rfl ⟨rfl, f3, HR3.out, HS3.out, HF.out, HKs.out⟩
        have ts : decide ((s : Int) < (N : Int)) = true := by simp; omega
        have hs2 : s ≤ 1000000 := by omega
        go_wp2_with fail
        go_loopw [7, 8] (fun v u wr3 => ∃ (x y q : Nat) (f' : Nat → DiagD), v = .int .i64 x ∧ u = .int .i64 y ∧ x ≤ N ∧ Hid (x = q * (2 * s) ∧ y = x + 2 * s) ∧ Row wr3 g N f' ∧ Seg N 0 N f f' ∧ Done (2 * s) f' x ∧ (∀ p, x ≤ p → f' p = f3 p) ∧ Kp (fun k => k ≠ g) w wr3) (fun v _ _ => N + 1 - (intOf v).toNat)
        case atStart => exact ⟨0, 2 * s, 0, f3, rfl, by go_num, by omega, Lib.hid ⟨by omega, by omega⟩, HR3.out, HS3.out, fun k hk => by
          have h1 : 1 * (2 * s) ≤ (k + 1) * (2 * s) := Nat.mul_le_mul_right _ (by omega)
          omega, fun _ _ => rfl, HKs.out⟩
        case round =>
          obtain ⟨x2, y2, q2, f4, rfl, rfl, hx2N, hxy2, hr4, hsg4, hd4, hout4, hk4⟩ := hrel
          have HR4 := Lib.hid hr4
          have HS4 := Lib.hid hsg4
          have HD4 := Lib.hid hd4
          have HO4 := Lib.hid hout4
          have HK4 := Lib.hid hk4
          have HG4 : Hid (g < wr.heap.size) := Lib.hid (Nat.lt_of_lt_of_le HGw.out hk4.size)
          have hc2 := chunk_two HC3.out hxy2.out.1
          have HC2 := Lib.hid hc2
          have hy2 : y2 ≤ 4000000 := by have := hxy2.out; omega
          clear hr4 hsg4 hd4 hout4 hk4 hc2
          by_cases hlt2 : y2 ≤ N
          · have tl2 : decide ((y2 : Int) ≤ (N : Int)) = true := by simp; omega
            have hA : Srt ltD f4 x2 (x2 + s) := ((HC2.out.1).sub (Nat.le_refl _) (by have := hxy2.out; omega)).ext (fun k hk _ => HO4.out k hk)
            have hB : Srt ltD f4 (x2 + s) y2 := ((HC2.out.2).sub (Nat.le_refl _) (by have := hxy2.out; omega)).ext (fun k hk _ => HO4.out k (by omega))
            have HA := Lib.hid hA
            have HB := Lib.hid hB
            have HLt2 := Lib.hid hlt2
            clear hA hB hlt2
            go_wp2_with (go_at_call 73; refine (KM.out x2 (x2 + s) y2 f4 _ HR4.out HG4.out (by omega) (by have := hxy2.out; omega) HLt2.out HA.out HB.out _ _ _ rfl (by omega) rfl).mono ?_; rintro e w5 ⟨rfl, f5, hr5, hs5, ht5, hk5⟩; have HR5 := Lib.hid hr5; have HS5 := Lib.hid hs5; have HT5 := Lib.hid ht5; have HK5 := Lib.hid hk5; clear hr5 hs5 ht5 hk5)
            exact ⟨⟨y2, y2 + 2 * s, q2 + 1, f5, rfl, by go_num, HLt2.out, Lib.hid ⟨by rw [Nat.add_mul, Nat.one_mul]; have := hxy2.out; omega, rfl⟩, HR5.out, HS4.out.trans (HS5.out.widen (by omega) HLt2.out), done_step (by omega) hxy2.out.1 hxy2.out.2 HD4.out HS5.out HT5.out, fun p hp => (HS5.out.out p (Or.inr hp)).trans (HO4.out p (by have := hxy2.out; omega)), HK4.out.trans HK5.out⟩, by have := hxy2.out; simp [intOf]; omega⟩
          · have tl2 : decide ((y2 : Int) ≤ (N : Int)) = false := by simp; omega
            have tl2n : decide (y2 ≤ N) = false := by simp; omega
            have hN2 : N < x2 + 2 * s := by have := hxy2.out; omega
            have HN2 := Lib.hid hN2
            clear hlt2 hN2
            by_cases hm : x2 + s < N
            · have tm : decide ((x2 : Int) + (s : Int) < (N : Int)) = true := by simp; omega
              have tmn : decide (x2 + s < N) = true := by simp; omega
              have hA : Srt ltD f4 x2 (x2 + s) := ((HC2.out.1).sub (Nat.le_refl _) (by omega)).ext (fun k hk _ => HO4.out k hk)
              have hB : Srt ltD f4 (x2 + s) N := ((HC2.out.2).sub (Nat.le_refl _) (by have := HN2.out; omega)).ext (fun k hk _ => HO4.out k (by omega))
              have HA := Lib.hid hA
              have HB := Lib.hid hB
              have HM := Lib.hid hm
              clear hA hB hm
              go_wp2_with (go_at_call 73; refine (KM.out x2 (x2 + s) N f4 _ HR4.out HG4.out (by omega) HM.out (Nat.le_refl _) HA.out HB.out _ _ _ rfl (by omega) rfl).mono ?_; rintro e w5 ⟨rfl, f5, hr5, hs5, ht5, hk5⟩; have HR5 := Lib.hid hr5; have HS5 := Lib.hid hs5; have HT5 := Lib.hid ht5; have HK5 := Lib.hid hk5; clear hr5 hs5 ht5 hk5)
              have hch : Chunks (2 * s) f5 N := done_end (K := q2) hxy2.out.1 HN2.out (fun j hj => (HD4.out j hj).ext (fun k _ hk => HS5.out.out k (Or.inl (by omega)))) HT5.out
              rw [Nat.mul_comm] at hch
              exact ⟨⟨s * 2, f5, by go_num, by omega, by omega, hch, HR5.out, HS4.out.trans (HS5.out.widen (by omega) (Nat.le_refl _)), HK4.out.trans HK5.out⟩, by simp [intOf]; omega⟩
            · have tm : decide ((x2 : Int) + (s : Int) < (N : Int)) = false := by simp; omega
              have tmn : decide (x2 + s < N) = false := by simp; omega
              have hA : Srt ltD f4 x2 N := ((HC2.out.1).sub (Nat.le_refl _) (by omega)).ext (fun k hk _ => HO4.out k hk)
              have hch : Chunks (2 * s) f4 N := done_end (K := q2) hxy2.out.1 HN2.out HD4.out hA
              rw [Nat.mul_comm] at hch
              have HCh2 := Lib.hid hch
              clear hA hch hm
              go_wp2_with fail
              exact ⟨⟨s * 2, f4, by go_num, by omega, by omega, HCh2.out, HR4.out, HS4.out, HK4.out⟩, by simp [intOf]; omega⟩
end Go.Proofs.YteghbblbkljdhaaDoor
