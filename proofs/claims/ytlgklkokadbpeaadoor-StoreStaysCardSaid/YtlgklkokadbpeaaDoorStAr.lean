import Derived.Test.YtlgklkokadbpeaaDoorStAp
namespace Go.Proofs.YtlgklkokadbpeaaDoor
open Go.RowKit
set_option maxRecDepth 100000 in
set_option maxHeartbeats 800000 in
theorem apply_ref (s : ByteArray) (b off n d : Nat) (xs : List EditD) (w : World) (hs : s.size ≤ 1000000) (hn : xs.length = n) (hnd : n ≤ d) (hn1 : n ≤ 1000000) (hb : b < w.heap.size) (hx : EditsAt w b off xs) (ht : ∀ x ∈ xs, x.Text.size ≤ 1000000000000000) :
    Calls Tryd.prog 62 #[.string s, .slice (some ⟨b, off, none⟩) n d] w fun e w' => e = .returned (.tuple #[.string (applyE s xs).1, .int .i64 (applyE s xs).2]) ∧ Below w.heap.size w w' := by
  have HX := Lib.hid hx
  have HT := Lib.hid ht
  have HN := Lib.hid hn
  clear hx ht hn
  go_enter Tryd.func62, Tryd.ntmps62
  go_wp2
  go_loopw [0, 6] (fun v i wr => ∃ (k : Nat) (cur : ByteArray), k ≤ n ∧ i = .int .i64 k ∧ v = .string cur ∧ cur.size ≤ 1000000 ∧ applyE cur (xs.drop k) = applyE s xs ∧ Below w.heap.size w wr) (fun _ i _ => n - (intOf i).toNat)
  case atStart => exact ⟨0, s, by omega, by go_num, rfl, hs, rfl, Below.refl _ _⟩
  case round =>
    obtain ⟨k, cur, hk, rfl, rfl, hcur, hap, hB⟩ := hrel
    have HA := Lib.hid hap
    have HB := Lib.hid hB
    clear hap hB hs
    by_cases hlt : k < n
    · have hkx : k < xs.length := by rw [HN.out]; exact hlt
      obtain ⟨f1, f2, f3⟩ := HX.out k hkx
      have g1 := (HB.out.cell (p := ⟨b, off + k * 3, none⟩) hb).trans f1
      have g2 := (HB.out.cell (p := ⟨b, off + k * 3 + 1, none⟩) hb).trans f2
      have g3 := (HB.out.cell (p := ⟨b, off + k * 3 + 2, none⟩) hb).trans f3
      have hh := HA.out
      rw [drop_at xs k hkx, applyE] at hh
      have htk := HT.out xs[k] (List.getElem_mem hkx)
      generalize xs[k] = x at *
      clear f1 f2 f3 hkx HA
      obtain ⟨From, To, Text⟩ := x
      simp only at g1 g2 g3 htk
      by_cases hbad : bad cur ⟨From, To, Text⟩
      · rw [if_pos hbad] at hh
        have HH := Lib.hid hh
        clear hh
        unfold bad at hbad
        simp only at hbad
        by_cases h1 : From < 0
        · clear hbad
          go_wp2_with fail
          go_ret2
          exact ⟨ret_se (by rw [← HH.out]) (by rw [← HH.out]), HB.out.alloc HB.out.size _⟩
        by_cases h2 : To < From
        · clear hbad
          go_wp2_with fail
          go_ret2
          exact ⟨ret_se (by rw [← HH.out]) (by rw [← HH.out]), HB.out.alloc HB.out.size _⟩
        have h3 : (cur.size : Int) < To := by omega
        clear hbad
        go_wp2_with fail
        go_ret2
        exact ⟨ret_se (by rw [← HH.out]) (by rw [← HH.out]), HB.out.alloc HB.out.size _⟩
      · rw [if_neg hbad] at hh
        have hz := cut_size cur ⟨From, To, Text⟩ hbad
        unfold bad at hbad
        simp only at hbad hz
        obtain ⟨f, rfl⟩ : ∃ f : Nat, From = f := ⟨From.toNat, by omega⟩
        obtain ⟨t, rfl⟩ : ∃ t : Nat, To = t := ⟨To.toNat, by omega⟩
        have b1 : f ≤ t := by omega
        have b2 : t ≤ cur.size := by omega
        have q1 : decide ((f : Int) < 0) = false := by simp
        have q2 : decide (t < f) = false := by simp; omega
        have q3 : decide (cur.size < t) = false := by simp; omega
        by_cases hlong : 262144 < (cut cur ⟨f, t, Text⟩).size
        · rw [if_pos hlong] at hh
          have HH := Lib.hid hh
          have q4 : 262144 < (cut cur ⟨f, t, Text⟩).size := hlong
          simp [cut] at q4
          clear hh hbad hz hlong
          go_wp2_with fail
          go_quiet (fail)
          go_wp2_with fail
          go_ret2
          exact ⟨ret_se (by rw [← HH.out]) (by rw [← HH.out]), below_drewN (HB.out.alloc HB.out.size _) _⟩
        · rw [if_neg hlong] at hh
          have HH := Lib.hid hh
          have HL := Lib.hid hlong
          have q4 : ¬ 262144 < (cut cur ⟨f, t, Text⟩).size := hlong
          simp [cut] at q4
          clear hh hbad hz hlong
          go_wp2_with fail
          go_quiet (fail)
          go_wp2_with fail
          go_roundw
          case rel => exact ⟨k + 1, cut cur ⟨f, t, Text⟩, by omega, by go_num, by simp [cut], by have := HL.out; omega, HH.out, below_drewN (HB.out.alloc HB.out.size _) _⟩
          case measure => simp [intOf]; omega
    · obtain rfl : k = n := by omega
      have e0 : applyE cur (xs.drop k) = (cur, 0) := by rw [List.drop_of_length_le (by rw [HN.out]; omega)]; rfl
      have E0 := Lib.hid (e0.symm.trans HA.out)
      clear e0
      go_wp2
      go_ret2
      exact ⟨ret_se (by rw [← E0.out]) (by rw [← E0.out]), HB.out⟩
end Go.Proofs.YtlgklkokadbpeaaDoor
