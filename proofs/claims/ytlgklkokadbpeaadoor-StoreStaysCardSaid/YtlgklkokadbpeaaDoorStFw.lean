import Derived.Test.YtlgklkokadbpeaaDoorStOp
namespace Go.Proofs.YtlgklkokadbpeaaDoor
open Go.RowKit Go.Maps Go.ChangeMaps Go.Sort
def FewPost (n : Nat) (os : List OpD) (w w' : World) (e : Ending) : Prop := (∃ r, e = .returned (.bool r) ∧ (r = true → n ≤ 200000 ∧ ∀ o ∈ os, o.m ≤ 200000)) ∧ w = w'
set_option maxRecDepth 100000 in
set_option maxHeartbeats 4000000 in
theorem few_any (w : World) (A : Option Addr) (n d : Nat) (os : List OpD) (h : OA w A n d os) :
    Calls Tryd.prog 16 #[.slice A n d] w fun e w' => FewPost n os w w' e := by
  have HO := Lib.hid h
  clear h
  go_enter Tryd.func16, Tryd.ntmps16
  go_wp2_with fail
  go_loop [3, 4] (fun v u => ∃ (s i : Nat), v = .int .i64 s ∧ u = .int .i64 i ∧ i ≤ n ∧ 10 * i ≤ s ∧ s ≤ 4000010 ∧ (s < 2000000 → ∀ j (hj : j < os.length), j < i → os[j].m ≤ 200000)) (fun _ u => n - (intOf u).toNat)
  case atStart => exact ⟨0, 0, rfl, rfl, by omega, by omega, by omega, fun _ _ _ h => by omega⟩
  case round =>
    obtain ⟨s, i, rfl, rfl, hi, hs, hs4, hm⟩ := hrel
    have HM := Lib.hid hm
    clear hm
    by_cases hlt : i < n
    case neg =>
      obtain rfl : i = n := by omega
      have tl : decide ((i : Int) < (i : Int)) = false := by simp
      have HS := Lib.hid hs
      go_wp2_with fail
      go_ret
      refine ⟨⟨_, rfl, fun hr => ?_⟩, rfl⟩
      have hr' : s < 2000000 := by have : (s : Int) < 2000000 := by simpa using hr
                                   omega
      obtain ⟨h1, _, _⟩ := HO.out
      refine ⟨by have := HS.out; omega, fun o ho => ?_⟩
      obtain ⟨j, hj, rfl⟩ := List.mem_iff_getElem.1 ho
      exact HM.out hr' j hj (by omega)
    by_cases hsm : s < 2000000
    case neg =>
      have tl : decide ((i : Int) < (n : Int)) = true := by simp; omega
      have tm : decide ((s : Int) < 2000000) = false := by simp; omega
      go_wp2_with fail
      go_ret
      exact ⟨⟨_, rfl, fun hr => by cases hr⟩, rfl⟩
    have tl : decide ((i : Int) < (n : Int)) = true := by simp; omega
    have tm : decide ((s : Int) < 2000000) = true := by simp; omega
    obtain ⟨h1, h2, h3⟩ := HO.out
    rcases h3 with h3 | ⟨b, off, rfl, hnd, hbl, hat⟩
    · omega
    obtain ⟨c0, c1, c2, c3⟩ := hat i (by omega)
    have hok := h2 os[i] (List.getElem_mem _)
    have HI : Hid (∀ x : Nat, (os[i]'(by omega)).m ≤ x → ∀ j (hj : j < os.length), j = i → os[j].m ≤ x) := Lib.hid (fun x hx j hj e => by subst e; exact hx)
    generalize os[i]'(by omega) = o at *
    obtain ⟨ok, on, ot, oA, om, od, oxs⟩ := o
    simp only at c0 c1 c2 c3
    unfold OpOk at hok
    simp only at hok
    have HOK := Lib.hid hok
    have HX := Lib.hid (And.intro h1 (And.intro hs hs4))
    have HL := Lib.hid hlt
    have HSM := Lib.hid hsm
    clear h2 hat hok h1
    go_wp2_with fail
    have hi2 : i < 200000 := by omega
    clear hs4 hs hsm
    go_loop [3, 5] (fun v u => ∃ (s' k : Nat), v = .int .i64 s' ∧ u = .int .i64 k ∧ k ≤ om ∧ s + 10 ≤ s' ∧ 10 * k ≤ s' ∧ s' ≤ 4000010) (fun _ u => om - (intOf u).toNat)
    case atStart => exact ⟨s + (10 + min ot.size 2000000), 0, by go_num, rfl, by omega, by omega, by omega, by have := HSM.out; omega⟩
    case round =>
      obtain ⟨s', k, rfl, rfl, hk, hs1, hs2, hs3⟩ := hrel
      by_cases hkm : k < om
      case neg =>
        obtain rfl : k = om := by omega
        have tk : decide ((k : Int) < (k : Int)) = false := by simp
        have HP := Lib.hid (And.intro hs1 (And.intro hs2 hs3))
        clear tl tm
        go_wp2_with fail
        refine ⟨⟨s', i + 1, rfl, by go_num, by omega, by have := HX.out; have := HP.out; omega, by have := HP.out; omega, fun hs j hj hji => ?_⟩, by simp [intOf]; omega⟩
        by_cases hj2 : j = i
        · exact HI.out 200000 (by have := HP.out; show k ≤ 200000; omega) j hj hj2
        · exact HM.out HSM.out j hj (by omega)
      by_cases hsk : s' < 2000000
      case neg =>
        have tk : decide ((k : Int) < (om : Int)) = true := by simp; omega
        have tn : decide ((s' : Int) < 2000000) = false := by simp; omega
        have HP := Lib.hid (And.intro hs1 (And.intro hs2 hs3))
        clear tl tm
        go_wp2_with fail
        refine ⟨⟨s', i + 1, rfl, by go_num, by omega, by have := HX.out; have := HP.out; omega, by have := HP.out; omega, fun hs => absurd hs hsk⟩, by simp [intOf]; omega⟩
      have tk : decide ((k : Int) < (om : Int)) = true := by simp; omega
      have tn : decide ((s' : Int) < 2000000) = true := by simp; omega
      obtain ⟨e1, e2, e3⟩ := HOK.out.2.2
      rcases e3 with e3 | ⟨b2, off2, rfl, hnd2, hbl2, hat2⟩
      · omega
      obtain ⟨g0, g1, g2⟩ := hat2 k (by omega)
      generalize oxs[k]'(by omega) = x at *
      have HP := Lib.hid (And.intro hs1 (And.intro hs2 hs3))
      have hk2 : k < 200000 := by omega
      clear tl tm hat2 hs1 hs2 hs3
      go_wp2_with fail
      exact ⟨⟨s' + (10 + min x.Text.size 2000000), k + 1, by go_num, by go_num, by omega, by have := HP.out; omega, by have := HP.out; omega, by have := HP.out; omega⟩, by simp [intOf]; omega⟩
end Go.Proofs.YtlgklkokadbpeaaDoor
