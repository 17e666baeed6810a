import Derived.Test.YteghbblbkljdhaaDoorGrY
import Derived.LoopTactic
import Derived.BigQuiet
namespace Go.Proofs.YteghbblbkljdhaaDoor
open Go.RowKit
set_option maxRecDepth 100000 in
set_option maxHeartbeats 8000000 in
theorem few_any {W : World} {a0 a1 : Option Addr} {n m c0 c1 : Nat} {l : List Rule} {os : List OpD} (hR : RA W a0 n l) (hO : OA W a1 m os) :
    Calls Tryd.prog 13 #[.slice a0 n c0, .slice a1 m c1] W fun e W' => (∃ q : Bool, e = .returned (.bool q) ∧ (q = true → RSize l ∧ os.length ≤ 500)) ∧ Below W.heap.size W W' := by
  have HR := Lib.hid (fun wx (hb : Below W.heap.size W wx) => hR.later hb)
  have HO := Lib.hid (fun wx (hb : Below W.heap.size W wx) => hO.later hb)
  have B0 := Lib.hid (Below.refl W.heap.size W)
  have HRs := Lib.hid hR
  have HOs := Lib.hid hO
  clear hR hO
  go_enter Tryd.func13, Tryd.ntmps13
  go_wp2_with fail
  go_loopw [5, 6] (fun s v wr => ∃ j x : Nat, v = .int .i64 j ∧ s = .int .i64 x ∧ j ≤ n ∧ x ≤ 400000 ∧ 20 * j ≤ x ∧ Below W.heap.size W wr ∧ (x < 100000 → ∀ i r, i < j → l[i]? = some r → r.refs.length ≤ 100000 ∧ r.text.size ≤ 100000)) (fun _ v _ => n - (intOf v).toNat)
  case atStart => exact ⟨0, 0, rfl, rfl, by omega, by omega, by omega, B0.out, fun _ i r hi => absurd hi (by omega)⟩
  case round =>
    obtain ⟨j, x, rfl, rfl, hj, hx, hjx, hb, hP⟩ := hrel
    have HB := Lib.hid hb
    have HP := Lib.hid hP
    clear hb hP
    by_cases hlt : j < n
    · by_cases hx1 : x < 100000
      · have tj : decide ((j : Int) < (n : Int)) = true := by simp; omega
        have tx : decide ((x : Int) < (100000 : Int)) = true := by simp; omega
        obtain ⟨h1, h2, b, o, A, c, h3, h4⟩ := HR.out wr HB.out
        have hjl : j < l.length := by omega
        obtain rfl := h3 (fun e => by rw [e] at hjl; simp at hjl)
        obtain ⟨r, hrr⟩ : ∃ r, l[j]? = some r := ⟨_, List.getElem?_eq_getElem hjl⟩
        have hr := h4 j _ hrr
        have HRr := Lib.hid hrr
        have x2 := hr.refs
        have x3 := hr.text
        have ij : (0 : Int) ≤ (j : Int) := by omega
        clear hr hjl hrr h1 h2 h3 h4
        go_wp2_with fail
        go_quiet (fail)
        go_wp2_with fail
        refine ⟨⟨j + 1, x + (20 + min r.refs.length 100000 + min r.text.size 100000), ?_, ?_, by omega, by omega, by omega, below_drewN HB.out nq, fun hs i r' hi hr' => ?_⟩, ?_⟩
        · rfl
        · exact congrArg (Value.int .i64) (by push_cast; omega)
        · by_cases e : i = j
          · subst e
            rw [HRr.out] at hr'
            injection hr' with hr'
            subst hr'
            omega
          · exact HP.out hx1 i r' (by omega) hr'
        · simp [intOf]; omega
      · have tj : decide ((j : Int) < (n : Int)) = true := by simp; omega
        have tx : decide ((x : Int) < (100000 : Int)) = false := by simp; omega
        go_wp2_with fail
        obtain ⟨wq, hwq⟩ : ∃ wq, wq = wr := ⟨_, rfl⟩
        subst hwq
        go_loopw [5, 7] (fun s v wr => ∃ k y : Nat, v = .int .i64 k ∧ s = .int .i64 y ∧ k ≤ m ∧ y ≤ 800000 ∧ x ≤ y ∧ 20 * k ≤ y ∧ Below W.heap.size W wr) (fun _ v _ => m - (intOf v).toNat)
        case atStart => exact ⟨0, x, rfl, rfl, by omega, by omega, by omega, by omega, HB.out⟩
        case round =>
          obtain ⟨k, y, rfl, rfl, hk, hy, hxy, hky, hb⟩ := hrel
          have HBy := Lib.hid hb
          clear hb
          by_cases hlt2 : k < m
          · by_cases hy1 : y < 100000
            · exact absurd hx1 (by omega)
            · have tk : decide ((k : Int) < (m : Int)) = true := by simp; omega
              have ty : decide ((y : Int) < (100000 : Int)) = false := by simp; omega
              go_wp2_with fail
              go_ret
              exact ⟨⟨_, rfl, fun hq => (by cases hq)⟩, HBy.out⟩
          · obtain rfl : k = m := by omega
            have tk : decide ((k : Int) < (k : Int)) = false := by simp
            by_cases hy1 : y < 100000
            · exact absurd hx1 (by omega)
            · have ty : decide ((y : Int) < (100000 : Int)) = false := by simp; omega
              go_wp2_with fail
              go_ret
              exact ⟨⟨_, rfl, fun hq => (by cases hq)⟩, HBy.out⟩
    · obtain rfl : j = n := by omega
      have tj : decide ((j : Int) < (j : Int)) = false := by simp
      go_wp2_with fail
      obtain ⟨wq, hwq⟩ : ∃ wq, wq = wr := ⟨_, rfl⟩
      subst hwq
      go_loopw [5, 7] (fun s v wr => ∃ k y : Nat, v = .int .i64 k ∧ s = .int .i64 y ∧ k ≤ m ∧ y ≤ 800000 ∧ x ≤ y ∧ 20 * k ≤ y ∧ Below W.heap.size W wr) (fun _ v _ => m - (intOf v).toNat)
      case atStart => exact ⟨0, x, rfl, rfl, by omega, by omega, by omega, by omega, HB.out⟩
      case round =>
        obtain ⟨k, y, rfl, rfl, hk, hy, hxy, hky, hb⟩ := hrel
        have HBy := Lib.hid hb
        clear hb
        by_cases hlt2 : k < m
        · by_cases hy1 : y < 100000
          · have tk : decide ((k : Int) < (m : Int)) = true := by simp; omega
            have ty : decide ((y : Int) < (100000 : Int)) = true := by simp; omega
            obtain ⟨h1, h2, b2, o2, h3, h4⟩ := HO.out wr HBy.out
            have hkl : k < os.length := by omega
            obtain rfl := h3 (fun e => by rw [e] at hkl; simp at hkl)
            obtain ⟨z, hz⟩ : ∃ z, os[k]? = some z := ⟨_, List.getElem?_eq_getElem hkl⟩
            obtain ⟨z0, z1, z2⟩ := h4 k _ hz
            have ik : (0 : Int) ≤ (k : Int) := by omega
            clear hkl hz h1 h2 h3 h4
            go_wp2_with fail
            refine ⟨⟨k + 1, y + (20 + min z.t.size 100000), ?_, ?_, by omega, by omega, by omega, by omega, HBy.out⟩, ?_⟩
            · rfl
            · exact congrArg (Value.int .i64) (by push_cast; omega)
            · simp [intOf]; omega
          · have tk : decide ((k : Int) < (m : Int)) = true := by simp; omega
            have ty : decide ((y : Int) < (100000 : Int)) = false := by simp; omega
            go_wp2_with fail
            go_ret
            exact ⟨⟨_, rfl, fun hq => (by cases hq)⟩, HBy.out⟩
        · obtain rfl : k = m := by omega
          have tk : decide ((k : Int) < (k : Int)) = false := by simp
          by_cases hy1 : y < 100000
          · have ty : decide ((y : Int) < (100000 : Int)) = true := by simp; omega
            by_cases hn2 : j ≤ 200
            · have tn : decide ((j : Int) ≤ (200 : Int)) = true := by simp; omega
              by_cases hk5 : k ≤ 500
              · have t5 : decide ((k : Int) ≤ (500 : Int)) = true := by simp; omega
                go_wp2_with fail
                go_ret
                refine ⟨⟨_, rfl, fun _ => ?_⟩, HBy.out⟩
                have hP := HP.out (by omega)
                have hl := HRs.out.1
                refine ⟨⟨by omega, fun r hr => ?_⟩, by have := HOs.out.1; omega⟩
                obtain ⟨i, hi, rfl⟩ := List.getElem_of_mem hr
                obtain ⟨p1, p2⟩ := hP i _ (by omega) (List.getElem?_eq_getElem hi)
                obtain ⟨_, p4, p5⟩ := HRs.out.2.1 _ hr
                exact ⟨p1, by omega, p4, p5⟩
              · have t5 : decide ((k : Int) ≤ (500 : Int)) = false := by simp; omega
                go_wp2_with fail
                go_ret
                exact ⟨⟨_, rfl, fun hq => (by cases hq)⟩, HBy.out⟩
            · have tn : decide ((j : Int) ≤ (200 : Int)) = false := by simp; omega
              go_wp2_with fail
              go_ret
              exact ⟨⟨_, rfl, fun hq => (by cases hq)⟩, HBy.out⟩
          · have ty : decide ((y : Int) < (100000 : Int)) = false := by simp; omega
            go_wp2_with fail
            go_ret
            exact ⟨⟨_, rfl, fun hq => (by cases hq)⟩, HBy.out⟩
end Go.Proofs.YteghbblbkljdhaaDoor
