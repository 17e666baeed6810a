import Derived.Test.YtgjblmlibhppiaaGreatDoorMy15
namespace Go.Proofs.YtgjblmlibhppiaaGreatDoor
set_option maxRecDepth 100000
set_option maxHeartbeats 64000000
open Go.RowKit
theorem cntV_mem : ∀ {l : VsT} {v : ByteArray × List Ty}, v ∈ l → cntL v.2 ≤ cntV l
 | a :: l, v, h => by
  have e : cntV (a :: l) = cntL a.2 + cntV l := by simp [cntV]
  rw [e]
  rcases List.mem_cons.1 h with rfl | h
  ·omega
  ·have := cntV_mem h; omega
theorem any_none {l : VsT} {i : Nat} {nm : ByteArray} (h : ∀ j (hj : j < l.length), j < i → l[j].1 ≠ nm) : ((l.take i).any fun x => decide (x.1 = nm)) = false := by
 rw [List.any_eq_false]
 intro x hx
 obtain ⟨j, hj, rfl⟩ := List.getElem_of_mem hx
 simp only [List.length_take] at hj
 rw [List.getElem_take]
 simpa using h j (by omega) (by omega)
theorem any_some {l : VsT} {i j : Nat} {nm : ByteArray} (hj : j < l.length) (hji : j < i) (h : l[j].1 = nm) : ((l.take i).any fun x => decide (x.1 = nm)) = true := by
 rw [List.any_eq_true]
 refine ⟨l[j], ?_, by simpa using h⟩
 have : (l.take i)[j]'(by simp; omega) = l[j] := List.getElem_take
 rw [← this]
 exact List.getElem_mem _
theorem binds_ref (l : VsT) (h : ∀ v ∈ l, ∀ b ∈ v.2, FormR b) {K : Nat → Prop} {w : World} {A : Option Addr} {c : Nat} (hL : ListV K w l A c) (hll : l.length ≤ 1000000000000000) (hc : cntV l ≤ 1000000) :
  Calls Tryz.prog 47 #[.slice A l.length c] w fun e w' => e = .returned (.bool (varsB (varsT l formT))) ∧ Below w.heap.size w w' := by
 have HL := Hd hL
 have HH := Hd h
 have HC := Hd hc
 clear hL h hc
 go_enter Tryz.func47, Tryz.ntmps47
 go_wp2_with fail
 go_loopw [3] (fun v wr => ∃ (i : Nat), i ≤ l.length ∧ v = .int .i64 i ∧ (∀ j, j < i → okV (varsT l formT) j = true) ∧ Below w.heap.size w wr) (fun v _ => l.length - (intOf v).toNat)
 case atStart => exact ⟨0, by omega, rfl, fun j hj => absurd hj (by omega), Below.refl _ _⟩
 case round =>
  obtain ⟨i, hi, rfl, he, hb⟩ := hrel
  have HE := Hd he
  have HB := Hd hb
  clear he hb
  by_cases hin : i < l.length
  ·have t1 : decide ((i : Int) < (l.length : Int)) = true := by simp; omega
   have wr2 : wrap64 ((i : Int) + 1) = ((i + 1 : Nat) : Int) := wrap_one (by omega)
   have HM := Hd (measI hin)
   obtain ⟨b, o, hA, hat⟩ : ∃ b o, A = some ⟨b, o, none⟩ ∧ ∀ i (h : i < l.length), ∃ B d, w.cell? ⟨b, o + i * 2, none⟩ = some (.string l[i].1) ∧ w.cell? ⟨b, o + i * 2 + 1, none⟩ = some (.slice B l[i].2.length d) ∧ l[i].1.size ≤ 1000000000000000 ∧ ListT K w l[i].2 B d := by
    obtain ⟨b, o, h1, h2⟩ := HL.out
    exact ⟨b, o, (h1.some (by omega)).1, h2⟩
   obtain ⟨B, d, hc0, hc1, hsz, hT⟩ := hat i hin
   have HOK := Hd (okV_at (fv := formT) hin)
   subst hA
   have HNO : Hid (okV (varsT l formT) i = false → varsB (varsT l formT) = false) := Hd fun e => by unfold varsB; exact allB_no (by rw [varsT_len]; exact hin) e
   have HCell : Hid (∀ k (h : k < l.length), ∃ q, q = l[k].1 ∧ w.cell? ⟨b, o + k * 2, none⟩ = some (.string q)) := Hd fun k h => ⟨_, rfl, (by obtain ⟨B, d, h1, -⟩ := hat k h; exact h1)⟩
   have KAll := Hd fun wx (hx : Below w.heap.size w wx) => all_ref l[i].2 (HH.out _ (List.getElem_mem hin)) (hT.later hx) (Nat.le_trans (cntV_mem (List.getElem_mem hin)) HC.out)
   generalize l[i].1 = nm at hc0 hsz HOK
   generalize l[i].2 = bs at hc1 hT HOK KAll
   have x0 := cell_stays HB.out hc0
   have x1 := cell_stays HB.out hc1
   have KN := Hd (name_ref nm wr hsz)
   have hbl := hT.short
   have HX : Hid (∀ wx, Below w.heap.size w wx → wx.cell? ⟨b, o + i * 2, none⟩ = some (.string nm) ∧ wx.cell? ⟨b, o + i * 2 + 1, none⟩ = some (.slice B bs.length d)) := Hd fun wx hx => ⟨cell_stays hx hc0, cell_stays hx hc1⟩
   have HIn : Hid (i + 1 ≤ l.length) := Hd hin
   clear hi hT hc0 hc1 hat
   go_wp2_with fail
   refine KN.out.mono ?_
   rintro e w2 ⟨rfl, hb2⟩
   have HB2 := Hd (below_then HB.out hb2)
   obtain ⟨y0, y1⟩ := HX.out _ HB2.out
   clear x0 x1 hb2 KN
   cases hn : nameT nm with
   | false =>
    have HF := Hd (HNO.out (by rw [HOK.out, hn]; rfl))
    clear hn
    go_wp2_with fail
    go_ret
    exact ⟨by rw [HF.out]; rfl, HB2.out⟩
   | true =>
    have HN := Hd hn
    clear hn
    by_cases hlen : 1 < bs.length
    ·have t2 : decide (1 < bs.length) = true := decide_eq_true hlen
     have HF := Hd (HNO.out (by rw [HOK.out, HN.out, decide_eq_false (by omega)]; rfl))
     go_wp2_with fail
     go_ret
     exact ⟨by rw [HF.out]; rfl, HB2.out⟩
    ·have t2 : decide (1 < bs.length) = false := decide_eq_false hlen
     have HLe : Hid (decide (bs.length ≤ 1) = true) := Hd (decide_eq_true (by omega))
     go_wp2_with fail
     refine (KAll.out _ HB2.out).mono ?_
     rintro e w3 ⟨rfl, hb3⟩
     have HB3 := Hd (below_then HB2.out hb3)
     obtain ⟨z0, z1⟩ := HX.out _ HB3.out
     clear y0 y1 hb3 KAll
     cases hal : bs.all formT with
     | false =>
      have HF := Hd (HNO.out (by rw [HOK.out, HN.out, HLe.out, hal]; rfl))
      clear hal
      go_wp2_with fail
      go_ret
      exact ⟨by rw [HF.out]; rfl, HB3.out⟩
     | true =>
      have HAL := Hd hal
      clear hal
      go_wp2_with fail
      go_loopw [4] (fun v wx => ∃ (k : Nat), k ≤ i ∧ v = .int .i64 k ∧ (∀ j (hj : j < l.length), j < k → l[j].1 ≠ nm) ∧ Below w3.heap.size w3 wx) (fun v _ => i - (intOf v).toNat)
      case atStart => exact ⟨0, by omega, rfl, fun j _ hj => absurd hj (by omega), Below.refl _ _⟩
      case round =>
       obtain ⟨k, hk, rfl, hne, hbx⟩ := hrel
       have HBX := Hd hbx
       have HB4 := Hd (below_then HB3.out hbx)
       replace z0 := cell_stays hbx z0
       replace z1 := cell_stays hbx z1
       clear hbx
       have HNE := Hd hne
       clear hne
       by_cases hki : k < i
       ·have t3 : decide ((k : Int) < (i : Int)) = true := by simp; omega
        have t4 : decide (k < i) = true := decide_eq_true hki
        have wr3 : wrap64 ((k : Int) + 1) = ((k + 1 : Nat) : Int) := wrap_one (by omega)
        have HM3 := Hd (measI hki)
        obtain ⟨q, hq, hcq0⟩ := HCell.out k (by omega)
        have hcq := cell_stays HB4.out hcq0
        have hkl : k < l.length := by omega
        have i1 : (k : Int) < (l.length : Int) := by omega
        have i2 : (0 : Int) ≤ (k : Int) := by omega
        have i3 : (i : Int) < (l.length : Int) := by omega
        have i4 : (0 : Int) ≤ (i : Int) := by omega
        have i5 : i < l.length := hin
        have HQ : Hid (∀ hkl : k < l.length, q = l[k].1) := Hd fun _ => hq
        have HKI : Hid (k + 1 ≤ i) := Hd hki
        have HCQ : Hid (∀ wx, Below wr.heap.size wr wx → wx.cell? ⟨b, o + k * 2, none⟩ = some (.string q)) := Hd fun wx hx => cell_stays hx hcq
        have HCN : Hid (∀ wx, Below wr.heap.size wr wx → wx.cell? ⟨b, o + i * 2, none⟩ = some (.string nm)) := Hd fun wx hx => cell_stays hx z0
        clear hq hcq0
        by_cases hqn : q = nm
        ·have e13 : (q.toList == nm.toList) = true := by rw [eqT]; exact decide_eq_true hqn
         have HF := Hd (HNO.out (by rw [HOK.out, any_some hkl hki ((HQ.out hkl).symm.trans hqn), Bool.not_true, Bool.and_false]))
         clear hqn hk
         go_wp2_with fail
         refine wp_region_held_drew (S := (fun w' => w'.cell? ⟨b, o + k * 2, none⟩ = some (.string q) ∧ w'.cell? ⟨b, o + i * 2, none⟩ = some (.string nm))) (by kernel_rfl) ⟨HCQ.out _ (Below.refl _ _).drew, HCN.out _ (Below.refl _ _).drew⟩ (fun hHeld => ?_)
         refine Plan.start [0, 1, 2, 3, 4, 5, 6, 7, 8, 9, 10] ?_
         iterate 11 ((refine Plan.take (v := ?_) (so rfl) (by kernel_rfl) (by kernel_rfl) (by kernel_rfl) (fun _ _ _ h => h) (Or.inl ⟨by rfl, ?_⟩) hHeld ?_; rotate_left; focus (intro w' hSw; (try dsimp only at hSw); obtain ⟨hS1, hS2⟩ := hSw; go_simp; try with_reducible rfl)); try simp only [Act.put, pz1, pz2, pz3])
         refine Plan.done ?_
         refine wpAnyH_done (by kernel_rfl) ?_ _
         clear hHeld
         go_wp2_with fail
         go_ret
         exact ⟨by rw [HF.out]; rfl, HB4.out.drew⟩
        ·have e13 : (q.toList == nm.toList) = false := by rw [eqT]; exact decide_eq_false hqn
         have HNE2 : Hid (∀ j (hj : j < l.length), j < k + 1 → l[j].1 ≠ nm) := Hd fun j hj hjk => by
          rcases Nat.lt_or_ge j k with h1 | h1
          ·exact HNE.out j hj h1
          ·have : j = k := by omega
           subst this
           rw [← HQ.out hj]; exact hqn
         clear hqn hk
         go_wp2_with fail
         refine wp_region_held_drew (S := (fun w' => w'.cell? ⟨b, o + k * 2, none⟩ = some (.string q) ∧ w'.cell? ⟨b, o + i * 2, none⟩ = some (.string nm))) (by kernel_rfl) ⟨HCQ.out _ (Below.refl _ _).drew, HCN.out _ (Below.refl _ _).drew⟩ (fun hHeld => ?_)
         refine Plan.start [0, 1, 2, 3, 4, 5, 6, 7, 8, 9, 10] ?_
         iterate 11 ((refine Plan.take (v := ?_) (so rfl) (by kernel_rfl) (by kernel_rfl) (by kernel_rfl) (fun _ _ _ h => h) (Or.inl ⟨by rfl, ?_⟩) hHeld ?_; rotate_left; focus (intro w' hSw; (try dsimp only at hSw); obtain ⟨hS1, hS2⟩ := hSw; go_simp; try with_reducible rfl)); try simp only [Act.put, pz1, pz2, pz3])
         refine Plan.done ?_
         refine wpAnyH_done (by kernel_rfl) ?_ _
         clear hHeld
         go_wp2_with fail
         refine ⟨⟨k + 1, HKI.out, by first | rfl | rw [wr3], HNE2.out, HBX.out.drew⟩, ?_⟩
         first | exact HM3.out | (rw [wr3]; exact HM3.out)
       ·have t3 : decide ((k : Int) < (i : Int)) = false := by simp; omega
        have t4 : decide (k < i) = false := decide_eq_false hki
        have HOK2 : Hid (∀ j, j < i + 1 → okV (varsT l formT) j = true) := Hd fun j hj => by
         rcases Nat.lt_or_ge j i with h1 | h1
         ·exact HE.out j h1
         ·have : j = i := by omega
          subst this
          rw [HOK.out, HN.out, HLe.out, HAL.out, any_none fun a ha hai => HNE.out a ha (by omega)]
          rfl
        clear hk
        go_wp2_with fail
        refine ⟨⟨i + 1, HIn.out, by first | rfl | rw [wr2], HOK2.out, HB4.out⟩, ?_⟩
        first | exact HM.out | (rw [wr2]; exact HM.out)
  ·have t1 : decide ((i : Int) < (l.length : Int)) = false := by simp; omega
   have HT1 : Hid (varsB (varsT l formT) = true) := Hd (by unfold varsB; rw [range_all]; exact fun j hj => HE.out j (by rw [varsT_len] at hj; omega))
   clear hi
   go_wp2_with fail
   go_ret
   exact ⟨by rw [HT1.out]; rfl, HB.out⟩
end Go.Proofs.YtgjblmlibhppiaaGreatDoor
