import Derived.Test.YtnnjbgjhhbmfgaaGreatDoorTyO
namespace Go.Proofs.YtnnjbgjhhbmfgaaGreatDoor
open Go.RowKit
set_option maxRecDepth 100000 in
set_option maxHeartbeats 16000000 in
theorem flat_list (l : List Ty) (hp : ∀ p ∈ l, FlatP p.ps) : FlatP l := by
  intro K w0 w A c v os g h hL hb hg hK hO hbd
  have hll := hL.short
  have HL := Lib.hid hL
  have HP := Lib.hid hp
  have HG := Lib.hid hg
  have HBD := Lib.hid hbd
  have HS0 : Hid (OutT K w0 w v os ∧ KB w g h ∧ Below w0.heap.size w0 w) := Lib.hid ⟨hO, hK, hb⟩
  obtain ⟨i0, hi0, hz0, hz1, hz2⟩ := partsT infoTy
  obtain ⟨vs0, hvs0, -⟩ := hO
  obtain ⟨A0, c0, rfl, -⟩ := sliceT hvs0
  obtain ⟨n0, hn0⟩ : ∃ n0, n0 = os.length := ⟨_, rfl⟩
  rw [← hn0] at HS0 hvs0 ⊢
  have HN0 := Lib.hid hn0
  clear hL hp hg hbd hb hK hvs0 hn0
  go_enter Tryz.func12, Tryz.ntmps12
  go_wp2_with fail
  go_loopw [0, 10] (fun ov v wr => ∃ (i : Nat) (acc : List Ty), i ≤ l.length ∧ v = .int .i64 i ∧ acc = os ++ flatU (l.take i) ∧ OutT K w0 wr ov acc ∧ KB wr g (seeL h (flatU (l.take i))) ∧ Below w0.heap.size w0 wr) (fun _ v _ => l.length - (intOf v).toNat)
  case atStart => exact ⟨0, os, by omega, rfl, by simp [flatU], HS0.out.1, by simpa [flatU, seeL] using HS0.out.2.1, HS0.out.2.2⟩
  case round =>
    obtain ⟨i, acc, hi, rfl, hacc, ho, hk, hb⟩ := hrel
    have HAcc := Lib.hid hacc
    clear hacc
    have HR := Lib.hid (And.intro ho (And.intro hk hb))
    obtain ⟨vs, hvs, hrs⟩ := ho
    obtain ⟨A1, c1, rfl, -⟩ := sliceT hvs
    by_cases hin : i < l.length
    · have t1 : decide ((i : Int) < (l.length : Int)) = true := by simp; omega
      have wr2 : wrap64 ((i : Int) + 1) = ((i + 1 : Nat) : Int) := wrap_one (by omega)
      obtain ⟨b, o, hA, _, hat⟩ := HL.out.at (by omega)
      have hti := hat i hin
      have hpi := HP.out _ (List.getElem_mem hin)
      have htk := flatU_take hin
      have hsp := flatU_split l (i + 1)
      subst hA
      generalize l[i] = t at hti hpi htk
      obtain ⟨k, s, n, ps, fs, ws⟩ := t
      obtain ⟨cs, hcs, hrep⟩ := hti
      obtain ⟨Ap, cp, Af, cf, Av, cv, rfl, -, hLp, -, -⟩ := hrep.inv
      have HREP := Lib.hid hrep
      have x0 : wr.cell? ⟨b, o + i * 6, none⟩ = some (.int .i64 k) := cell_stays hb (hcs 0 _ rfl)
      have x3 := cell_stays hb (hcs 3 _ rfl)
      have HCS := Lib.hid hcs
      have HIn := Lib.hid hin
      have HTk := Lib.hid htk
      have HOw := Lib.hid (And.intro hvs hrs)
      have HLen : Hid (acc.length + (parts1 (.mk k s n ps fs ws)).length ≤ 1099511627776) := Lib.hid (by
        have h1 := HBD.out
        rw [hsp, htk] at h1
        rw [HAcc.out]
        simp only [List.length_append] at h1 ⊢
        omega)
      have hbl : b < w0.heap.size := World.block_lt_of_cell? _ _ (hcs 0 _ rfl)
      have HBl := Lib.hid hbl
      by_cases h15 : k = 15
      · subst h15
        have KF := Lib.hid (hpi K w0 wr Ap cp _ _ g _ hLp hb HG.out hk HR.out.1 (by have := HLen.out; rw [parts1_mk, if_pos rfl] at this; exact this))
        simp only [Ty.ps] at KF
        clear hpi htk hsp hcs hrep hLp hvs hrs hk hb hi hbl
        go_wp2_with fail
        refine KF.out.mono ?_
        rintro e w2 ⟨v2, rfl, ho2, hk2, hb2⟩
        have HR2 := Lib.hid (And.intro ho2 (And.intro hk2 hb2))
        clear ho2 hk2 hb2 KF
        go_wp2_with fail
        refine ⟨⟨i + 1, _, HIn.out, by first | rfl | rw [wr2], ?p1, HR2.out.1, ?p2, HR2.out.2.2⟩, ?p3⟩
        case p1 => rw [HTk.out, HAcc.out, parts1_mk, if_pos rfl, List.append_assoc]
        case p2 => rw [HTk.out, seeL_app, parts1_mk, if_pos rfl]; exact HR2.out.2.1
        case p3 => first | exact measI HIn.out | exact measT HIn.out | (rw [wr2]; exact measI HIn.out)
      · have t15 : (k == 15) = false := by simpa using h15
        have KS := Lib.hid (see_any hk x0)
        clear hpi htk hsp hcs hrep hLp hvs hrs hi hbl hk
        go_wp2_with fail
        refine KS.out.mono ?_
        rintro e w2 ⟨rfl, hk2, hs2⟩
        have hb2 := hs2.below hb HG.out
        have HR2 := Lib.hid (And.intro hk2 hb2)
        have HOw2 : Hid (w2.ownsRow w0.heap.size 26 6 (.slice A1 acc.length c1) acc.length vs) := Lib.hid (by
          have hne := kb_out HR.out.2.1 HR.out.1
          refine ⟨HOw.out.1.1, ?_⟩
          rcases HOw.out.1.2 with h3 | ⟨g1, cap, cur, hv, hg1, hh, r⟩
          · exact .inl h3
          · exact .inr ⟨g1, cap, cur, hv, hg1, by rw [hs2.block (fun e => hne (by rw [hv, ← e]; rfl))]; exact hh, r⟩)
        have y0 : w2.cell? ⟨b, o + i * 6, none⟩ = some (.int .i64 k) := cell_stays hb2 (HCS.out 0 _ rfl)
        have y1 := cell_stays hb2 (HCS.out 1 _ rfl)
        have y2 := cell_stays hb2 (HCS.out 2 _ rfl)
        have y3 := cell_stays hb2 (HCS.out 3 _ rfl)
        have y4 := cell_stays hb2 (HCS.out 4 _ rfl)
        have y5 := cell_stays hb2 (HCS.out 5 _ rfl)
        have HC2 := Lib.hid (cellsT_new w2 [.int .i64 k, .string s, .int .i64 n, .slice Ap ps.length cp, .slice Af fs.length cf, .slice Av ws.length cv] 26)
        have HL1 : Hid (acc.length + 1 ≤ 1099511627776) := Lib.hid (by have := HLen.out; rw [parts1_mk, if_neg h15] at this; simpa using this)
        clear hb hk2 hs2 hb2 KS x0 x3
        go_wp2_with (at_builtin; refine wpList_plain rfl fun K hK => ?_; go_loud (refine wp_append_own_at _ _ 22 rfl w0.heap.size 26 i0 (.agg #[.int .i64 0, .string ⟨#[]⟩, .int .i64 0, .slice none 0 0, .slice none 0 0, .slice none 0 0]) 6 104 Tryz.underlying22 hi0 hz0 hz1 hz2 rfl (by decide) _ _ _ rfl (HOw2.out.alloc _) ⟨w2.heap.size, 0, none⟩ 1 1 [.int .i64 k, .string s, .int .i64 n, .slice Ap ps.length cp, .slice Af fs.length cf, .slice Av ws.length cv] rfl rfl ?a0 ?a1 ?a2 ?a3 ?a4 ?_))
        case a0 => exact HC2.out
        case a1 =>
          intro u hu
          simp only [List.mem_cons, List.not_mem_nil, or_false] at hu
          rcases hu with rfl | rfl | rfl | rfl | rfl | rfl <;> rfl
        case a2 => have := HL1.out; unfold maxLen; omega
        case a3 => have := HL1.out; omega
        case a4 => have := HR2.out.2.size; simp only [World.size_alloc]; omega
        intro v5 w5 hown5 hg5 _ _
        refine hK _ _ ?_
        clear hK K
        have hP5 := out_push HR2.out.1 HR2.out.2 HOw2.out HOw.out.2 HREP.out hown5 hg5
        have HR5 := Lib.hid hP5
        clear hown5 hg5 hP5 y0 y1 y2 y3 y4 y5
        go_wp2_with fail
        refine ⟨⟨i + 1, _, HIn.out, by first | rfl | rw [wr2], ?p1, HR5.out.1, ?p2, HR5.out.2.2⟩, ?p3⟩
        case p1 => rw [HTk.out, HAcc.out, parts1_mk, if_neg h15, List.append_assoc]
        case p2 => rw [HTk.out, seeL_app, parts1_mk, if_neg h15]; exact HR5.out.2.1
        case p3 => first | exact measI HIn.out | exact measT HIn.out | (rw [wr2]; exact measI HIn.out)
    · have t1 : decide ((i : Int) < (l.length : Int)) = false := by simp; omega
      have HE : Hid (l.take i = l) := Lib.hid (List.take_of_length_le (by omega))
      clear hi hvs hrs hk hb
      go_wp2_with fail
      go_ret
      have h1 := HR.out
      have h2 := HAcc.out
      rw [HE.out] at h1 h2
      rw [← h2]
      exact ⟨.slice A1 acc.length c1, rfl, h1.1, h1.2.1, h1.2.2⟩
theorem flat_any (l : List Ty) : FlatP l := flat_list l fun p _ => Ty.ind (C := fun t => FlatP t.ps) (fun _ _ _ ps _ _ hp _ _ => flat_list ps hp) p
end Go.Proofs.YtnnjbgjhhbmfgaaGreatDoor
