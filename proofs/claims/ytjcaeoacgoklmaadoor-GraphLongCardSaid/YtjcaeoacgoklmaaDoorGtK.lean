import Derived.Test.YtjcaeoacgoklmaaDoorGtJ
import Derived.Deep.Light
namespace Go.Proofs.YtjcaeoacgoklmaaDoor
open Go.RowKit
theorem meas2 {n : Nat} (h : n < 2) : 2 - (intOf (Value.int .i64 (wrap64 ((n : Int) + 1)))).toNat < 2 - (intOf (Value.int .i64 (n : Int))).toNat := by
  rw [w64_add (by omega) (by omega)]
  simp only [intOf]
  omega
set_option maxRecDepth 100000 in
set_option maxHeartbeats 16000000 in
theorem join_any {i : Nat} (hA : AskR i) {L : RL} {k : Nat} {t : ByteArray} {xs : Nat → RC} {us : List ByteArray} {uv : Value} {W : World} (hk : k ≤ 24) (ht : t.size ≤ 262144) (h : AskPre L k t i xs us uv W) (hi : i < k) (hX : XR L k uv (xs i) 0 0 W) :
    Calls Tryd.prog 23 #[.pointer (some ⟨L.G, 0, none⟩), .int .i64 i] W (JoinP L k t i xs us uv W) := by
  obtain ⟨cb, hc⟩ := h.rg.cA_some (by omega)
  have HC := Lib.hid hc
  have HW1 : Hid (Below W.heap.size W (W.alloc (.cells #[.string ⟨#[]⟩, .int .i64 0] 40))) := Lib.hid ((Below.refl _ _).alloc (Nat.le_refl _) _)
  have HP := Lib.hid h
  have HX := Lib.hid hX
  have HI := Lib.hid hi
  have tk : (i : Int) < (k : Int) := by omega
  have HSz := Lib.hid (valN_size ht i)
  have KO := Lib.hid (fun (xs' : Nat → RC) (uv' : Value) (w : World) (h' : AskPre L k t i xs' us uv' w) (n : Nat) (hn : n < 2) (hx : XR L k uv' (xs' i) n n w) => of_any hA hk ht h' hi hx (by omega) (by omega) hn)
  have HQ0 : Hid ((W.alloc (.cells #[.string ⟨#[]⟩, .int .i64 0] 40)).heap[W.heap.size]? = some (.cells #[.string ⟨#[]⟩, .int .i64 0] 40 (0, 0)) ∧ ¬ RFx L uv (xs i) W.heap.size) := Lib.hid ⟨heap_alloc_new W _, fun e => by
    rcases e with e | e
    · have := h.rg.lt (.inr e); omega
    · have := hX.lt e; omega⟩
  have HSt : Hid (∀ b, Stt L k b → b < (W.alloc (.cells #[.string ⟨#[]⟩, .int .i64 0] 40)).heap.size) := Lib.hid fun b hb => by
    have := h.rg.lt (.inl hb); simp; omega
  obtain ⟨i0, hi0, hz0, hz1, hz2⟩ := parts3 infoByte
  clear h hX hc hi hk ht
  go_enter Tryd.func23, Tryd.ntmps23
  go_wp2_with fail
  generalize hW1 : W.alloc (.cells #[.string ⟨#[]⟩, .int .i64 0] 40) = W1 at HW1 HQ0 HSt ⊢
  clear hW1
  go_loopw [5, 6, 7] (fun bv lg v wr => ∃ (n : Nat) (bs : List UInt8) (xs' : Nat → RC) (uv' : Value), v = .int .i64 n ∧ lg = .bool (decide (262144 < n * (valN t i).t.size)) ∧ JL L k t i xs us uv W1 n bs xs' uv' bv wr) (fun _ _ v _ => 2 - (intOf v).toNat)
  case atStart => exact ⟨0, [], xs, uv, rfl, by simp, ⟨by omega, fun h => absurd h (by omega), World.ownsRow_nil _ _ _ _, fun _ => rfl, by simp, HP.out.later HW1.out, HX.out.later HW1.out, fun h => absurd h (by omega), fun _ _ => rfl, FI.refl _ _⟩⟩
  case round =>
    obtain ⟨n, bs, xs', uv', rfl, rfl, hJ⟩ := hrel
    have HJ := Lib.hid hJ
    have g0 := hJ.pre.rg.cellG 0
    have c2 := hJ.pre.rg.cell HC.out (o := 2) HI.out (by omega)
    rw [HC.out] at g0
    simp only [rcCells, List.getElem?_toArray, List.getElem?_cons_succ, List.getElem?_cons_zero] at g0 c2
    obtain ⟨A1, c1, rfl, _⟩ := own_slice hJ.own
    have HN2 := Lib.hid hJ.n2
    have hbl : (Value.slice A1 bs.length c1) = .slice A1 bs.length c1 := rfl
    by_cases hn : n < 2
    · have tn : decide ((n : Int) < 2) = true := by simp; omega
      have KN := Lib.hid (KO.out xs' uv' wr hJ.pre n hn hJ.xr)
      have HNn := Lib.hid hn
      have hns : ¬ 262144 < n * (valN t i).t.size := by
        have := HSz.out
        have h1 : n * (valN t i).t.size ≤ 1 * (valN t i).t.size := Nat.mul_le_mul_right _ (by omega)
        omega
      have hlg : decide (262144 < n * (valN t i).t.size) = false := by simpa using hns
      have HB := Lib.hid (hJ.cont hns)
      have hln : bs.length = n * (valN t i).t.size := by rw [HB.out, repB_len]
      have HLn := Lib.hid hln
      rw [hlg]
      clear hJ hn hns hlg hln
      go_wp2_with fail
      refine KN.out.mono ?_
      rintro e w2 ⟨xs2, uv2, rfl, hr2, hx2, hd2, hs2, hf2⟩
      have HR2 := Lib.hid hr2
      have HX2 := Lib.hid hx2
      have HD2 := Lib.hid hd2
      have HS2 := Lib.hid (fun a ha => (hs2 a ha).trans (HJ.out.rest a ha))
      have HF2 := Lib.hid (HJ.out.fi.trans hf2)
      have hown2 : w2.ownsRow W1.heap.size 5 1 (.slice A1 bs.length c1) bs.length (Lib.byteCells bs) := own_keepR HJ.out.own fun b hb => (hf2.block b (HJ.out.own.lt b hb).2 (u8_out HJ.out.pre.rg HJ.out.xr HJ.out.own hb)).1
      have HO2 := Lib.hid hown2
      have HPr2 : Hid (AskPre L k t i xs2 us uv2 w2) := Lib.hid ⟨hr2, .inr hd2, HP.out.un, HP.out.ul, HP.out.jk⟩
      clear hr2 hx2 hd2 hs2 hf2 hown2 g0 c2 KN
      generalize hov : valN t i = ov at HLn HB HSz ⊢
      have HOv := Lib.hid hov
      clear hov
      obtain ⟨ot, oe⟩ := ov
      have wr1 : wrap64 ((bs.length : Int) + (ot.size : Int)) = (bs.length : Int) + (ot.size : Int) := by
        have h1 := HJ.out.len
        have h2 : ot.size ≤ 262144 := HSz.out
        rw [← w64_eq]; exact w64_in (by omega) (by omega)
      have wr2 : wrap64 ((n : Int) + 1) = (n : Int) + 1 := w64_add (by omega) (by have := HNn.out; omega)
      by_cases he : oe = 0
      · subst he
        have HE : Hid ((valN t i).e = 0) := Lib.hid (by rw [HOv.out])
        have HBx : Hid (Below w2.heap.size w2 (w2.alloc (.cells #[.string ot, .int .i64 0] 40))) := Lib.hid ((Below.refl _ _).alloc (Nat.le_refl _) _)
        by_cases hbig : 262144 < bs.length + ot.size
        · have tb : decide ((262144 : Int) < (bs.length : Int) + (ot.size : Int)) = true := by simp; omega
          have HBig := Lib.hid hbig
          clear hbig
          go_wp2_with fail
          refine ⟨⟨n + 1, bs, xs2, uv2, by go_num, ?_, ⟨HNn.out, fun _ => HE.out, own_below2 HO2.out HBx.out, fun h => ?_, HJ.out.len, HPr2.out.later HBx.out, HX2.out.later HBx.out, fun _ => HD2.out, HS2.out, HF2.out.trans (FI.below HBx.out)⟩⟩, ?meas⟩
          · have h1 := HBig.out
            have h2 := HLn.out
            rw [HOv.out]
            simp only [Nat.add_mul] at h2 ⊢
            simp
            omega
          · exfalso
            have h1 := HBig.out
            have h2 := HLn.out
            rw [HOv.out] at h
            simp only [Nat.add_mul] at h h2
            omega
          case meas => exact meas2 HNn.out
        · have tb : decide ((262144 : Int) < (bs.length : Int) + (ot.size : Int)) = false := by simp; omega
          have HBig := Lib.hid hbig
          clear hbig
          go_wp2_with (at_builtin; refine Lib.wpList_append_own_string _ rfl _ _ 76 9 rfl W1.heap.size 5 i0 Tryd.underlying76 Tryd.underlying9 hi0 hz0 hz1 hz2 _ _ _ rfl (HO2.out.alloc _) ot rfl ?c3 ?c4 ?c5 ?_)
          case c3 => have := HBig.out; unfold maxLen; omega
          case c4 => have := HBig.out; omega
          case c5 => have := HF2.out.size; simp only [World.size_alloc]; omega
          intro v4 w4 hown4 hg4 _
          have hgk := grow_keep (HR2.out.later HBx.out) (HX2.out.later HBx.out) HSt.out (HO2.out.alloc _) hg4
          have hown5 : w4.ownsRow W1.heap.size 5 1 v4 (bs ++ ot.data.toList).length (Lib.byteCells (bs ++ ot.data.toList)) := by
            have e1 : (bs ++ ot.data.toList).length = bs.length + ot.size := by rw [List.length_append, data_len]
            have e2 : Lib.byteCells (bs ++ ot.data.toList) = Lib.byteCells bs ++ Lib.strCells ot := by simp [Lib.byteCells, Lib.strCells]
            rw [e1, e2]
            exact hown4
          have HG4 := Lib.hid hgk
          have HO4 := Lib.hid hown5
          have HF4 := Lib.hid ((HF2.out.trans (FI.below HBx.out)).grown hg4 (fun b hb => (HO2.out.lt b hb).1))
          clear hown4 hg4 hgk hown5
          go_wp2_with fail
          refine ⟨⟨n + 1, bs ++ ot.data.toList, xs2, uv2, by go_num, ?_, ⟨HNn.out, fun _ => HE.out, HO4.out, fun h => ?_, ?_, ⟨HG4.out.1, HPr2.out.st, HPr2.out.un, HPr2.out.ul, HPr2.out.jk⟩, HG4.out.2, fun _ => HD2.out, HS2.out, HF4.out⟩⟩, ?meas⟩
          · have h1 := HBig.out
            have h2 := HLn.out
            rw [HOv.out]
            simp only [Nat.add_mul] at h2 ⊢
            simp
            omega
          · rw [HB.out, HOv.out]
            rfl
          · have := HBig.out
            rw [List.length_append, data_len]
            omega
          case meas => exact meas2 HNn.out
      · have te : (oe != 0) = true := by simpa using he
        have hv : valN t (i + 1) = ⟨noneB, oe⟩ := by
          rw [valN, HOv.out, if_pos (.inl he)]
          rcases valN_e t i with h1 | h1
          · rw [HOv.out] at h1; exact absurd h1 he
          · rw [HOv.out] at h1; injection h1 with _ h1; rw [h1]
        have HV := Lib.hid hv
        have HBx : Hid (Below w2.heap.size w2 (w2.alloc (.cells #[.string ot, .int .i64 oe] 40))) := Lib.hid ((Below.refl _ _).alloc (Nat.le_refl _) _)
        have hq8 := box_fi (HF2.out.trans (FI.below HBx.out)) HQ0.out.1 HQ0.out.2
        obtain ⟨q0, q1, z0, z1⟩ := two_boxR hq8.1
        have HQn := Lib.hid hq8.2
        clear he hv hq8
        obtain ⟨r0, r1⟩ := two_set q0 q1 (.string ⟨#[]⟩) (.int .i64 oe)
        go_wp2_with fail
        refine bodyPost_ret (v := .agg #[.string ⟨#[]⟩, .int .i64 oe]) (by simp [results, Tryd.results23, go_sem, r0, r1]) rfl ?_
        exact join_end (o := ⟨⟨#[]⟩, oe⟩) HP.out.rg HW1.out (HF2.out.trans (FI.below HBx.out)) (HR2.out.later HBx.out) (HX2.out.later HBx.out) HD2.out HS2.out HQn.out HV.out
    · obtain rfl : n = 2 := by have := HN2.out; omega
      have tn : decide (((2 : Nat) : Int) < 2) = false := by simp
      have hq8 := box_fi hJ.fi HQ0.out.1 HQ0.out.2
      obtain ⟨q0, q1, z0, z1⟩ := two_boxR hq8.1
      have HQn := Lib.hid hq8.2
      have HWl := Lib.hid (blk_lt hq8.1)
      have he := hJ.e0 (by omega)
      have HEv := Lib.hid he
      have c3 := hJ.pre.rg.cell HC.out (o := 3) HI.out (by omega)
      simp only [rcCells, List.getElem?_cons_succ, List.getElem?_cons_zero] at c3
      by_cases hbig : 262144 < 2 * (valN t i).t.size
      · have hlg : decide (262144 < 2 * (valN t i).t.size) = true := by simpa using hbig
        have hv : valN t (i + 1) = ⟨noneB, 1⟩ := by rw [valN, if_pos (.inr (by omega))]
        have HV := Lib.hid hv
        rw [hlg]
        obtain ⟨r0, r1⟩ := two_set q0 q1 (.string ⟨#[]⟩) (.int .i64 1)
        clear hJ hn hlg hv hq8 he hbig
        go_wp2_with fail
        refine bodyPost_ret (v := .agg #[.string ⟨#[]⟩, .int .i64 1]) (by simp [results, Tryd.results23, go_sem, r0, r1]) rfl ?_
        exact join_end (o := ⟨⟨#[]⟩, 1⟩) HP.out.rg HW1.out HJ.out.fi HJ.out.pre.rg HJ.out.xr (HJ.out.done (by omega)) HJ.out.rest HQn.out HV.out
      · have hlg : decide (262144 < 2 * (valN t i).t.size) = false := by simpa using hbig
        have HB := Lib.hid (hJ.cont hbig)
        have hln : bs.length = 2 * (valN t i).t.size := by rw [HB.out, repB_len]
        have HLn := Lib.hid hln
        have wr1 : wrap64 ((bs.length : Int) + 1) = (bs.length : Int) + 1 := w64_add (by omega) (by omega)
        rw [hlg]
        by_cases hb2 : 262144 < bs.length + 1
        · have tb : decide ((262144 : Int) < (bs.length : Int) + 1) = true := by simp; omega
          have hv : valN t (i + 1) = ⟨noneB, 1⟩ := by rw [valN, if_pos (.inr (by omega))]
          have HV := Lib.hid hv
          obtain ⟨r0, r1⟩ := two_set q0 q1 (.string ⟨#[]⟩) (.int .i64 1)
          clear hJ hn hlg hv hq8 he hbig hln hb2
          go_wp2_with fail
          refine bodyPost_ret (v := .agg #[.string ⟨#[]⟩, .int .i64 1]) (by simp [results, Tryd.results23, go_sem, r0, r1]) rfl ?_
          exact join_end (o := ⟨⟨#[]⟩, 1⟩) HP.out.rg HW1.out HJ.out.fi HJ.out.pre.rg HJ.out.xr (HJ.out.done (by omega)) HJ.out.rest HQn.out HV.out
        · have tb : decide ((262144 : Int) < (bs.length : Int) + 1) = false := by simp; omega
          have hv : valN t (i + 1) = ⟨⟨(bs ++ plusB.data.toList).toArray⟩, 0⟩ := by
            rw [valN, if_neg (by
              simp only [not_or]
              exact ⟨fun h => h he, by omega⟩), HB.out]
            simp [repB]
          have HV := Lib.hid hv
          have HB2 := Lib.hid hb2
          clear hJ hn hlg hv hq8 he hbig hln hb2 q0 q1 z0 z1
          go_wp2_with (at_builtin; refine Lib.wpList_append_own_string _ rfl _ _ 76 9 rfl W1.heap.size 5 i0 Tryd.underlying76 Tryd.underlying9 hi0 hz0 hz1 hz2 _ _ _ rfl HJ.out.own ⟨#[43]⟩ rfl ?c3 ?c4 ?c5 ?_)
          case c3 => have := HB2.out; show bs.length + 1 ≤ _; unfold maxLen; omega
          case c4 => have := HB2.out; show bs.length + 1 ≤ _; omega
          case c5 => exact HJ.out.fi.size
          intro v4 w4 hown4 hg4 _
          have hgk := grow_keep HJ.out.pre.rg HJ.out.xr HSt.out HJ.out.own hg4
          have hown5 : w4.ownsRow W1.heap.size 5 1 v4 (bs.length + 1) (Lib.byteCells (bs ++ plusB.data.toList)) := by
            have e2 : Lib.byteCells (bs ++ plusB.data.toList) = Lib.byteCells bs ++ Lib.strCells plusB := by simp [Lib.byteCells, Lib.strCells]
            rw [e2]
            exact hown4
          have hrun := row_bytes hown5
          have HG4 := Lib.hid hgk
          have hf4 := HJ.out.fi.grown hg4 (fun b hb => (HJ.out.own.lt b hb).1)
          have HF4 := Lib.hid hf4
          have hq8 := box_fi hf4 HQ0.out.1 HQ0.out.2
          obtain ⟨q0, q1, z0, z1⟩ := two_boxR hq8.1
          have HQm := Lib.hid hq8.2
          generalize hres : ByteArray.mk (bs ++ plusB.data.toList).toArray = res at hrun HV
          obtain ⟨r0, r1⟩ := two_set q0 q1 (.string res) (.int .i64 0)
          clear hown4 hg4 hgk hown5 hf4 hq8 hres
          go_wp2_with fail
          refine bodyPost_ret (v := .agg #[.string res, .int .i64 0]) (by simp [results, Tryd.results23, go_sem, r0, r1]) rfl ?_
          exact join_end (o := ⟨res, 0⟩) HP.out.rg HW1.out HF4.out HG4.out.1 HG4.out.2 (HJ.out.done (by omega)) HJ.out.rest HQm.out HV.out
end Go.Proofs.YtjcaeoacgoklmaaDoor
