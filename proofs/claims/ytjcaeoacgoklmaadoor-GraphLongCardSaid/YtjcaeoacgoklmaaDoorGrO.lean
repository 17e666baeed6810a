import Derived.Test.YtjcaeoacgoklmaaDoorGrN
import Derived.Test.YtjcaeoacgoklmaaDoorSoW
namespace Go.Proofs.YtjcaeoacgoklmaaDoor
open Go.RowKit
theorem good_last {os : List Out} (h : ∀ o ∈ os, o.e = 0) (r : Rule) : nxt itoaG r os = nxtOk itoaG r os := by
  unfold nxt
  split
  · rename_i o ho
    rw [if_neg (by rw [h o (List.mem_of_getLast? ho)]; simp)]
  · rfl
theorem join_ask {r : Rule} (hk : r.kind = 1) {os : List Out} (h : ∀ o ∈ os, o.e = 0) (hl : os.length < r.refs.length) : nxt itoaG r os = .ask os.length := by
  rw [good_last h]; unfold nxtOk; rw [if_pos hk, if_pos hl]
theorem join_done {r : Rule} (hk : r.kind = 1) {os : List Out} (h : ∀ o ∈ os, o.e = 0) (hl : ¬ os.length < r.refs.length) : nxt itoaG r os = .done (if r.text.size + sumL os > 262144 then ⟨noneB, 1⟩ else ⟨⟨(catL os ++ r.text.data.toList).toArray⟩, 0⟩) := by
  rw [good_last h]; unfold nxtOk; rw [if_pos hk, if_neg hl]
theorem come_ask {ak : St → ByteArray → Out × St} {r : Rule} {i f : Nat} {os : List Out} {s : St} {j : Nat} (h : nxt itoaG r os = .ask j) {o : Out} {s1 : St} (hq : ak s (r.refs.getD j noneB) = (o, s1)) :
    comeM itoaG ak r i (f + 1) os s = comeM itoaG ak r i f (os ++ [o]) (s1.put i { s1.nd i with asked := (s1.nd i).asked ++ [(r.refs.getD j noneB, o)] }) := by
  simp only [comeM, h, hq]
theorem come_done {ak : St → ByteArray → Out × St} {r : Rule} {i f : Nat} {os : List Out} {s : St} {o : Out} (h : nxt itoaG r os = .done o) : comeM itoaG ak r i (f + 1) os s = (o, s) := by
  simp only [comeM, h]
theorem sumL_snoc (os : List Out) (o : Out) : sumL (os ++ [o]) = sumL os + o.t.size := by simp [sumL]
theorem sumL_le {os : List Out} (h : ∀ o ∈ os, o.t.size ≤ 262144) : sumL os ≤ os.length * 262144 := by
  induction os with
  | nil => simp [sumL]
  | cons a os ih =>
    have h1 := ih fun o ho => h o (List.mem_cons_of_mem _ ho)
    have h2 := h a (List.mem_cons_self ..)
    unfold sumL at h1 ⊢
    rw [List.map_cons, List.sum_cons, List.length_cons, Nat.succ_mul]
    omega
/-- Behind one that was asked for. -/
theorem Pre.next {L : Lay} {E : Env} {s : St} {av av' : Nat → Value} {B : List Nat} {f : Nat} {W W' : World} (h : Pre L E s av B f W) {i j : Nat} (hi : i < E.rules.length) (hb : (s.nd i).busy = true) {o : Out} {s1 : St} (hq : askM itoaG E f s ((ruleN E i).refs.getD j noneB) = (o, s1)) (hl : (s.nd i).asked.length < 200000)
    (hM : Mem L E (s1.put i { s1.nd i with asked := (s1.nd i).asked ++ [((ruleN E i).refs.getD j noneB, o)] }) av' W') :
    Pre L E (s1.put i { s1.nd i with asked := (s1.nd i).asked ++ [((ruleN E i).refs.getD j noneB, o)] }) av' B f W' ∧ s1.nd i = s.nd i ∧ o.t.size ≤ 262144 := by
  obtain ⟨h1, h2, h3⟩ := pres_ask (itoaB := itoaG) itoaG_size h.ok f s ((ruleN E i).refs.getD j noneB) h.hyg
  rw [hq] at h1 h2 h3
  have hnd := h3.nd i hb
  simp only at h1 h2 h3 hnd
  refine ⟨⟨hM, hyg_put h2 i ⟨(h2 i).came, fun y hy => ?_, fun y hy => ?_, ?_⟩, h.ok, fun k => ?_, h.okk, h.fuel⟩, hnd, h1⟩
  · rcases List.mem_append.1 hy with hy | hy
    · exact (h2 i).out y hy
    · simp only [List.mem_cons, List.not_mem_nil, or_false] at hy; subst hy; exact h1
  · rcases List.mem_append.1 hy with hy | hy
    · exact (h2 i).name y hy
    · simp only [List.mem_cons, List.not_mem_nil, or_false] at hy; subst hy; exact ref_size (ruleN_ok h.ok i hi) j
  · simp only [List.length_append, List.length_cons, List.length_nil]
    rw [hnd]
    omega
  · by_cases e : k = i
    · subst e; rw [St.put_same]; simp only; rw [hnd]; exact h.busy k
    · rw [St.put_other _ _ e, h3.busy k]; exact h.busy k
theorem asked_len (l : List (ByteArray × Out)) : (askedCells l).length = l.length * 3 := by
  induction l with
  | nil => rfl
  | cons a l ih => rw [askedCells, List.flatMap_cons, List.length_append]; unfold askedCells at ih; rw [ih]; simp; omega
theorem asked_at : ∀ (l : List (ByteArray × Out)) (j : Nat) (h : j < l.length), (askedCells l)[j * 3]? = some (.string l[j].1) ∧ (askedCells l)[j * 3 + 1]? = some (.string l[j].2.t) ∧ (askedCells l)[j * 3 + 2]? = some (.int .i64 l[j].2.e)
  | [], j, h => by simp at h
  | a :: l, 0, _ => by simp [askedCells]
  | a :: l, j + 1, h => by
    have e : askedCells (a :: l) = [.string a.1, .string a.2.t, .int .i64 a.2.e] ++ askedCells l := by simp [askedCells]
    obtain ⟨h1, h2, h3⟩ := asked_at l j (by simpa using h)
    rw [e, List.getElem?_append_right (by simp; omega), List.getElem?_append_right (by simp; omega), List.getElem?_append_right (by simp; omega)]
    simp only [List.length_cons, List.length_nil, List.getElem_cons_succ]
    exact ⟨by rw [← h1]; congr 1; omega, by rw [← h2]; congr 1; omega, by rw [← h3]; congr 1; omega⟩
theorem add0 (g k : Nat) : ((⟨g, 0, none⟩ : Addr).add k) = ⟨g, k, none⟩ := by
  unfold Addr.add
  by_cases h : k = 0 <;> simp [h]
/-- A row of what was asked for, cell by cell. -/
theorem row_at {W : World} {v : Value} {l : List (ByteArray × Out)} (h : W.ownsRow 0 74 3 v l.length (askedCells l)) : ∃ A c, v = .slice A l.length c ∧ (0 < l.length → ∃ g, A = some ⟨g, 0, none⟩ ∧ ∀ j (hj : j < l.length), W.cell? ⟨g, j * 3, none⟩ = some (.string l[j].1) ∧ W.cell? ⟨g, j * 3 + 1, none⟩ = some (.string l[j].2.t) ∧ W.cell? ⟨g, j * 3 + 2, none⟩ = some (.int .i64 l[j].2.e)) := by
  rcases h.2 with ⟨hv, hn⟩ | ⟨g, cap, cur, hv, _⟩
  · exact ⟨none, 0, by rw [hv, hn], fun h0 => by omega⟩
  · refine ⟨_, cap, hv, fun _ => ⟨g, rfl, fun j hj => ?_⟩⟩
    subst hv
    have hc := h.cells (g := g) rfl
    obtain ⟨h1, h2, h3⟩ := asked_at l j hj
    exact ⟨add0 g _ ▸ hc _ _ h1, add0 g _ ▸ hc _ _ h2, add0 g _ ▸ hc _ _ h3⟩
theorem catL_take (os : List Out) (j : Nat) (h : j < os.length) : catL (os.take (j + 1)) = catL (os.take j) ++ os[j].t.data.toList := by
  rw [List.take_succ_eq_append_getElem h]
  unfold catL
  rw [List.map_append, List.flatten_append, List.map_cons, List.map_nil, List.flatten_cons, List.flatten_nil, List.append_nil]
set_option maxRecDepth 100000 in
set_option maxHeartbeats 8000000 in
theorem joined_any {f : Nat} (hA : AskC f) {L : Lay} {E : Env} {s : St} {av : Nat → Value} {B : List Nat} {W : World} (h : Pre L E s av B f W) {i : Nat} (hi : i < E.rules.length) (hb : (s.nd i).busy = true) (hk : (ruleN E i).kind = 1) (hl : (s.nd i).asked = [])
    (o : Out) (s1 : St) (hq : comeM itoaG (askM itoaG E f) (ruleN E i) i (steps (ruleN E i)) [] s = (o, s1)) :
    Calls Tryd.prog 28 #[.pointer (some ⟨L.G, 0, none⟩), .pointer (some ⟨L.nb i, 0, none⟩)] W (OutPost L E (fun k => k ∈ B ∧ k ≠ i) av W o s1) := by
  have hro := ruleN_ok h.ok i hi
  have c3 : (W.alloc (.cells #[.string ⟨#[]⟩, .int .i64 0] 53)).cell? ⟨L.nb i, 3, none⟩ = some (.string (ruleN E i).text) := cell_alloc_of _ (h.mem.cell hi 3)
  have c2 : (W.alloc (.cells #[.string ⟨#[]⟩, .int .i64 0] 53)).cell? ⟨L.nb i, 2, none⟩ = some (.slice (L.rA i) (ruleN E i).refs.length (L.rC i)) := cell_alloc_of _ (h.mem.cell hi 2)
  have HP := Lib.hid h
  have HQ := Lib.hid hq
  have HP1 := Lib.hid (h.later ((Below.refl _ _).alloc (Nat.le_refl _) (.cells #[.string ⟨#[]⟩, .int .i64 0] 53)))
  have hrefs := hro.refs
  have htext := hro.text
  have HL := Lib.hid hl
  have HB := Lib.hid hb
  have HK := Lib.hid hk
  clear h hq hl hb hk
  go_enter Tryd.func28, Tryd.ntmps28
  go_wp2_with fail
  clear c2 c3
  generalize hW1 : W.alloc (.cells #[.string ⟨#[]⟩, .int .i64 0] 53) = W1 at HP1 ⊢
  have HW1 := Lib.hid hW1
  clear hW1
  go_loopw [5, 23] (fun lv v wr => ∃ (k : Nat) (os : List Out) (sk : St) (avk : Nat → Value), k ≤ (ruleN E i).refs.length ∧ v = .int .i64 k ∧ lv = .int .i64 (((ruleN E i).text.size : Int) + (sumL os : Int)) ∧ os.length = k ∧ (∀ o ∈ os, o.e = 0 ∧ o.t.size ≤ 262144) ∧ comeM itoaG (askM itoaG E f) (ruleN E i) i (steps (ruleN E i) - k) os sk = (o, s1) ∧ Pre L E sk avk B f wr ∧ FK L E.rules.length av avk W1 wr ∧ (sk.nd i).asked.map (·.2) = os ∧ (sk.nd i).busy = true ∧ ∀ k, k ∈ B ∧ k ≠ i → avk k = av k) (fun _ v _ => (ruleN E i).refs.length - (intOf v).toNat)
  case atStart => exact ⟨0, [], s, av, by omega, rfl, by simp [sumL], rfl, (fun _ h => by cases h), HQ.out, HP1.out, FK.refl _ _ _ _, by rw [HL.out]; rfl, HB.out, fun _ _ => rfl⟩
  case round =>
    obtain ⟨k, os, sk, avk, hkR, rfl, rfl, hlen, hgood, hcm, hpre, hfk, hasked, hbusy, hzk⟩ := hrel
    have HZk := Lib.hid hzk
    clear hzk
    have HPk := Lib.hid hpre
    have HFk := Lib.hid hfk
    have HCm := Lib.hid hcm
    have HG := Lib.hid hgood
    have HAs := Lib.hid hasked
    have HLn := Lib.hid hlen
    have hsum := Nat.le_trans (sumL_le fun o ho => (hgood o ho).2) (Nat.mul_le_mul_right _ (by omega : os.length ≤ 100000))
    have hal : (sk.nd i).asked.length = k := by rw [← hlen, ← hasked, List.length_map]
    clear hpre hfk hcm hgood hasked hlen
    by_cases hlt : k < (ruleN E i).refs.length
    · have tk : decide ((k : Int) < ((ruleN E i).refs.length : Int)) = true := by simp; omega
      obtain ⟨q, hqq⟩ : ∃ q, askM itoaG E f sk ((ruleN E i).refs.getD k noneB) = q := ⟨_, rfl⟩
      obtain ⟨o2, s2⟩ := q
      have KN := Lib.hid (need_any hA HPk.out hi hbusy hlt (by omega) o2 s2 hqq)
      have HQ2 := Lib.hid hqq
      have HLt := Lib.hid hlt
      have HAl := Lib.hid hal
      clear hqq hal hlt
      go_wp2_with fail
      refine KN.out.mono ?_
      rintro e W3 ⟨av3, rfl, hM3, hF3, hz3⟩
      have HZ3 := Lib.hid (fun k hk => (hz3 k hk).trans (HZk.out k hk))
      clear hz3
      have hn := HPk.out.next hi hbusy HQ2.out (by have := HAl.out; omega) hM3
      have HM3 := Lib.hid hM3
      have HF3 := Lib.hid (HFk.out.trans hF3)
      have HN := Lib.hid hn
      clear hM3 hF3 hn
      have HX := Lib.hid (HF3.out.trans (FK.below ((Below.refl W3.heap.size W3).alloc (Nat.le_refl _) (.cells #[.string o2.t, .int .i64 o2.e] 53))))
      have hs1 : steps (ruleN E i) - k = (steps (ruleN E i) - (k + 1)) + 1 := by have := HLt.out; unfold steps; omega
      have hcm := HCm.out
      have hja := join_ask HK.out (fun o ho => (HG.out o ho).1) (by rw [HLn.out]; exact HLt.out : os.length < _)
      rw [HLn.out] at hja
      rw [hs1, come_ask hja HQ2.out] at hcm
      have HCm2 := Lib.hid hcm
      have ho2 := HN.out.2.2
      clear hs1 hcm hja
      by_cases he : o2.e = 0
      · have te : (o2.e != 0) = false := by simp [he]
        have HE := Lib.hid he
        clear he
        go_wp2_with fail
        refine ⟨⟨k + 1, os ++ [o2], _, _, HLt.out, by simp, ?_, by rw [List.length_append, HLn.out]; rfl, fun x hx => ?_, HCm2.out, HN.out.1.later ((Below.refl _ _).alloc (Nat.le_refl _) _), HX.out, ?_, ?_, HZ3.out⟩, by have := HLt.out; simp [intOf]; omega⟩
        · rw [sumL_snoc]; simp only [Value.int.injEq, true_and]; omega
        · rcases List.mem_append.1 hx with hx | hx
          · exact HG.out x hx
          · simp only [List.mem_cons, List.not_mem_nil, or_false] at hx
            rw [hx]
            exact ⟨HE.out, ho2⟩
        · rw [St.put_same]
          simp only [List.map_append, List.map_cons, List.map_nil]
          rw [HN.out.2.1, HAs.out]
        · rw [St.put_same, HN.out.2.1]
          exact hbusy
      · have te : (o2.e != 0) = true := by simpa using he
        have hs2 : steps (ruleN E i) - (k + 1) = (steps (ruleN E i) - (k + 2)) + 1 := by have := HLt.out; unfold steps; omega
        have hcm := HCm2.out
        have hnd : nxt itoaG (ruleN E i) (os ++ [o2]) = .done o2 := by rw [nxt_snoc, if_pos he]
        rw [hs2, come_done hnd] at hcm
        injection hcm with e1 e2
        subst e1
        have HE2 := Lib.hid e2
        clear e2
        obtain ⟨rb, nf, ns⟩ := res_box HP.out.mem (HW1.out ▸ HX.out)
        have q0 := Lib.cell_of_heap rb 0
        have q1 := Lib.cell_of_heap rb 1
        have z0 := Lib.frozen_of_heap rb 0
        have z1 := Lib.frozen_of_heap rb 1
        have HF := Lib.hid ((FK.below (HW1.out ▸ (Below.refl _ _).alloc (Nat.le_refl _) _)).trans HX.out)
        clear rb
        clear he hs2 hnd
        obtain ⟨r0, r1⟩ := two_set (W := W3.alloc (.cells #[.string o2.t, .int .i64 o2.e] 53)) q0 q1 (.string o2.t) (.int .i64 o2.e)
        go_wp2_with fail
        exact bodyPost_ret (v := .agg #[.string o2.t, .int .i64 o2.e]) (by simp [results, Tryd.results28, go_sem, r0, r1]) rfl ⟨_, rfl, by rw [← HE2.out]; exact ((HM3.out.later ((Below.refl _ _).alloc (Nat.le_refl _) _)).box nf ns _).box nf ns _, (HF.out.box (Nat.le_refl _) _).box (Nat.le_refl _) _, HZ3.out⟩
    · obtain rfl : k = (ruleN E i).refs.length := by omega
      have tk : decide ((((ruleN E i).refs.length : Nat) : Int) < (((ruleN E i).refs.length : Nat) : Int)) = false := by simp
      clear hlt
      have hdn := join_done HK.out (fun o ho => (HG.out o ho).1) (by rw [HLn.out]; omega : ¬ os.length < (ruleN E i).refs.length)
      have hs1 : steps (ruleN E i) - (ruleN E i).refs.length = 2 + 1 := by unfold steps; omega
      have hcm := HCm.out
      rw [hs1, come_done hdn] at hcm
      have HCd := Lib.hid hcm
      clear hdn hs1 hcm
      by_cases hbig : 262144 < (ruleN E i).text.size + sumL os
      · have tb : decide ((262144 : Int) < ((ruleN E i).text.size : Int) + (sumL os : Int)) = true := by simp; omega
        have hcd := HCd.out
        rw [if_pos hbig] at hcd
        injection hcd with e1 e2
        subst e1 e2
        have HX := HFk
        obtain ⟨rb, nf, ns⟩ := res_box HP.out.mem (HW1.out ▸ HX.out)
        have q0 := Lib.cell_of_heap rb 0
        have q1 := Lib.cell_of_heap rb 1
        have z0 := Lib.frozen_of_heap rb 0
        have z1 := Lib.frozen_of_heap rb 1
        have HF := Lib.hid ((FK.below (HW1.out ▸ (Below.refl _ _).alloc (Nat.le_refl _) _)).trans HX.out)
        clear rb
        obtain ⟨r0, r1⟩ := two_set (W := wr) q0 q1 (.string ⟨#[]⟩) (.int .i64 1)
        clear hbig
        go_wp2_with fail
        exact bodyPost_ret (v := .agg #[.string ⟨#[]⟩, .int .i64 1]) (by simp [results, Tryd.results28, go_sem, r0, r1]) rfl ⟨_, rfl, (HPk.out.mem.box nf ns _).box nf ns _, (HF.out.box (Nat.le_refl _) _).box (Nat.le_refl _) _, HZk.out⟩
      · have tb : decide ((262144 : Int) < ((ruleN E i).text.size : Int) + (sumL os : Int)) = false := by simp; omega
        have hcd := HCd.out
        rw [if_neg hbig] at hcd
        injection hcd with e1 e2
        subst e1 e2
        obtain ⟨wq, hwq⟩ : ∃ wq, wq = wr := ⟨_, rfl⟩
        subst hwq
        have hlim : (ruleN E i).text.size + sumL os ≤ 262144 := by omega
        obtain ⟨A8, c8, hv8, hrow8⟩ := row_at (HPk.out.mem.row i hi)
        have c8a : (wq.alloc (.cells #[.pointer none, .slice none 0 0] 82)).cell? ⟨L.nb i, 8, none⟩ = some (.slice A8 (sk.nd i).asked.length c8) := by
          rw [← hv8]; exact cell_alloc_of _ (HPk.out.mem.cell hi 8)
        have HRow := Lib.hid hrow8
        have c3a : wq.cell? ⟨L.nb i, 3, none⟩ = some (.string (ruleN E i).text) := HPk.out.mem.cell hi 3
        have HC3 := Lib.hid c3a
        have HBd0 : Hid (Bd (wq.heap.size + 1) wq.heap.size [] (wq.alloc (.cells #[.pointer none, .slice none 0 0] 82))) := Lib.hid (by
          have := Bd.new (w := wq) (Below.refl _ _)
          rwa [World.size_alloc] at this)
        have HcL := Lib.hid (catL_len os)
        clear hbig hv8 hrow8 c3a
        go_wp2_with fail
        clear c8a
        have HAl := Lib.hid hal
        clear hal
        go_loopw [48] (fun v wx => ∃ j : Nat, j ≤ (ruleN E i).refs.length ∧ v = .int .i64 j ∧ Bd (wq.heap.size + 1) wq.heap.size (Lib.byteCells (catL (os.take j))) wx ∧ Kp (fun k => k < wq.heap.size + 1 ∧ k ≠ wq.heap.size) (wq.alloc (.cells #[.pointer none, .slice none 0 0] 82)) wx) (fun v _ => (ruleN E i).refs.length - (intOf v).toNat)
        case atStart => exact ⟨0, by omega, rfl, HBd0.out, Kp.refl _ _⟩
        case round =>
          obtain ⟨j, hjR, rfl, hbd, hkp⟩ := hrel
          have HBd := Lib.hid hbd
          have HKp := Lib.hid hkp
          have keepc : ∀ {p : Addr} {v : Value}, wq.cell? p = some v → wr.cell? p = some v := fun {p v} hp => by
            have hl := World.block_lt_of_cell? _ _ hp
            rw [hkp.cell (p := p) ⟨by omega, by omega⟩ (by simp; omega)]
            exact cell_alloc_of _ hp
          clear hbd hkp
          by_cases hlt2 : j < (ruleN E i).refs.length
          · have tj : decide ((j : Int) < ((ruleN E i).refs.length : Int)) = true := by simp; omega
            have hja : j < (sk.nd i).asked.length := by rw [HAl.out]; exact hlt2
            obtain ⟨g, hg, hrc⟩ := HRow.out (by omega)
            subst hg
            obtain ⟨x0, x1, x2⟩ := hrc j hja
            have hos : (sk.nd i).asked[j].2 = os[j]'(by rw [HLn.out]; exact hlt2) := by
              have e := HAs.out
              subst e
              simp
            have d0 := keepc x0
            have d1 := keepc x1
            have d2 := keepc x2
            clear x0 x1 x2 hrc
            rw [hos] at d1 d2
            generalize (sk.nd i).asked[j].1 = nm at d0
            have hct := catL_take os j (by rw [HLn.out]; exact hlt2)
            have hle := Nat.le_trans (Nat.le_of_eq (catL_len os).symm) (Nat.le_refl _)
            have hsz : (catL (os.take j)).length + (os[j]'(by rw [HLn.out]; exact hlt2)).t.size ≤ 262144 := by
              have h1 : (catL (os.take (j + 1))).length ≤ sumL os := by
                rw [catL_len]
                have e : os = os.take (j + 1) ++ os.drop (j + 1) := (List.take_append_drop _ _).symm
                conv => rhs; rw [e]
                unfold sumL
                rw [List.map_append, List.sum_append]
                omega
              rw [hct, List.length_append] at h1
              have e2 : (os[j]'(by rw [HLn.out]; exact hlt2)).t.data.toList.length = (os[j]'(by rw [HLn.out]; exact hlt2)).t.size := by rw [Array.length_toList]; rfl
              rw [e2] at h1
              omega
            generalize os[j]'(by rw [HLn.out]; exact hlt2) = oj at d1 d2 hct hsz
            have HCt := Lib.hid hct
            have HBx := Lib.hid (Below.refl wr.heap.size wr |>.alloc (Nat.le_refl _) (.cells #[.string nm, .string oj.t, .int .i64 oj.e] 74))
            have KW := Lib.hid (write_any (wq.heap.size + 1) wq.heap.size _ oj.t _ (HBd.out.later HBx.out) (by rw [Lib.byteCells_length]; omega) (by have := HKp.out.size; simp at this ⊢; omega))
            clear hct hos hja hle keepc
            go_wp2_with fail
            refine KW.out.mono ?_
            rintro e w6 ⟨rfl, hbd6, hk6⟩
            have HBd6 := Lib.hid hbd6
            have HK6 := Lib.hid ((HKp.out.trans (kp_of HBx.out)).trans hk6)
            clear hbd6 hk6
            go_wp2_with fail
            refine ⟨⟨j + 1, hlt2, by simp, ?_, HK6.out⟩, by simp [intOf]; omega⟩
            have e9 : Lib.byteCells (catL (os.take (j + 1))) = Lib.byteCells (catL (os.take j)) ++ Lib.strCells oj.t := by
              rw [HCt.out]
              simp [Lib.byteCells, Lib.strCells]
            rw [e9]
            exact HBd6.out
          · obtain rfl : j = (ruleN E i).refs.length := by omega
            have tj : decide ((((ruleN E i).refs.length : Nat) : Int) < (((ruleN E i).refs.length : Nat) : Int)) = false := by simp
            have c3 := keepc HC3.out
            have htk : os.take (ruleN E i).refs.length = os := List.take_of_length_le (by rw [HLn.out]; omega)
            have hbd := HBd.out
            rw [htk] at hbd
            have KW := Lib.hid (write_any (wq.heap.size + 1) wq.heap.size _ (ruleN E i).text _ hbd (by rw [Lib.byteCells_length, catL_len]; omega) (by have := HKp.out.size; simp at this ⊢; omega))
            clear hlt2 htk hbd keepc
            go_wp2_with fail
            refine KW.out.mono ?_
            rintro e w6 ⟨rfl, hbd6, hk6⟩
            have e9 : Lib.byteCells (catL os) ++ Lib.strCells (ruleN E i).text = Lib.byteCells (catL os ++ (ruleN E i).text.data.toList) := by simp [Lib.byteCells, Lib.strCells]
            rw [e9] at hbd6
            have HBd6 := Lib.hid hbd6
            have HK6 := Lib.hid (HKp.out.trans hk6)
            clear hbd6 hk6 e9 c3
            go_wp2_with fail
            refine (string_any _ _ _ _ HBd6.out).mono ?_
            rintro e w7 ⟨rfl, hb7⟩
            have hb67 : Below wq.heap.size wq w7 := by
              have h1 : Below wq.heap.size wq w6 := ⟨HK6.out.os, HK6.out.tape, HK6.out.output, by have := HK6.out.size; simp at this; omega, fun k hk => (HK6.out.block k ⟨by omega, by omega⟩ (by simp; omega)).trans (Below.block ((Below.refl wq.heap.size wq).alloc (Nat.le_refl _) _) k hk)⟩
              exact h1.trans hb7
            have HX := Lib.hid (HFk.out.trans (FK.below hb67))
            have HMz := Lib.hid (HPk.out.mem.later hb67)
            obtain ⟨rb, nf, ns⟩ := res_box HP.out.mem (HW1.out ▸ HX.out)
            have q0 := Lib.cell_of_heap rb 0
            have q1 := Lib.cell_of_heap rb 1
            have z0 := Lib.frozen_of_heap rb 0
            have z1 := Lib.frozen_of_heap rb 1
            have HF := Lib.hid ((FK.below (HW1.out ▸ (Below.refl _ _).alloc (Nat.le_refl _) _)).trans HX.out)
            clear rb hb7 hb67
            generalize hres : ByteArray.mk (catL os ++ (ruleN E i).text.data.toList).toArray = res
            have HRes := Lib.hid hres
            clear hres
            obtain ⟨r0, r1⟩ := two_set (W := w7) q0 q1 (.string res) (.int .i64 0)
            go_wp2_with fail
            exact bodyPost_ret (v := .agg #[.string res, .int .i64 0]) (by simp [results, Tryd.results28, go_sem, r0, r1]) rfl ⟨_, by rw [← HRes.out], (HMz.out.box nf ns _).box nf ns _, (HF.out.box (Nat.le_refl _) _).box (Nat.le_refl _) _, HZk.out⟩
end Go.Proofs.YtjcaeoacgoklmaaDoor
