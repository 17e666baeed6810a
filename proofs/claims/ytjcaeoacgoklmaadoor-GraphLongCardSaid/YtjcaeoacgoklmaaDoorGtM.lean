import Derived.Test.YtjcaeoacgoklmaaDoorGtL
namespace Go.Proofs.YtjcaeoacgoklmaaDoor
open Go.RowKit
theorem setG {L : RL} {k : Nat} {t : ByteArray} {xs : Nat → RC} {us us' : List ByteArray} {uv v : Value} {W2 W5 : World} (h : RG L k t xs us uv W2) (hk : ∀ b, b < W2.heap.size → uv.ownBlock ≠ some b → W5.heap[b]? = W2.heap[b]?) (hown : W5.ownsRow 0 9 1 v us'.length (us'.map .string))
    (ho : ∀ b, v.ownBlock = some b → uv.ownBlock = some b ∨ W2.heap.size ≤ b) : RG L k t xs us' v (W5.setCell ⟨L.G, 3, none⟩ v) := by
  have hG : L.G < W2.heap.size := h.lt (.inr (.inl rfl))
  have hne : ∀ b, b ≠ L.G → (W5.setCell ⟨L.G, 3, none⟩ v).heap[b]? = W5.heap[b]? := fun b hb => set_elseR W5 v hb
  have hg5 : W5.heap[L.G]? = some (.cells #[.slice L.cA k L.cc, .slice (some ⟨L.nb, 0, none⟩) 1 L.nc, .slice (some ⟨L.tb, 0, none⟩) 1 L.tc, uv, .int .i64 1] 58 (0, 0)) := (hk _ hG h.ugne).trans h.g
  have hvG : v.ownBlock ≠ some L.G := fun e => (ho _ e).elim h.ugne (fun e => by omega)
  have hst : ∀ b, Stt L k b → (W5.setCell ⟨L.G, 3, none⟩ v).heap[b]? = W2.heap[b]? := fun b hb => by
    have hr := h.ne b hb
    rw [hne b (fun e => hr (.inl e)), hk b (h.lt (.inl hb)) (fun e => hr (.inr (.inr e)))]
  have hv : ∀ b, b < W2.heap.size → v.ownBlock = some b → uv.ownBlock = some b := fun b hb e => (ho b e).elim id (fun e => by omega)
  refine ⟨set_block hg5 v (o := 3), own_keepR h.row fun b hb => ?_, own_keepR hown fun b hb => hne b (fun e => hvG (by rw [hb, e])), ?_, ?_, fun i hi j hj => ?_, fun b hb hr => ?_, h.gne, hvG, fun a ha e => h.ucne a ha (hv _ (h.lt (.inr (.inr (.inl ⟨a, ha, rfl⟩)))) e)⟩
  · have ha : ∃ a, L.cA = some a ∧ a.block = b := by
      cases hc : L.cA with
      | none => rw [hc] at hb; cases hb
      | some a => rw [hc] at hb; injection hb with hb; exact ⟨a, rfl, hb⟩
    obtain ⟨a, ha, rfl⟩ := ha
    rw [hne _ (h.gne a ha), hk _ (h.lt (.inr (.inr (.inl ⟨a, ha, rfl⟩)))) (h.ucne a ha)]
  · rw [World.cell?_of_block (w := W2) (hst _ (.inl rfl))]; exact h.nm
  · rw [World.cell?_of_block (w := W2) (hst _ (.inr (.inl rfl)))]; exact h.tx
  · rw [World.cell?_of_block (w := W2) (hst _ (.inr (.inr ⟨i, hi, rfl⟩)))]; exact h.refs i hi j hj
  · rcases hr with hr | hr | hr
    · exact h.ne b hb (.inl hr)
    · exact h.ne b hb (.inr (.inl hr))
    · exact h.ne b hb (.inr (.inr (hv b (h.lt (.inl hb)) hr)))
theorem setG_fi {L : RL} {uv v : Value} {W2 W5 : World} (hk : ∀ b, b < W2.heap.size → uv.ownBlock ≠ some b → W5.heap[b]? = W2.heap[b]?) (hos : W5.os = W2.os) (htp : W5.tape = W2.tape) (hop : W5.output = W2.output) (hsz : W2.heap.size ≤ W5.heap.size)
    (ho : ∀ b, v.ownBlock = some b → uv.ownBlock = some b ∨ W2.heap.size ≤ b) : FI (RF L uv) (RF L v) W2 (W5.setCell ⟨L.G, 3, none⟩ v) :=
  ⟨hos, htp, hop, by rw [set_size]; exact hsz, fun b hb hf => ⟨by rw [set_elseR W5 v (fun e => hf (.inl e)), hk b hb (fun e => hf (.inr (.inr e)))], fun hr => by
    rcases hr with hr | hr | hr
    · exact hf (.inl hr)
    · exact hf (.inr (.inl hr))
    · exact (ho b hr).elim (fun e => hf (.inr (.inr e))) (fun e => by omega)⟩⟩
/-- A name is put behind those that are under way. -/
theorem u_step {L : RL} {k : Nat} {t : ByteArray} {xs : Nat → RC} {us : List ByteArray} {uv v : Value} {W2 Y W5 : World} {a : ByteArray} (h : RG L k t xs us uv W2) (hb : Below W2.heap.size W2 Y) (hown : W5.ownsRow 0 9 1 v (us.length + 1) (us.map .string ++ [.string a])) (hg : Y.grownBy W5 uv.ownBlock) (ho : v.ownBlock = uv.ownBlock ∨ v.ownBlock = some Y.heap.size) :
    RG L k t xs (us ++ [a]) v (W5.setCell ⟨L.G, 3, none⟩ v) ∧ FI (RF L uv) (RF L v) W2 (W5.setCell ⟨L.G, 3, none⟩ v) := by
  have hk : ∀ b, b < W2.heap.size → uv.ownBlock ≠ some b → W5.heap[b]? = W2.heap[b]? := fun b hb1 hb2 => (hg.block b (Nat.lt_of_lt_of_le hb1 hb.size) (fun e => hb2 e.symm)).trans (hb.block b hb1)
  have ho2 : ∀ b, v.ownBlock = some b → uv.ownBlock = some b ∨ W2.heap.size ≤ b := fun b e => by
    rcases ho with ho | ho
    · exact .inl (ho ▸ e)
    · rw [ho] at e; injection e with e; exact .inr (e ▸ hb.size)
  exact ⟨setG h hk (by rw [List.length_append, List.map_append]; exact hown) ho2, setG_fi hk (hg.os.trans hb.os) (hg.tape.trans hb.tape) (hg.output.trans hb.output) (Nat.le_trans hb.size hg.size) ho2⟩
/-- The last name is taken off. -/
theorem pop_step {L : RL} {k : Nat} {t : ByteArray} {xs : Nat → RC} {us : List ByteArray} {A : Option Addr} {c : Nat} {W : World} {a : ByteArray} (h : RG L k t xs (us ++ [a]) (.slice A (us.length + 1) c) W) :
    RG L k t xs us (.slice A us.length c) (W.setCell ⟨L.G, 3, none⟩ (.slice A us.length c)) ∧ FI (RF L (.slice A (us.length + 1) c)) (RF L (.slice A us.length c)) W (W.setCell ⟨L.G, 3, none⟩ (.slice A us.length c)) := by
  have hu := h.und
  rw [List.length_append, List.map_append] at hu
  have hA : ∃ g, A = some ⟨g, 0, none⟩ := by
    rcases hu.2 with ⟨_, h0⟩ | ⟨g, cap, cur, hv, _⟩
    · simp at h0
    · injection hv with hv
      exact ⟨g, hv⟩
  obtain ⟨g, rfl⟩ := hA
  have ho : ∀ b, (Value.slice (some ⟨g, 0, none⟩) us.length c).ownBlock = some b → (Value.slice (some ⟨g, 0, none⟩) (us.length + 1) c).ownBlock = some b ∨ W.heap.size ≤ b := fun b e => .inl e
  exact ⟨setG h (fun _ _ _ => rfl) (ownsRow_pop (by simp) hu) ho, setG_fi (fun _ _ _ => rfl) rfl rfl rfl (Nat.le_refl _) ho⟩
set_option maxRecDepth 100000 in
set_option maxHeartbeats 16000000 in
theorem rask_some {i : Nat} (hA : AskR i) {L : RL} {k : Nat} {t : ByteArray} {xs : Nat → RC} {us : List ByteArray} {uv : Value} {W : World} (hk : k ≤ 24) (ht : t.size ≤ 262144) (h : AskPre L k t (i + 1) xs us uv W) (hs0 : ∀ a, a < i + 1 → xs a = rc0) :
    Calls Tryd.prog 11 #[.pointer (some ⟨L.G, 0, none⟩), .string (nmB i)] W (AskP L k t (i + 1) xs us uv W) := by
  have hi : i < k := h.jk
  have hb : Below W.heap.size W (W.alloc (.cells #[.string ⟨#[]⟩, .int .i64 0] 40)) := (Below.refl _ _).alloc (Nat.le_refl _) _
  have h1 := h.rg.later hb
  have KR := Lib.hid (h1.rule hk (nmB i))
  rw [nm_miss hk hi] at KR
  obtain ⟨A, c, rfl, hf⟩ := h1.under (by have := h.ul; omega) (h.un i (Nat.lt_succ_self i))
  have KF := Lib.hid hf
  obtain ⟨cb, hc⟩ := h1.cA_some (by omega)
  have HC := Lib.hid hc
  have g0 := h1.cellG 0
  have g3 := h1.cellG 3
  have c4 := h1.cell hc (o := 4) hi (by omega)
  have c5 := h1.cell hc (o := 5) hi (by omega)
  rw [hs0 i (Nat.lt_succ_self i)] at c4 c5
  rw [hc] at g0
  simp only [rcCells, rc0, List.getElem?_toArray, List.getElem?_cons_succ, List.getElem?_cons_zero] at g0 g3 c4 c5
  have ti : decide ((0 : Int) ≤ (i : Int)) = true := by simp
  have tj : decide ((i : Int) < (0 : Int)) = false := by simp
  have tk : (i : Int) < (k : Int) := by omega
  have HI := Lib.hid hi
  have HK := Lib.hid hk
  have HP := Lib.hid h
  have HB := Lib.hid hb
  have HR1 := Lib.hid h1
  have HS0 := Lib.hid hs0
  have KW : Hid (∀ w us' uv', AskPre L k t i xs us' uv' w → Calls Tryd.prog 19 #[.pointer (some ⟨L.G, 0, none⟩), .int .i64 i] w (WorkR L k t i xs us' uv' w)) := Lib.hid fun w us' uv' h' => rwork_any hA hk ht h' hi (hs0 i (Nat.lt_succ_self i))
  clear h1 h hf hc hi hk ht hb hs0
  go_enter Tryd.func11, Tryd.ntmps11
  go_wp2_with fail
  refine KR.out.mono ?_
  rintro e w1 ⟨rfl, rfl⟩
  go_wp2_with fail
  refine KF.out.mono ?_
  rintro e w1 ⟨rfl, rfl⟩
  go_wp2_with fail
  go_quiet (fail)
  have hbw := below_drewN (Below.refl (W.alloc (.cells #[.string ⟨#[]⟩, .int .i64 0] 40)).heap.size (W.alloc (.cells #[.string ⟨#[]⟩, .int .i64 0] 40))) nq
  have hr1 := HR1.out.later hbw
  have hq1 : ((W.alloc (.cells #[.string ⟨#[]⟩, .int .i64 0] 40)).drewN nq).heap[W.heap.size]? = some (.cells #[.string ⟨#[]⟩, .int .i64 0] 40 (0, 0)) := by
    rw [(drewN_eq _ _).1]
    exact heap_alloc_new W _
  have hb1 : Below W.heap.size W ((W.alloc (.cells #[.string ⟨#[]⟩, .int .i64 0] 40)).drewN nq) := below_drewN HB.out nq
  clear hbw g0 g3 c4 c5 KR KF HR1 HB
  generalize (W.alloc (.cells #[.string ⟨#[]⟩, .int .i64 0] 40)).drewN nq = W1 at hr1 hq1 hb1 ⊢
  have HR1 := Lib.hid hr1
  have HQ1 := Lib.hid hq1
  have HB1 := Lib.hid hb1
  have HQn : Hid (¬ RF L (.slice A us.length c) W.heap.size ∧ ¬ Stt L k W.heap.size) := Lib.hid ⟨fun e => by have := HP.out.rg.lt (.inr e); omega, fun e => by have := HP.out.rg.lt (.inl e); omega⟩
  have g3 := hr1.cellG 3
  simp only [List.getElem?_toArray, List.getElem?_cons_succ, List.getElem?_cons_zero] at g3
  have g3a : ∀ o, (W1.alloc o).cell? ⟨L.G, 3, none⟩ = some (.slice A us.length c) := fun o => cell_alloc_of o g3
  obtain ⟨i0, hi0, hz0, hz1, hz2⟩ := parts3 infoS
  have CN : Hid (∀ j u, [Value.string (nmB i)][j]? = some u → (W1.alloc (.cells #[.string (nmB i)] 9)).cell? ((⟨W1.heap.size, 0, none⟩ : Addr).add j) = some u) := Lib.hid (cells_new W1 [.string (nmB i)] 9)
  have HY : Hid (Below W1.heap.size W1 (W1.alloc (.cells #[.string (nmB i)] 9))) := Lib.hid ((Below.refl _ _).alloc (Nat.le_refl _) _)
  clear hr1 hq1 hb1
  go_wp2_with (at_builtin; refine wpList_plain rfl fun K hK => ?_; refine wp_append_own_at _ _ 24 rfl 0 9 i0 (.string ⟨#[]⟩) 1 16 Tryd.underlying24 hi0 hz0 hz1 hz2 rfl (by decide) _ _ _ rfl (HR1.out.und.alloc _) ⟨W1.heap.size, 0, none⟩ 1 1 [.string (nmB i)] rfl rfl ?a0 ?a1 ?a2 ?a3 (Nat.zero_le _) ?_)
  case a0 => exact CN.out
  case a1 =>
    intro u hu
    simp only [List.mem_cons, List.not_mem_nil, or_false] at hu
    subst hu
    rfl
  case a2 => have := HP.out.ul; unfold maxLen; omega
  case a3 => have := HP.out.ul; omega
  intro v5 W5 hown5 hg5 _ ho5
  refine hK _ _ ?_
  clear hK K
  obtain ⟨A5, c5, rfl, _⟩ := own_slice hown5
  have hg5' : (W1.alloc (.cells #[.string (nmB i)] 9)).grownBy W5 (Value.slice A us.length c).ownBlock := hg5
  have hus := u_step HR1.out HY.out hown5 hg5' (by rw [World.size_alloc]; exact ho5)
  have hgb : W5.heap[L.G]? = W1.heap[L.G]? := (hg5'.block _ (Nat.lt_of_lt_of_le (HR1.out.lt (.inr (.inl rfl))) HY.out.size) (fun e => HR1.out.ugne e.symm)).trans (HY.out.block _ (HR1.out.lt (.inr (.inl rfl))))
  have gz : W5.frozen? ⟨L.G, 3, none⟩ = false := by
    rw [World.frozen?_of_block (w := W1) hgb]; exact HR1.out.freeG 3
  have gc : W5.cell? ⟨L.G, 3, none⟩ = some (.slice A us.length c) := by
    rw [World.cell?_of_block (w := W1) hgb]; exact HR1.out.cellG 3
  have HR6 := Lib.hid hus.1
  have HF6 := Lib.hid hus.2
  have g0 := hus.1.cellG 0
  have c4 := hus.1.cell HC.out (o := 4) HI.out (by omega)
  have c5 := hus.1.cell HC.out (o := 5) HI.out (by omega)
  rw [HS0.out i (Nat.lt_succ_self i)] at c4 c5
  rw [HC.out] at g0
  simp only [rcCells, rc0, List.getElem?_toArray, List.getElem?_cons_succ, List.getElem?_cons_zero] at g0 c4 c5
  clear g3 g3a hown5 hg5 hg5' ho5 hus hgb
  go_wp2_with fail
  clear gz gc g0 c4 c5
  generalize W5.setCell ⟨L.G, 3, none⟩ (.slice A5 (us.length + 1) c5) = W6 at HR6 HF6 ⊢
  go_loopw [7, 9] (fun b v wr => b = .bool true ∧ v = .int .i64 0 ∧ wr = W6) (fun _ _ _ => 0)
  case atStart => exact ⟨rfl, rfl, rfl⟩
  case round =>
    obtain ⟨rfl, rfl, rfl⟩ := hrel
    have hq6 := box_fi HF6.out HQ1.out HQn.out.1
    have HQ6 := Lib.hid hq6
    have K1 := Lib.hid (KW.out wr (us ++ [nmB i]) (.slice A5 (us.length + 1) c5) ⟨HR6.out, .inl (fun a ha => HS0.out a (by omega)), fun a ha hm => by
      rcases List.mem_append.1 hm with hm | hm
      · exact HP.out.un a (by omega) hm
      · simp only [List.mem_cons, List.not_mem_nil, or_false] at hm
        have := nm_inj (by have := HK.out; have := HI.out; omega) (by have := HK.out; have := HI.out; omega) hm
        omega, by have := HP.out.ul; simp; omega, by have := HI.out; omega⟩)
    clear hq6
    go_wp2_with fail
    refine K1.out.mono ?_
    rintro e w7 ⟨xs7, uv7, rfl, hr7, hd7, hk7, hl7, hs7, hf7⟩
    obtain ⟨g7, c7, rfl, hcap⟩ : ∃ g c, uv7 = .slice (some ⟨g, 0, none⟩) (us.length + 1) c ∧ us.length + 1 ≤ c := by
      have hu := hr7.und
      rcases hu.2 with ⟨_, h0⟩ | ⟨g, cap, cur, hv, _, _, hc, _⟩
      · simp at h0
      · refine ⟨g, cap, by rw [hv]; simp, by simpa using hc⟩
    have HCap := Lib.hid hcap
    have hq7 := box_fi hf7 HQ6.out.1 HQ6.out.2
    have HR7 := Lib.hid hr7
    have HD7 := Lib.hid (And.intro hd7 (And.intro hk7 (And.intro hl7 hs7)))
    have hfw : FI (RF L (.slice A us.length c)) (RF L (.slice (some ⟨g7, 0, none⟩) (us.length + 1) c7)) W w7 := ((FI.below HB1.out).trans HF6.out).trans hf7
    have HF7 := Lib.hid hfw
    have HQ7 := Lib.hid hq7
    have g0 := hr7.cellG 0
    rw [HC.out] at g0
    have g4 := hr7.cellG 4
    simp only [List.getElem?_toArray, List.getElem?_cons_succ, List.getElem?_cons_zero] at g0 g4
    have c10 := hr7.cell HC.out (o := 10) HI.out (by omega)
    simp only [rcCells, List.getElem?_cons_succ, List.getElem?_cons_zero] at c10
    have zf := hr7.free HC.out
    have h8 := hr7.store HC.out HI.out (o := 10) (by omega) (u := .int .i64 1) (x := { xs7 i with seen := 1 }) rfl
    have HR8 : Hid (RG L k t (updC xs7 i { xs7 i with seen := 1 }) (us ++ [nmB i]) (.slice (some ⟨g7, 0, none⟩) (us.length + 1) c7) ((w7.setCell ⟨cb, i * 11 + 10, none⟩ (.int .i64 1)).drew)) := Lib.hid (h8.later (Below.refl _ _).drew)
    have hcF : RF L (.slice (some ⟨g7, 0, none⟩) (us.length + 1) c7) cb := .inr (.inl ⟨_, HC.out, rfl⟩)
    have hf8 : FI (RF L (.slice A us.length c)) (RF L (.slice (some ⟨g7, 0, none⟩) (us.length + 1) c7)) W ((w7.setCell ⟨cb, i * 11 + 10, none⟩ (.int .i64 1)).drew) := (fi_set hfw (.inl hcF) _).trans (FI.below (Below.refl _ _).drew)
    have HF8 := Lib.hid hf8
    have hq8 : ((w7.setCell ⟨cb, i * 11 + 10, none⟩ (.int .i64 1)).drew).heap[W.heap.size]? = some (.cells #[.string ⟨#[]⟩, .int .i64 0] 40 (0, 0)) := by
      show (w7.setCell _ _).heap[W.heap.size]? = _
      have hneq : W.heap.size ≠ cb := fun e => hq7.2 (by rw [e]; exact hcF)
      rw [set_elseR _ _ hneq]
      exact hq7.1
    have HQ8 := Lib.hid hq8
    have tk' : (i : Int) < (k : Int) := by have := HI.out; omega
    clear hcap hr7 hd7 hk7 hl7 hs7 hf7 hfw hq7 h8 hcF hf8 hq8 K1
    go_wp2_with fail
    go_region
    clear g0 g4 c10 zf
    generalize (w7.setCell ⟨cb, i * 11 + 10, none⟩ (.int .i64 1)).drew = W8 at HR8 HF8 HQ8 ⊢
    have g3 := HR8.out.cellG 3
    simp only [List.getElem?_toArray, List.getElem?_cons_succ, List.getElem?_cons_zero] at g3
    have zG := HR8.out.freeG 3
    have hp := pop_step HR8.out
    have HR9 : Hid (RG L k t (updC xs7 i { xs7 i with seen := 1 }) us (.slice (some ⟨g7, 0, none⟩) us.length c7) ((W8.setCell ⟨L.G, 3, none⟩ (.slice (some ⟨g7, 0, none⟩) us.length c7)).drew)) := Lib.hid (hp.1.later (Below.refl _ _).drew)
    have HF9 : Hid (FI (RF L (.slice A us.length c)) (RF L (.slice (some ⟨g7, 0, none⟩) us.length c7)) W ((W8.setCell ⟨L.G, 3, none⟩ (.slice (some ⟨g7, 0, none⟩) us.length c7)).drew)) := Lib.hid ((HF8.out.trans hp.2).trans (FI.below (Below.refl _ _).drew))
    have hcapi : (us.length : Int) ≤ (c7 : Int) := by have := HCap.out; omega
    have hcapn : us.length ≤ c7 := by have := HCap.out; omega
    have wA : wrap64 ((us.length : Nat) : Int) = (us.length : Int) := by
      have := HP.out.ul
      rw [← w64_eq]; exact w64_in (by omega) (by omega)
    have wB : IntKind.i64.wrap ((us.length : Nat) : Int) = (us.length : Int) := by
      have := HP.out.ul
      exact w64_in (by omega) (by omega)
    have hq9 : ((W8.setCell ⟨L.G, 3, none⟩ (.slice (some ⟨g7, 0, none⟩) us.length c7)).drew).heap[W.heap.size]? = some (.cells #[.string ⟨#[]⟩, .int .i64 0] 40 (0, 0)) := by
      show (W8.setCell _ _).heap[W.heap.size]? = _
      have hneq : W.heap.size ≠ L.G := fun e => HQn.out.1 (.inl e)
      rw [set_elseR _ _ hneq]
      exact HQ8.out
    have HQ9 := Lib.hid hq9
    clear hp hq9
    go_wp2_with fail
    go_region
    clear g3 zG
    generalize (W8.setCell ⟨L.G, 3, none⟩ (.slice (some ⟨g7, 0, none⟩) us.length c7)).drew = W9 at HR9 HF9 HQ9 ⊢
    have g0 := HR9.out.cellG 0
    rw [HC.out] at g0
    simp only [List.getElem?_toArray, List.getElem?_cons_zero] at g0
    have d7 := HR9.out.cell HC.out (o := 7) HI.out (by omega)
    have d8 := HR9.out.cell HC.out (o := 8) HI.out (by omega)
    rw [updC_same] at d7 d8
    simp only [rcCells, List.getElem?_cons_succ, List.getElem?_cons_zero] at d7 d8
    rw [HD7.out.2.2.1] at d7 d8
    obtain ⟨q0, q1, z0, z1⟩ := two_boxR HQ9.out
    have HX9 : Hid (¬ RF L (.slice (some ⟨g7, 0, none⟩) us.length c7) W.heap.size) := Lib.hid HQ7.out.2
    generalize hov : valN t (i + 1) = ov at d7 d8
    have HOv := Lib.hid hov
    clear hov
    obtain ⟨r0, r1⟩ := two_set q0 q1 (.string ov.t) (.int .i64 ov.e)
    go_wp2_with fail
    refine bodyPost_ret (v := .agg #[.string ov.t, .int .i64 ov.e]) (by simp [results, Tryd.results11, go_sem, r0, r1]) rfl ?_
    refine ⟨updC xs7 i { xs7 i with seen := 1 }, _, by rw [HOv.out], (HR9.out.box (p := ⟨W.heap.size, 0, none⟩) HX9.out HQn.out.2 _).box (p := ⟨W.heap.size, 1, none⟩) HX9.out HQn.out.2 _, fun a ha => ?_, fun a ha => ?_, fi_set (p := ⟨W.heap.size, 1, none⟩) (fi_set (p := ⟨W.heap.size, 0, none⟩) HF9.out (.inr (Nat.le_refl _)) _) (.inr (Nat.le_refl _)) _⟩
    · rcases Nat.lt_or_ge a i with h1 | h1
      · rw [updC_else _ _ (by omega)]
        exact HD7.out.1 a h1
      · obtain rfl : a = i := by omega
        rw [updC_same]
        exact ⟨HD7.out.2.1, HD7.out.2.2.1, rfl⟩
    · rw [updC_else _ _ (by omega)]
      exact HD7.out.2.2.2 a (by omega)
theorem rask_any : ∀ j, AskR j
  | 0 => ⟨fun L k t xs us uv W hk _ h => (ask_x h.rg hk).mono fun e W' ⟨he, hb⟩ => ⟨xs, uv, he, h.rg.later hb, fun i hi => absurd hi (by omega), fun _ _ => rfl, FI.below hb⟩⟩
  | i + 1 => ⟨fun L k t xs us uv W hk ht h => by
    rcases h.st with hs | hs
    · exact rask_some (rask_any i) hk ht h hs
    · have h1 := hs i (Nat.lt_succ_self i)
      refine (ask_kept h.rg hk (by have := h.ul; omega) h.jk (h.un i (Nat.lt_succ_self i)) h1.1 h1.2.2).mono fun e W' ⟨he, hb⟩ => ⟨xs, uv, ?_, h.rg.later hb, hs, fun _ _ => rfl, FI.below hb⟩
      rw [he, h1.2.1]⟩
end Go.Proofs.YtjcaeoacgoklmaaDoor
