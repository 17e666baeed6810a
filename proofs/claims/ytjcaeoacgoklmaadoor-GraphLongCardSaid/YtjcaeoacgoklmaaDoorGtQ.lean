import Derived.Test.YtjcaeoacgoklmaaDoorGtX
import Derived.Test.YtjcaeoacgoklmaaDoorGtS
namespace Go.Proofs.YtjcaeoacgoklmaaDoor
open Go.RowKit
theorem infoRg : (Tryd.prog.info? 26).map (fun i => (i.zero, i.size, i.bytes)) = some (some (.agg #[.string ⟨#[]⟩, .int .i64 0, .slice none 0 0, .string ⟨#[]⟩]), 4, 64) := by kernel_rfl
theorem measK {n kk : Nat} (h : n < kk) (h2 : kk ≤ 24) : kk - (intOf (Value.int .i64 (wrap64 ((n : Int) + 1)))).toNat < kk - (intOf (Value.int .i64 (n : Int))).toNat := by
  rw [w64_add (by omega) (by omega)]
  simp only [intOf]
  omega
/-- The rules of a chain, as the call makes them. -/
structure Mk (W : World) (n : Nat) (rb : Nat → Nat) (rv : Value) (w : World) : Prop where
  own : w.ownsRow W.heap.size 26 4 rv n (ruL rb n)
  refs : ∀ i, i < n → ∀ j, j < 2 → w.cell? ⟨rb i, j, none⟩ = some (.string (lastN i))
  ge : ∀ i, i < n → W.heap.size ≤ rb i ∧ rv.ownBlock ≠ some (rb i)
  below : Below W.heap.size W w
theorem ruL_ext {rb rb' : Nat → Nat} : ∀ {n : Nat}, (∀ i, i < n → rb' i = rb i) → ruL rb' n = ruL rb n
  | 0, _ => rfl
  | n + 1, h => by unfold ruL; rw [ruL_ext (fun i hi => h i (by omega)), h n (by omega)]
theorem Mk.push {W wr W5 : World} {n : Nat} {rb : Nat → Nat} {rv v5 : Value} (h : Mk W n rb rv wr)
    (hown : W5.ownsRow W.heap.size 26 4 v5 (n + 1) (ruL rb n ++ [.string (nmB n), .int .i64 1, .slice (some ⟨wr.heap.size, 0, none⟩) 2 2, .string ⟨#[43]⟩]))
    (hg : ((wr.alloc (.cells #[.string (lastN n), .string (lastN n)] 9)).alloc (.cells #[.string (nmB n), .int .i64 1, .slice (some ⟨wr.heap.size, 0, none⟩) 2 2, .string ⟨#[43]⟩] 26)).grownBy W5 rv.ownBlock)
    (ho : v5.ownBlock = rv.ownBlock ∨ v5.ownBlock = some (wr.heap.size + 1 + 1)) :
    Mk W (n + 1) (fun i => if i = n then wr.heap.size else rb i) v5 W5 := by
  have hb2 := ((Below.refl wr.heap.size wr).alloc (Nat.le_refl _) (.cells #[.string (lastN n), .string (lastN n)] 9)).alloc (by simp) (.cells #[.string (nmB n), .int .i64 1, .slice (some ⟨wr.heap.size, 0, none⟩) 2 2, .string ⟨#[43]⟩] 26)
  have hrl : ∀ k, rv.ownBlock = some k → W.heap.size ≤ k ∧ k < wr.heap.size := fun k hk => h.own.lt k hk
  have hbx : ∀ j, j < 2 → ((wr.alloc (.cells #[.string (lastN n), .string (lastN n)] 9)).alloc (.cells #[.string (nmB n), .int .i64 1, .slice (some ⟨wr.heap.size, 0, none⟩) 2 2, .string ⟨#[43]⟩] 26)).cell? ⟨wr.heap.size, j, none⟩ = some (.string (lastN n)) := fun j hj => cell_alloc_of _ (by
    have h0 := Lib.cell_of_heap (heap_alloc_new wr (.cells #[.string (lastN n), .string (lastN n)] 9)) j
    rw [h0]
    match j, hj with
    | 0, _ => rfl
    | 1, _ => rfl)
  refine ⟨?_, fun i hi j hj => ?_, fun i hi => ?_, (h.below.trans (hb2.mono h.below.size)).grown hg (Nat.le_trans h.below.size hb2.size) (fun k hk => (hrl k hk).1)⟩
  · have e : ruL (fun i => if i = n then wr.heap.size else rb i) (n + 1) = ruL rb n ++ [.string (nmB n), .int .i64 1, .slice (some ⟨wr.heap.size, 0, none⟩) 2 2, .string ⟨#[43]⟩] := by
      show ruL (fun i => if i = n then wr.heap.size else rb i) n ++ [.string (nmB n), .int .i64 1, .slice (some ⟨if n = n then wr.heap.size else rb n, 0, none⟩) 2 2, .string ⟨#[43]⟩] = _
      rw [ruL_ext (rb := rb) (fun i hi => if_neg (by omega)), if_pos rfl]
    rw [e]
    exact hown
  · show W5.cell? ⟨if i = n then wr.heap.size else rb i, j, none⟩ = _
    by_cases hin : i = n
    · rw [if_pos hin, hin]
      rw [World.cell?_of_block (w := (wr.alloc (.cells #[.string (lastN n), .string (lastN n)] 9)).alloc (.cells #[.string (nmB n), .int .i64 1, .slice (some ⟨wr.heap.size, 0, none⟩) 2 2, .string ⟨#[43]⟩] 26)) (hg.block _ (by simp; omega) (fun e => by have h9 : W.heap.size ≤ wr.heap.size ∧ wr.heap.size < wr.heap.size := hrl _ e.symm; omega))]
      exact hbx j hj
    · rw [if_neg hin]
      have h1 := h.refs i (by omega) j hj
      have h2 := World.block_lt_of_cell? _ _ h1
      have h2 : rb i < wr.heap.size := h2
      rw [World.cell?_of_block (w := wr) (a := ⟨rb i, j, none⟩) ((hg.block _ (Nat.lt_of_lt_of_le h2 hb2.size) (fun e => (h.ge i (by omega)).2 e.symm)).trans (hb2.block _ h2))]
      exact h1
  · show W.heap.size ≤ (if i = n then wr.heap.size else rb i) ∧ v5.ownBlock ≠ some (if i = n then wr.heap.size else rb i)
    by_cases hin : i = n
    · rw [if_pos hin]
      refine ⟨h.below.size, fun e => ?_⟩
      rcases ho with ho | ho
      · have := hrl _ (ho ▸ e); omega
      · rw [ho] at e; injection e with e; omega
    · rw [if_neg hin]
      have h2 : rb i < wr.heap.size := World.block_lt_of_cell? _ _ (h.refs i (by omega) 0 (by omega))
      refine ⟨(h.ge i (by omega)).1, fun e => ?_⟩
      rcases ho with ho | ho
      · exact (h.ge i (by omega)).2 (ho ▸ e)
      · rw [ho] at e; injection e with e; omega
/-- Both graphs in one memory, behind the first Set. -/
structure Lg (W : World) (n : Nat) (rb : Nat → Nat) (Gw : Nat) (cv : Value) (L : Lay) (E : Env) (av : Nat → Value) (w : World) : Prop where
  rm : RM (Gw + 1) rb Gw cv n w
  refs : ∀ i, i < n → ∀ j, j < 2 → w.cell? ⟨rb i, j, none⟩ = some (.string (lastN i))
  ne : ∀ i, i < n → rb i ≠ Gw ∧ cv.ownBlock ≠ some (rb i)
  own : Below W.heap.size W w
  gw : W.heap.size ≤ Gw
  fo : ∀ k, FootI L E.rules.length av k → W.heap.size ≤ k
  d1 : ∀ k, AllB L E av k → k ≠ Gw ∧ cv.ownBlock ≠ some k
  d2 : ∀ k, (k = Gw ∨ cv.ownBlock = some k ∨ ∃ i, i < n ∧ k = rb i) → ¬ FootI L E.rules.length av k
theorem below_fi {W w w' : World} {F F' : Nat → Prop} (h : Below W.heap.size W w) (hf : FI F F' w w') (hF : ∀ k, F k → W.heap.size ≤ k) : Below W.heap.size W w' :=
  ⟨hf.os.trans h.os, hf.tape.trans h.tape, hf.output.trans h.output, Nat.le_trans h.size hf.size, fun k hk => ((hf.block k (Nat.lt_of_lt_of_le hk h.size) (fun e => by have := hF k e; omega)).1).trans (h.block k hk)⟩
theorem long_set1 {W wr w3 w4 w5 w6 : World} {n : Nat} {rb : Nat → Nat} {rv cv : Value} {L L6 : Lay} {E6 : Env} (hM : Mk W n rb rv wr) (hb3 : Below wr.heap.size wr w3) (hP : NewP (rulesL n) L wr w3) (hb4 : Below w3.heap.size w3 w4) (hR : RN w4 rb w4.heap.size cv n w5)
    (hs : Stp L (newE (rulesL n)) avN L6 E6 avN w5 w6) : Lg W n rb w4.heap.size cv L6 E6 avN w6 := by
  have hlen : (newE (rulesL n)).rules.length = (rulesL n).length := rfl
  have hI : ∀ k, FootI L (newE (rulesL n)).rules.length avN k → wr.heap.size ≤ k ∧ k < w3.heap.size := fun k hk => by
    refine ⟨?_, hP.gr.lt (.inl hk)⟩
    rcases hk with hk | hk
    · exact hP.foot k hk
    · rw [hP.I] at hk; cases hk
  have s1 := hM.below.size
  have s2 := hb3.size
  have s3 := hb4.size
  have s4 := hR.below.size
  have hGl : w4.heap.size < w5.heap.size := blk_lt hR.g
  have hcv : ∀ b, cv.ownBlock = some b → w4.heap.size + 1 ≤ b ∧ b < w5.heap.size := fun b hb => hR.row.lt b hb
  have hrb : ∀ i, i < n → rb i < wr.heap.size := fun i hi => World.block_lt_of_cell? _ _ (hM.refs i hi 0 (by omega))
  have hb5 : Below wr.heap.size wr w5 := (hb3.trans (hb4.mono hb3.size)).trans (hR.below.mono (by omega))
  have hset : ∀ k, (k = w4.heap.size ∨ cv.ownBlock = some k ∨ ∃ i, i < n ∧ k = rb i) → k < w5.heap.size ∧ ¬ FootI L (newE (rulesL n)).rules.length avN k := fun k hk => by
    rcases hk with rfl | hk | ⟨i, hi, rfl⟩
    · exact ⟨hGl, fun e => by have := hI _ e; omega⟩
    · exact ⟨(hcv k hk).2, fun e => by have := hI _ e; have := hcv k hk; omega⟩
    · exact ⟨by have := hrb i hi; omega, fun e => by have := hI _ e; have := hrb i hi; omega⟩
  have hsame : ∀ k, (k = w4.heap.size ∨ cv.ownBlock = some k ∨ ∃ i, i < n ∧ k = rb i) → w6.heap[k]? = w5.heap[k]? := fun k hk => (hs.fi.block k (hset k hk).1 (hset k hk).2).1
  have hown5 : Below W.heap.size W w5 := hM.below.trans (hb5.mono s1)
  refine ⟨⟨(hsame _ (.inl rfl)).trans hR.g, own_keepR hR.row fun b hb => hsame b (.inr (.inl hb))⟩, fun i hi j hj => ?_, fun i hi => ⟨by have := hrb i hi; omega, fun e => by have := hcv _ e; have := hrb i hi; omega⟩, below_fi hown5 hs.fi (fun k hk => by have := hI k hk; omega), by omega, fun k hk => ?_, fun k hk => ?_, fun k hk => (hs.fi.block k (hset k hk).1 (hset k hk).2).2⟩
  · rw [World.cell?_of_block (w := w5) (a := ⟨rb i, j, none⟩) (hsame _ (.inr (.inr ⟨i, hi, rfl⟩)))]
    exact cell_later2 hb5 (hM.refs i hi j hj)
  · rcases Nat.lt_or_ge k W.heap.size with h1 | h1
    · exact absurd hk (hs.fi.block k (by omega) (fun e => by have := hI k e; omega)).2
    · exact h1
  · have h1 := hs.sep (F := fun k => k = w4.heap.size ∨ cv.ownBlock = some k) (fun k hk => (hset k (hk.elim .inl (fun e => .inr (.inl e)))).1) (fun k hk e => by
      have h2 := hP.gr.lt2 hk
      rcases e with e | e
      · omega
      · have := hcv k e; omega) k hk
    exact ⟨fun e => h1 (.inl e), fun e => h1 (.inr e)⟩
structure Lh (W : World) (n : Nat) (rb : Nat → Nat) (L2 : RL) (t : ByteArray) (L : Lay) (E : Env) (s : St) (av : Nat → Value) (c : Nat) (w : World) : Prop where
  gr : Gr L E s av c w
  rg : RG L2 n t (fun _ => rc0) [] (.slice none 0 0) w
  own : Below W.heap.size W w
  fo : ∀ k, FootI L E.rules.length av k → W.heap.size ≤ k
  rf : ∀ k, RF L2 (.slice none 0 0) k → W.heap.size ≤ k
  d2 : ∀ k, Stt L2 n k ∨ RF L2 (.slice none 0 0) k → ¬ FootI L E.rules.length av k
theorem long_set2 {W w6 w7 : World} {n : Nat} {rb : Nat → Nat} {Gw : Nat} {cv : Value} {L : Lay} {E : Env} {s : St} {av : Nat → Value} {c : Nat} {L2 : RL} {t : ByteArray} (h : Lg W n rb Gw cv L E av w6) (hg : Gr L E s av c w6) (hk : Kp (fun b => b ≠ Gw) w6 w7) (hL : L2.G = Gw) (hrb : L2.rb = rb) (hcv : cv = .slice L2.cA n L2.cc) (hnb : w6.heap.size ≤ L2.nb) (htb : w6.heap.size ≤ L2.tb)
    (hr : RG L2 n t (fun _ => rc0) [] (.slice none 0 0) w7) : Lh W n rb L2 t L E s av c w7 := by
  have hcv2 : ∀ k, (∃ a, L2.cA = some a ∧ a.block = k) → cv.ownBlock = some k := fun k ⟨a, ha, hb⟩ => by rw [hcv, ha, ← hb]; rfl
  refine ⟨hg.keep hk.size fun k hk' => hk.block k (h.d1 k hk').1 (hg.lt2 hk'), hr, ⟨hk.os.trans h.own.os, hk.tape.trans h.own.tape, hk.output.trans h.own.output, Nat.le_trans h.own.size hk.size, fun k hk' => (hk.block k (by have := h.gw; omega) (Nat.lt_of_lt_of_le hk' h.own.size)).trans (h.own.block k hk')⟩, h.fo, fun k hk' => ?_, fun k hk' e => ?_⟩
  · rcases hk' with rfl | hk' | hk'
    · rw [hL]; exact h.gw
    · have := (h.rm.row.lt k (hcv2 k hk')).1
      have := h.gw
      omega
    · cases hk'
  · rcases hk' with (rfl | rfl | ⟨i, hi, rfl⟩) | (rfl | hk' | hk')
    · have := hg.lt (.inl e); omega
    · have := hg.lt (.inl e); omega
    · exact h.d2 _ (.inr (.inr ⟨i, hi, by rw [hrb]⟩)) e
    · exact h.d2 _ (.inl hL) e
    · exact h.d2 _ (.inr (.inl (hcv2 k hk'))) e
    · cases hk'
theorem long_ask {W w7 w8 : World} {n : Nat} {rb : Nat → Nat} {L2 : RL} {t : ByteArray} {L : Lay} {E : Env} {s : St} {av av' : Nat → Value} {c : Nat} (h : Lh W n rb L2 t L E s av c w7) (hs : Stp L E av L E av' w7 w8) :
    RG L2 n t (fun _ => rc0) [] (.slice none 0 0) w8 ∧ Below W.heap.size W w8 ∧ ∀ k, RF L2 (.slice none 0 0) k → W.heap.size ≤ k :=
  ⟨h.rg.keep fun b hb => (hs.fi.block b (h.rg.lt hb) (h.d2 b hb)).1, below_fi h.own hs.fi h.fo, h.rf⟩
set_option maxRecDepth 100000 in
set_option maxHeartbeats 16000000 in
theorem long_walk {W : World} {z : Nat} {t : ByteArray} (hT : TabG W) (hTl : ∀ k, Table k → k < W.heap.size) (hz : z < 256) :
    Calls Tryd.prog 3 #[.int .u8 z, .string t] W fun e W' => e = .returned (.bool true) ∧ Below W.heap.size W W' := by
  have AW := Lib.hid (fun wx (hb : Below W.heap.size W wx) => awake_true wx (tab_keep hT fun g hg => hb.block g (hTl g hg)) (fun k hk => Nat.lt_of_lt_of_le (hTl k hk) hb.size))
  have HT := Lib.hid (And.intro hT hTl)
  have HZ := Lib.hid hz
  clear hT hTl hz
  by_cases hbig : 100 < t.size
  · have tb : decide ((100 : Int) < (t.size : Int)) = true := by simp; omega
    clear hbig
    go_enter Tryd.func3, Tryd.ntmps3
    go_wp2_with fail
    refine (AW.out _ (Below.refl _ _)).mono ?_
    rintro e w1 ⟨rfl, hb1⟩
    have HB1 := Lib.hid hb1
    clear hb1
    go_wp2_with fail
    refine (AW.out _ HB1.out).mono ?_
    rintro e w2 ⟨rfl, hb2⟩
    go_wp2_with fail
    go_ret
    exact ⟨rfl, below_step HB1.out hb2⟩
  have tb : decide ((100 : Int) < (t.size : Int)) = false := by simp; omega
  have HTs : Hid (t.size ≤ 100) := Lib.hid (by omega)
  clear hbig
  go_enter Tryd.func3, Tryd.ntmps3
  go_wp2_with fail
  refine (AW.out _ (Below.refl _ _)).mono ?_
  rintro e w1 ⟨rfl, hb1⟩
  have HB1 := Lib.hid hb1
  clear hb1
  go_wp2_with fail
  obtain ⟨kk, hkk⟩ : ∃ kk, kk = z % 24 := ⟨_, rfl⟩
  have hk24 : kk < 24 := by omega
  have HK := Lib.hid hk24
  have HKz : Hid ((z : Int) % 24 = (kk : Int)) := Lib.hid (by omega)
  obtain ⟨i0, hi0, hz0, hz1, hz2⟩ := parts3 infoRg
  clear hk24 hkk
  go_loopw [5, 6, 7] (fun rv lv v wr => ∃ (n : Nat) (rb : Nat → Nat), n ≤ kk ∧ v = .int .i64 n ∧ lv = .string (lastN n) ∧ Mk W n rb rv wr) (fun _ _ v _ => kk - (intOf v).toNat)
  case atStart => exact ⟨0, fun _ => 0, by omega, rfl, rfl, World.ownsRow_nil _ _ _ _, fun i hi => absurd hi (by omega), fun i hi => absurd hi (by omega), HB1.out⟩
  case round =>
    obtain ⟨n, rb, hn, rfl, rfl, hM⟩ := hrel
    have HMk := Lib.hid hM
    obtain ⟨A1, c1, rfl, _⟩ := own_slice hM.own
    by_cases hlt : n < kk
    · have tl : decide ((n : Int) < (z : Int) % 24) = true := by rw [HKz.out]; simp; omega
      have HL := Lib.hid hlt
      have h24 : n < 24 := by have := HK.out; omega
      have lrune := fun w => rune_run h24 w
      obtain ⟨bb, hbb⟩ : ∃ bb, bb = UInt8.ofNat (97 + n) := ⟨_, rfl⟩
      have lstr : ∀ w, (convert 21 9 (.int .i32 ((97 : Int) + n))).run Tryd.prog w = .ok (.string ⟨#[bb]⟩) w := fun w => by rw [hbb]; exact str_run h24 w
      have hcat : (⟨#[114]⟩ ++ ⟨#[bb]⟩ : ByteArray) = nmB n := by rw [hbb]; rfl
      clear hbb
      have wr2 : wrap64 ((n : Int) + 1) = (n : Int) + 1 := w64_add (by omega) (by omega)
      have wr97 : wrap64 ((97 : Int) + n) = (97 : Int) + n := by rw [← w64_eq]; exact w64_in (by omega) (by omega)
      have HC2 : Hid (∀ j u, [Value.string (nmB n), .int .i64 1, .slice (some ⟨wr.heap.size, 0, none⟩) 2 2, .string ⟨#[43]⟩][j]? = some u → ((wr.alloc (.cells #[.string (lastN n), .string (lastN n)] 9)).alloc (.cells #[.string (nmB n), .int .i64 1, .slice (some ⟨wr.heap.size, 0, none⟩) 2 2, .string ⟨#[43]⟩] 26)).cell? ((⟨wr.heap.size + 1, 0, none⟩ : Addr).add j) = some u) := Lib.hid (by
        have := cells_new (wr.alloc (.cells #[.string (lastN n), .string (lastN n)] 9)) [.string (nmB n), .int .i64 1, .slice (some ⟨wr.heap.size, 0, none⟩) 2 2, .string ⟨#[43]⟩] 26
        rw [World.size_alloc] at this
        exact this)
      clear hlt hM
      go_wp2_with (at_builtin; refine wpList_plain rfl fun K hK => ?_; go_loud (refine wp_append_own_at _ _ 23 rfl W.heap.size 26 i0 (.agg #[.string ⟨#[]⟩, .int .i64 0, .slice none 0 0, .string ⟨#[]⟩]) 4 64 Tryd.underlying23 hi0 hz0 hz1 hz2 rfl (by decide) _ _ _ rfl ((HMk.out.own.alloc _).alloc _) ⟨wr.heap.size + 1, 0, none⟩ 1 1 [.string (nmB n), .int .i64 1, .slice (some ⟨wr.heap.size, 0, none⟩) 2 2, .string ⟨#[43]⟩] rfl rfl ?a0 ?a1 ?a2 ?a3 ?a4 ?_))
      case a0 => exact HC2.out
      case a1 =>
        intro u hu
        simp only [List.mem_cons, List.not_mem_nil, or_false] at hu
        rcases hu with rfl | rfl | rfl | rfl <;> rfl
      case a2 => have := HK.out; have := HL.out; unfold maxLen; omega
      case a3 => have := HK.out; have := HL.out; omega
      case a4 => have := HMk.out.below.size; simp only [World.size_alloc]; omega
      intro v5 W5 hown5 hg5 _ ho5
      refine hK _ _ ?_
      clear hK K
      have hg5' : ((wr.alloc (.cells #[.string (lastN n), .string (lastN n)] 9)).alloc (.cells #[.string (nmB n), .int .i64 1, .slice (some ⟨wr.heap.size, 0, none⟩) 2 2, .string ⟨#[43]⟩] 26)).grownBy W5 (Value.slice A1 n c1).ownBlock := hg5
      have HM5 := Lib.hid (HMk.out.push hown5 hg5' (by simpa using ho5))
      clear lrune lstr hcat wr97 hown5 hg5 hg5' ho5 h24
      go_wp2_with fail
      exact ⟨⟨n + 1, _, HL.out, by go_num, rfl, HM5.out⟩, measK HL.out (Nat.le_of_lt HK.out)⟩
    · obtain rfl : n = kk := by omega
      have tl : decide ((n : Int) < (z : Int) % 24) = false := by rw [HKz.out]; simp
      clear hlt hn hM
      obtain ⟨A1', c1', g1, hv, hA1, hRu, hg1⟩ := ruR_ex HMk.out.own
      injection hv with hv1 _ hv2
      subst hv1 hv2
      have HRu := Lib.hid (And.intro hA1 (And.intro hRu hg1))
      have hRs : RulesAt wr g1 0 (rulesL n) (fun i => some ⟨rb i, 0, none⟩) (fun _ => 2) := by
        intro i r hi
        have hl := (List.getElem?_eq_some_iff.1 hi).1
        rw [rulesL_len] at hl
        rw [rulesL_at hl] at hi
        injection hi with hi
        subst hi
        rw [Nat.zero_add]
        refine ⟨hRu.c0 i hl, hRu.c1 i hl, hRu.c2 i hl, hRu.c3 i hl, fun h => (by cases h), fun _ => ⟨rb i, 0, rfl, fun j a hj => ?_⟩⟩
        have hj2 := (List.getElem?_eq_some_iff.1 hj).1
        have hj2 : j < 2 := hj2
        rw [Nat.zero_add, HMk.out.refs i hl j hj2]
        match j, hj2, hj with
        | 0, _, hj => injection hj with hj; rw [← hj]
        | 1, _, hj => injection hj with hj; rw [← hj]
      have hn24 : n ≤ 24 := by have := HK.out; omega
      have KN : Calls Tryd.prog 5 #[.slice A1 n c1] wr (NewPost (rulesL n) wr) := by
        have := new_any (cap := c1) (tab_keep HT.out.1 fun g hg => HMk.out.below.block g (HT.out.2 g hg)) (fun k hk => Nat.lt_of_lt_of_le (HT.out.2 k hk) HMk.out.below.size) (fun h => hA1 (by
          rcases Nat.eq_zero_or_pos n with h0 | h0
          · subst h0; exact absurd rfl h
          · exact h0)) hRs (rules_size hn24)
        rw [rulesL_len] at this
        exact this
      have HN24 := Lib.hid hn24
      clear hRs hn24 hA1 hRu hg1
      go_wp2_with fail
      refine KN.mono ?_
      rintro e w3 ⟨hb3, ⟨-, L, rfl, hP⟩ | ⟨hno, -⟩⟩
      rotate_left
      · exact absurd (rules_good HN24.out) hno
      have HP := Lib.hid hP
      have HB3 := Lib.hid hb3
      have KP := plain_any (A := A1) (c := c1) HN24.out HRu.out.1 (HRu.out.2.1.later hb3) (fun h => Nat.lt_of_lt_of_le (HRu.out.2.2 h).2 hb3.size)
      clear hP hb3 KN
      go_wp2_with fail
      refine KP.mono ?_
      rintro e w4 ⟨v4, rfl, hown4, hb4⟩
      obtain ⟨A4, c4, g4, rfl, hA4, hRu4, hg4⟩ := ruR_ex hown4
      have KR := rnew_any (A := A4) (c := c4) HN24.out hA4 hRu4 (fun h => (hg4 h).2)
      have HB4 := Lib.hid hb4
      clear hown4 hb4 hA4 hRu4 hg4 KP
      go_wp2_with fail
      refine KR.mono ?_
      rintro e w5 ⟨cv, rfl, hRN⟩
      have HRN := Lib.hid hRN
      clear hRN KR
      have n1 : ∀ w, (binOp .eql 27 (.pointer (some ⟨L.G, 0, none⟩)) (.pointer none)).run Tryd.prog w = .ok (.bool false) w := fun w => by kernel_rfl
      have n2 : ∀ w, (binOp .eql 31 (.pointer (some ⟨w4.heap.size, 0, none⟩)) (.pointer none)).run Tryd.prog w = .ok (.bool false) w := fun w => by kernel_rfl
      have hgr5 := HP.out.gr.later (HB4.out.trans (HRN.out.below.mono HB4.out.size))
      have KS := Lib.hid (Set_any hgr5 (by omega) (n := ⟨#[120]⟩) (t := t) (by decide +kernel))
      have HG5 := Lib.hid hgr5
      clear hgr5
      go_wp2_with fail
      refine KS.out.mono ?_
      rintro e w6 ⟨L6, hG6, rfl, hg6, hs6⟩
      have hset : setC (newE (rulesL n)) ⟨#[120]⟩ t = 0 := by
        unfold setC
        rw [if_neg (by rw [find_x]; simp), if_neg (by have := HTs.out; omega)]
      have hEe : setsE (newE (rulesL n)) ⟨#[120]⟩ t = chE n t := by unfold setsE; rw [if_pos hset]; rfl
      rw [hEe] at hg6 hs6
      have hS6 := Lib.hid (long_set1 HMk.out HB3.out HP.out HB4.out HRN.out hs6)
      have HG6 := Lib.hid hg6
      have hrm := hS6.out.rm
      have KW := Lib.hid (rset_any (t := t) HN24.out (by have := HTs.out; omega) hS6.out.rm (Nat.lt_succ_self _) hS6.out.refs hS6.out.ne)
      clear hg6 hs6 KS n1 n2 hset hEe hrm
      go_wp2_with fail
      refine KW.out.mono ?_
      rintro e w7 ⟨rfl, hkp, L2, hL2, hrb2, hcv2, hnb, htb, hrg⟩
      have HS7 := Lib.hid (long_set2 hS6.out HG6.out hkp hL2 hrb2 hcv2 hnb htb hrg)
      have KA := Lib.hid (Ask_any HS7.out.gr (by omega) (a := lastN n) (by have := last_size n; omega))
      rw [hG6] at KA
      clear hkp hnb htb hrg KW
      go_wp2_with fail
      refine KA.out.mono ?_
      rintro e w8 ⟨s8, av8, rfl, hg8, hs8, -⟩
      rw [Vw_chain HN24.out n (Nat.le_refl n)]
      have HS8 := Lib.hid (long_ask HS7.out hs8)
      have KB := Lib.hid ((rask_any n).ok L2 n t (fun _ => rc0) [] (.slice none 0 0) w8 HN24.out (by have := HTs.out; omega) ⟨HS8.out.1, .inl (fun _ _ => rfl), fun _ _ h => (by cases h), by have := HN24.out; simp; omega, Nat.le_refl _⟩)
      rw [hL2] at KB
      clear hg8 hs8 KA
      go_wp2_with fail
      refine KB.out.mono ?_
      rintro e w9 ⟨xs9, uv9, rfl, -, -, -, hf9⟩
      have HB9 : Hid (Below W.heap.size W w9) := Lib.hid (below_fi HS8.out.2.1 hf9 HS8.out.2.2)
      clear hf9 KB
      have ts : ((valN t n).t.toList == (valN t n).t.toList) = true := by simp
      have te : ((valN t n).e == (valN t n).e) = true := by simp
      go_wp2_with fail
      go_ret
      exact ⟨rfl, HB9.out.alloc HB9.out.size _⟩
end Go.Proofs.YtjcaeoacgoklmaaDoor
