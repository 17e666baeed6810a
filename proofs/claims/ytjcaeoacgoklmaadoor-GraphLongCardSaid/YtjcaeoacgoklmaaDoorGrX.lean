import Derived.Test.YtjcaeoacgoklmaaDoorGrW
import Derived.LoopTactic
import Derived.BigQuiet
namespace Go.Proofs.YtjcaeoacgoklmaaDoor
open Go.RowKit
def RulesAt (W : World) (b o : Nat) (l : List Rule) (A : Nat → Option Addr) (c : Nat → Nat) : Prop := ∀ i r, l[i]? = some r → RuleAt W b (o + i * 4) r (A i) (c i)
theorem RulesAt.later {W W' : World} {b o : Nat} {l : List Rule} {A : Nat → Option Addr} {c : Nat → Nat} (h : RulesAt W b o l A c) (hb : Below W.heap.size W W') : RulesAt W' b o l A c := fun i r hi => (h i r hi).later hb
def okB (r : Rule) : Bool := r.kind == 1 || r.kind == 2 && decide (3 ≤ r.refs.length) || r.kind == 3 && decide (1 ≤ r.refs.length) || r.kind == 4 && decide (2 ≤ r.refs.length)
theorem okB_iff (r : Rule) : okB r = true ↔ okR r := by unfold okB okR; simp [or_assoc]
def Names (l : List Rule) : Prop := (l.map (·.name)).Nodup
def RGood (l : List Rule) : Prop := (∀ r ∈ l, okR r) ∧ Names l
/-- What New hands back. -/
structure NewP (l : List Rule) (L : Lay) (W W' : World) : Prop where
  gr : Gr L (newE l) st0 avN 0 W'
  I : L.I = none
  foot : ∀ k, Foot L l.length avN k → W.heap.size ≤ k
  stat : ∀ k, Stat L (newE l) k → W.heap.size ≤ k ∨ Table k
def NewPost (l : List Rule) (W : World) : Ending → World → Prop := fun e W' => Below W.heap.size W W' ∧ ((RGood l ∧ ∃ L, e = .returned (.tuple #[.pointer (some ⟨L.G, 0, none⟩), .int .i64 0]) ∧ NewP l L W W') ∨ (¬ RGood l ∧ ∃ x : Int, x ≠ 0 ∧ e = .returned (.tuple #[.pointer none, .int .i64 x])))
theorem names_dist {l : List Rule} (h : Names l) : Dist (newE l) := by
  intro i hi
  have hi : i < l.length := hi
  unfold findR
  rw [List.findIdx?_eq_some_iff_getElem]
  have hn : nameN (newE l) i = l[i].name := by
    unfold nameN ruleN newE
    rw [List.getD_eq_getElem?_getD, List.getElem?_eq_getElem hi]
    rfl
  refine ⟨hi, by rw [hn]; simp [newE], fun j hj => ?_⟩
  rw [hn]
  have hnd := h
  unfold Names at hnd
  rw [List.nodup_iff_pairwise_ne, List.pairwise_iff_getElem] at hnd
  have := hnd j i (by rw [List.length_map]; omega) (by rw [List.length_map]; exact hi) hj
  have h3 : ¬ l[j].name = l[i].name := by simpa [newE] using this
  exact fun e => h3 (of_decide_eq_true e)
theorem find_none {l : List Rule} {a : ByteArray} : findR (newE l) a = none ↔ ∀ r ∈ l, r.name ≠ a := by
  unfold findR newE
  rw [List.findIdx?_eq_none_iff]
  simp
theorem take_snoc {l : List Rule} {k : Nat} (h : k < l.length) : l.take (k + 1) = l.take k ++ [l[k]] := by
  rw [List.take_add_one, List.getElem?_eq_getElem h]
  rfl
theorem names_snoc {l : List Rule} {r : Rule} (h : Names l) (hn : findR (newE l) r.name = none) : Names (l ++ [r]) := by
  unfold Names at h ⊢
  rw [List.map_append, List.nodup_append]
  refine ⟨h, by simp, fun a ha b hb => ?_⟩
  simp only [List.map_cons, List.map_nil, List.mem_cons, List.not_mem_nil, or_false] at hb
  obtain ⟨x, hx, rfl⟩ := List.mem_map.1 ha
  rw [hb]
  exact find_none.1 hn x hx
theorem names_take {l : List Rule} {k : Nat} (hk : k < l.length) {i : Nat} (h : findR (newE (l.take k)) l[k].name = some i) : ¬ Names l := by
  intro hn
  have hlt := findR_lt h
  have hname := findR_name h
  have hl : (newE (l.take k)).rules.length = (l.take k).length := rfl
  rw [hl, List.length_take] at hlt
  have hi : i < k := by omega
  unfold Names at hn
  rw [List.nodup_iff_pairwise_ne, List.pairwise_iff_getElem] at hn
  have h1 := hn i k (by rw [List.length_map]; omega) (by rw [List.length_map]; exact hk) hi
  apply h1
  rw [List.getElem_map, List.getElem_map, ← hname]
  unfold ruleN newE
  rw [List.getD_eq_getElem?_getD, List.getElem?_take_of_lt hi, List.getElem?_eq_getElem (by omega)]
  rfl
structure Loop2 (l : List Rule) (W wq wr : World) (k : Nat) (L : Lay) : Prop where
  G : L.G = wq.heap.size + 1
  M : L.M = wq.heap.size
  I : L.I = none
  mem : Mem L (newE (l.take k)) st0 avN wr
  map : MapIs nodeMK wr L.M k (fun a => (findR (newE (l.take k)) a).map fun i => some (L.nb i))
  below : Below W.heap.size W wr
  names : Names (l.take k)
  foot : ∀ k', Foot L (l.take k).length avN k' → W.heap.size ≤ k'
  stat : ∀ k', Stat L (newE (l.take k)) k' → W.heap.size ≤ k' ∨ Table k'
  rbM : ∀ i, i < (l.take k).length → 0 < (ruleN (newE (l.take k)) i).refs.length → L.rb i ≠ L.M
/-- Sizes of rules that are looked at. -/
def RSize (l : List Rule) : Prop := l.length ≤ 200 ∧ ∀ r ∈ l, r.refs.length ≤ 100000 ∧ r.text.size ≤ 262144 ∧ r.name.size ≤ 1000000000000000 ∧ ∀ a ∈ r.refs, a.size ≤ 1000000000000000
theorem envok_new {l : List Rule} (h : RSize l) (hg : RGood l) : EnvOk (newE l) := ⟨h.1, fun r hr => ⟨hg.1 r hr, (h.2 r hr).1, (h.2 r hr).2.1, (h.2 r hr).2.2.1, (h.2 r hr).2.2.2⟩, fun s t hs => by simp [newE] at hs⟩
theorem hyg0 : Hyg st0 := fun _ => ⟨by show (0 : Nat) ≤ _; decide, fun _ h => (by cases h), fun _ h => (by cases h), by show (0 : Nat) ≤ _; decide⟩
theorem keep5 {G b : Nat} {v0 v1 v2 v3 v4 : Value} {w : World} (o : Obj) (h : w.cell? ⟨G, 0, none⟩ = some v0 ∧ w.cell? ⟨b, 0, none⟩ = some v1 ∧ w.cell? ⟨b, 1, none⟩ = some v2 ∧ w.cell? ⟨b, 2, none⟩ = some v3 ∧ w.cell? ⟨b, 3, none⟩ = some v4) : (w.alloc o).cell? ⟨G, 0, none⟩ = some v0 ∧ (w.alloc o).cell? ⟨b, 0, none⟩ = some v1 ∧ (w.alloc o).cell? ⟨b, 1, none⟩ = some v2 ∧ (w.alloc o).cell? ⟨b, 2, none⟩ = some v3 ∧ (w.alloc o).cell? ⟨b, 3, none⟩ = some v4 :=
  ⟨cell_alloc_of o h.1, cell_alloc_of o h.2.1, cell_alloc_of o h.2.2.1, cell_alloc_of o h.2.2.2.1, cell_alloc_of o h.2.2.2.2⟩
set_option maxRecDepth 100000 in
set_option maxHeartbeats 8000000 in
theorem new_any {W : World} {l : List Rule} {b o cap : Nat} {a0 : Option Addr} {A : Nat → Option Addr} {c : Nat → Nat} (hT : TabG W) (hTl : ∀ k, Table k → k < W.heap.size) (ha : l ≠ [] → a0 = some ⟨b, o, none⟩) (hR : RulesAt W b o l A c) (hs : RSize l) :
    Calls Tryd.prog 5 #[.slice a0 l.length cap] W (NewPost l W) := by
  have HR := Lib.hid (fun wx (hb : Below W.heap.size W wx) => hR.later hb)
  have HT := Lib.hid hT
  have HTl := Lib.hid hTl
  have HA := Lib.hid ha
  have HS := Lib.hid hs
  have hl200 := hs.1
  have B0 := Lib.hid (Below.refl W.heap.size W)
  have hmm := @run_makeMap Tryd.prog
  have nq : ∀ (p : Option Addr) (w : World), (binOp .neq 49 (.pointer p) (.pointer none)).run Tryd.prog w = .ok (.bool p.isSome) w := fun p w => by cases p <;> kernel_rfl
  obtain ⟨n, hn⟩ : ∃ n, l.length = n := ⟨_, rfl⟩
  rw [hn] at hl200 ⊢
  have HN := Lib.hid hn
  clear hT hTl ha hR hs hn
  go_enter Tryd.func5, Tryd.ntmps5
  go_wp2_with fail
  go_loopw [11] (fun v wr => ∃ j : Nat, j ≤ n ∧ v = .int .i64 j ∧ Below W.heap.size W wr ∧ ∀ i r, i < j → l[i]? = some r → okR r) (fun v _ => n - (intOf v).toNat)
  case atStart => exact ⟨0, by omega, rfl, B0.out, fun i r hi => absurd hi (by omega)⟩
  case round =>
    obtain ⟨j, hj, rfl, hb, hok⟩ := hrel
    have HB := Lib.hid hb
    have HOk := Lib.hid hok
    clear hb hok
    by_cases hlt : j < n
    · have tj : decide ((j : Int) < (n : Int)) = true := by simp; omega
      have hjl : j < l.length := by rw [HN.out]; exact hlt
      obtain rfl := HA.out (fun e => by rw [e] at hjl; simp at hjl)
      obtain ⟨r, hrr⟩ : ∃ r, l[j]? = some r := ⟨_, List.getElem?_eq_getElem hjl⟩
      have hr := HR.out wr HB.out j _ hrr
      have HRr := Lib.hid hrr
      have x0 := hr.name
      have x1 := hr.kind
      have x2 := hr.refs
      have x3 := hr.text
      have ij : (0 : Int) ≤ (j : Int) := by omega
      have HB2 := Lib.hid (HB.out.alloc HB.out.size (.cells #[.string r.name, .int .i64 r.kind, .slice (A j) r.refs.length (c j), .string r.text] 26))
      clear hr hjl hrr
      go_wp2_with fail
      refine (right_any r (A j) (c j) _).mono ?_
      rintro e W3 ⟨⟨q, hq, rfl⟩, hb3⟩
      have HB3 := Lib.hid (below_step HB2.out hb3)
      have HQ := Lib.hid hq
      clear hb3 hq
      cases q with
      | true =>
        go_wp2_with fail
        refine ⟨⟨j + 1, hlt, by simp, HB3.out, fun i r' hi hr' => ?_⟩, by simp [intOf]; omega⟩
        by_cases e : i = j
        · subst e
          rw [HRr.out] at hr'
          injection hr' with hr'
          subst hr'
          exact HQ.out.1 trivial
        · exact HOk.out i r' (by omega) hr'
      | false =>
        go_wp2_with fail
        go_ret2
        refine ⟨HB3.out, .inr ⟨fun hg => ?_, 4, by decide, rfl⟩⟩
        have := HQ.out.2 (hg.1 r (List.mem_of_getElem? HRr.out))
        cases this
    · obtain rfl : j = n := by omega
      have tj : decide ((j : Int) < (j : Int)) = false := by simp
      go_wp2_with fail
      have HWr := Lib.hid HB.out.size
      have HTw := Lib.hid (tab_keep HT.out fun g hg => HB.out.block g (HTl.out g hg))
      have HX0 := Lib.hid (((Below.refl wr.heap.size wr).alloc (Nat.le_refl _) (.map #[] 0)).alloc (by simp) (.cells #[.map (some wr.heap.size), .map none, .int .i64 0, .int .i64 0] 48))
      have HStart : Hid (∃ L : Lay, L.G = wr.heap.size + 1 ∧ L.M = wr.heap.size ∧ L.I = none ∧ Mem L (newE []) st0 avN ((wr.alloc (.map #[] 0)).alloc (.cells #[.map (some wr.heap.size), .map none, .int .i64 0, .int .i64 0] 48))) := Lib.hid ⟨_, rfl, rfl, rfl, Mem.start (tab_keep HTw.out fun g hg => HX0.out.block g (Nat.lt_of_lt_of_le (HTl.out g hg) HWr.out)) (by have := heap_alloc_new (wr.alloc (.map #[] 0)) (.cells #[.map (some wr.heap.size), .map none, .int .i64 0, .int .i64 0] 48); rw [World.size_alloc] at this; exact this) ((MapIs.new nodeMK wr).later ((Below.refl _ _).alloc (Nat.le_refl _) _)) (by omega) (fun k hk => by have := HTl.out k hk; have := HWr.out; simp; omega)⟩
      have HMap0 := Lib.hid ((MapIs.new nodeMK wr).later ((Below.refl _ _).alloc (Nat.le_refl _) (.cells #[.map (some wr.heap.size), .map none, .int .i64 0, .int .i64 0] 48)))
      obtain ⟨wq, hwq⟩ : ∃ wq, wq = wr := ⟨_, rfl⟩
      subst hwq
      go_loopw [24] (fun v wr => ∃ (k : Nat) (L : Lay), k ≤ j ∧ v = .int .i64 k ∧ Loop2 l W wq wr k L) (fun v _ => j - (intOf v).toNat)
      case atStart =>
        obtain ⟨L, hG, hM, hI, hm⟩ := HStart.out
        have hf0 : (fun a => (findR (newE (l.take 0)) a).map fun i => some (L.nb i)) = fun _ => none := by
          funext a
          rw [List.take_zero, find_none.2 (fun r hr => by cases hr)]
          rfl
        refine ⟨0, L, by omega, rfl, hG, hM, hI, by rw [List.take_zero]; exact hm, by rw [hM, hf0]; exact HMap0.out, below_step HB.out HX0.out, by simp [Names], fun k' hk => ?_, fun k' hk => ?_, fun i hi => absurd hi (by simp)⟩
        · rw [foot_new] at hk
          rcases hk with rfl | ⟨i, hi, _⟩
          · rw [hG]; have := HWr.out; omega
          · exact absurd hi (by simp)
        · rcases hk with rfl | hk | ⟨i, hi, _⟩ | hk
          · rw [hM]; exact .inl HWr.out
          · rw [hI] at hk; cases hk
          · exact absurd hi (by simp [newE])
          · exact .inr hk
      case round =>
        obtain ⟨k, L, hk, rfl, hL⟩ := hrel
        have HL := Lib.hid hL
        clear hL
        by_cases hlt : k < j
        · have tk : decide ((k : Int) < (j : Int)) = true := by simp; omega
          have hkl : k < l.length := by rw [HN.out]; exact hlt
          obtain rfl := HA.out (fun e => by rw [e] at hkl; simp at hkl)
          obtain ⟨r, hrr⟩ : ∃ r, l[k]? = some r := ⟨_, List.getElem?_eq_getElem hkl⟩
          have hr := HR.out wr HL.out.below k _ hrr
          have HRr := Lib.hid hrr
          have HAt := Lib.hid hr.at_
          have x0 := hr.name
          have x1 := hr.kind
          have x2 := hr.refs
          have x3 := hr.text
          have ik : (0 : Int) ≤ (k : Int) := by omega
          have hbA := (Below.refl wr.heap.size wr).alloc (Nat.le_refl _) (.cells #[.string r.name, .int .i64 r.kind, .slice (A k) r.refs.length (c k), .string r.text] 26)
          have g0 : ∀ q, (((wr.alloc (.cells #[.string r.name, .int .i64 r.kind, .slice (A k) r.refs.length (c k), .string r.text] 26))).drewN q).cell? ⟨wq.heap.size + 1, 0, none⟩ = some (.map (some wq.heap.size)) := fun q => by
            have := (HL.out.mem.later (below_drewN hbA q)).cellG 0
            rw [HL.out.G, HL.out.M] at this
            exact this
          have lo : ∀ q, (Instr.lookup 45 (.map (some wq.heap.size)) (.string r.name) false).run Tryd.prog (((wr.alloc (.cells #[.string r.name, .int .i64 r.kind, .slice (A k) r.refs.length (c k), .string r.text] 26))).drewN q) = .ok (.pointer (((findR (newE (l.take k)) r.name).map fun i => (⟨L.nb i, 0, none⟩ : Addr)))) (((wr.alloc (.cells #[.string r.name, .int .i64 r.kind, .slice (A k) r.refs.length (c k), .string r.text] 26))).drewN q) := fun q => by
            have := (HL.out.map.later (below_drewN hbA q)).look1 r.name (Nat.le_trans (HS.out.2 r (List.mem_of_getElem? HRr.out)).2.2.1 (by decide))
            rw [HL.out.M] at this
            cases hf : findR (newE (l.take k)) r.name with
            | none => rw [hf] at this; exact this
            | some i => rw [hf] at this; exact this
          have HbA := Lib.hid hbA
          clear hr hkl hrr hbA
          go_wp2_with fail
          go_quiet (fail)
          cases hf : findR (newE (l.take k)) r.name with
          | some i =>
            have HFi := Lib.hid hf
            have HbB := Lib.hid (below_drewN (below_step HL.out.below HbA.out) nq)
            clear lo hf HbA
            go_wp2_with fail
            go_ret2
            refine ⟨HbB.out, .inr ⟨fun hg => ?_, 6, by decide, rfl⟩⟩
            have h1 := HFi.out
            have hkl : k < l.length := by rw [HN.out]; exact hlt
            have e : r = l[k] := by have := HRr.out; rw [List.getElem?_eq_getElem hkl] at this; injection this with this; exact this.symm
            rw [e] at h1
            exact names_take hkl h1 hg.2
          | none =>
            have HFi := Lib.hid hf
            obtain ⟨Y, hY⟩ : ∃ Y, Y = ((wr.alloc (.cells #[.string r.name, .int .i64 r.kind, .slice (A k) r.refs.length (c k), .string r.text] 26))).drewN nq := ⟨_, rfl⟩
            have hbY : Below wr.heap.size wr Y := hY ▸ below_drewN HbA.out nq
            have hYs : Y.heap.size = wr.heap.size + 1 := by rw [hY]; simp
            have hYb : Y.heap[wr.heap.size]? = some (.cells #[.string r.name, .int .i64 r.kind, .slice (A k) r.refs.length (c k), .string r.text] 26 (0, 0)) := by rw [hY]; exact heap_alloc_new wr _
            rw [← hY]
            clear lo hf HbA g0 hY
            have y2 : Y.cell? ⟨wr.heap.size, 2, none⟩ = some (.slice (A k) r.refs.length (c k)) := Lib.cell_of_heap hYb 2
            have KC := clone_refs r.refs (A k) (c k) Y (HAt.out.later hbY) (HS.out.2 r (List.mem_of_getElem? HRr.out)).1
            have HY := Lib.hid (And.intro hbY (And.intro hYs hYb))
            clear hbY hYs hYb
            go_wp2_with fail
            refine KC.mono ?_
            rintro e W3 ⟨A2, c2, rfl, hb3, rb, ro, hrb, href⟩
            have hB3 : W3.heap[wr.heap.size]? = some (.cells #[.string r.name, .int .i64 r.kind, .slice (A k) r.refs.length (c k), .string r.text] 26 (0, 0)) := (hb3.block _ (by rw [HY.out.2.1]; omega)).trans HY.out.2.2
            have w2 : W3.cell? ⟨wr.heap.size, 2, none⟩ = some (.slice (A k) r.refs.length (c k)) := Lib.cell_of_heap hB3 2
            have wz := Lib.frozen_of_heap hB3
            have HB3 := Lib.hid (And.intro hb3 hB3)
            have HRef := Lib.hid (And.intro hrb href)
            clear hb3 hB3 hrb href
            go_wp2_with fail
            obtain ⟨W4, hW4⟩ : ∃ W4, W4 = (W3.setCell ⟨wr.heap.size, 2, none⟩ (.slice A2 r.refs.length c2)) := ⟨_, rfl⟩
            have hb4 : Below wr.heap.size wr W4 := by
              rw [hW4]
              exact (HY.out.1.trans (HB3.out.1.mono (by rw [HY.out.2.1]; omega))).setCell (Nat.le_refl _) _
            have hbox4 : W4.heap[wr.heap.size]? = some (.cells #[.string r.name, .int .i64 r.kind, .slice A2 r.refs.length c2, .string r.text] 26 (0, 0)) := by rw [hW4, set_block HB3.out.2]; rfl
            have hM4 : L.M ≠ wr.heap.size := fun e => by have := HL.out.map.lt; omega
            have hs4 : wr.heap.size < W4.heap.size := blk_lt hbox4
            have hmp4 : MapIs nodeMK (W4.alloc (.cells (ndCells r A2 c2 nd0 (.slice none 0 0)) 55)).drew wq.heap.size k (fun a => (findR (newE (l.take k)) a).map fun i => some (L.nb i)) := by
              rw [← HL.out.M]
              exact HL.out.map.later ((hb4.alloc (by omega) _).drew)
            obtain ⟨w6, hrun, hmap6, hgr6⟩ := hmp4.put (by omega) r.name (Nat.le_trans (HS.out.2 r (List.mem_of_getElem? HRr.out)).2.2.1 (by decide)) (some W4.heap.size)
            have hrun : (Instr.mapUpdate 45 (.map (some wq.heap.size)) (.string r.name) (.pointer (some ⟨W4.heap.size, 0, none⟩))).run Tryd.prog (W4.alloc (.cells #[.string r.name, .int .i64 r.kind, .slice A2 r.refs.length c2, .string r.text, .int .i64 0, .bool false, .bool false, .int .i64 0, .slice none 0 0, .string ⟨#[]⟩, .int .i64 0] 55)).drew = .ok () w6 := hrun
            have hblk6 : ∀ x, x < W4.heap.size → x ≠ wq.heap.size → w6.heap[x]? = W4.heap[x]? := fun x hx hx2 => by
              rw [hgr6.block x (by simp; omega) (fun e => by injection e with e; exact hx2 e)]
              exact ((Below.refl W4.heap.size W4).alloc (Nat.le_refl _) _).drew.block x hx
            have hbox6 : w6.heap[wr.heap.size]? = some (.cells #[.string r.name, .int .i64 r.kind, .slice A2 r.refs.length c2, .string r.text] 26 (0, 0)) := (hblk6 _ hs4 (fun e => hM4 (by rw [HL.out.M]; exact e.symm))).trans hbox4
            have hG6 : w6.cell? ⟨wq.heap.size + 1, 0, none⟩ = some (.map (some wq.heap.size)) := by
              have h1 := (HL.out.mem.later hb4).cellG 0
              have h2 := blk_lt (HL.out.mem.later hb4).g
              rw [HL.out.G, HL.out.M] at h1
              rw [HL.out.G] at h2
              exact (World.cell?_of_block (w := W4) (a := ⟨wq.heap.size + 1, 0, none⟩) (hblk6 _ h2 (show wq.heap.size + 1 ≠ wq.heap.size by omega))).trans h1
            have Q6 := Lib.hid (And.intro hG6 (And.intro (Lib.cell_of_heap hbox6 0) (And.intro (Lib.cell_of_heap hbox6 1) (And.intro (Lib.cell_of_heap hbox6 2) (Lib.cell_of_heap hbox6 3)))))
            have HBk := Lib.hid hblk6
            clear hblk6 hbox6 hG6
            have HW4 := Lib.hid (And.intro hW4 (And.intro hb4 (And.intro hs4 hbox4)))
            have H6 := Lib.hid (And.intro hmap6 hgr6)
            have q0 : W4.drew.cell? ⟨wq.heap.size + 1, 0, none⟩ = some (.map (some wq.heap.size)) := by
              have := (HL.out.mem.later hb4.drew).cellG 0
              rw [HL.out.G, HL.out.M] at this
              exact this
            have q1 : W4.drew.cell? ⟨wr.heap.size, 0, none⟩ = some (.string r.name) := Lib.cell_of_heap (w := W4.drew) hbox4 0
            have q2 : W4.drew.cell? ⟨wr.heap.size, 1, none⟩ = some (.int .i64 r.kind) := Lib.cell_of_heap (w := W4.drew) hbox4 1
            have q3 : W4.drew.cell? ⟨wr.heap.size, 2, none⟩ = some (.slice A2 r.refs.length c2) := Lib.cell_of_heap (w := W4.drew) hbox4 2
            have q4 : W4.drew.cell? ⟨wr.heap.size, 3, none⟩ = some (.string r.text) := Lib.cell_of_heap (w := W4.drew) hbox4 3
            have QQ := Lib.hid (And.intro q0 (And.intro q1 (And.intro q2 (And.intro q3 q4))))
            rw [← hW4]
            clear hb4 hs4 hmap6 hgr6 hW4 w2 wz hbox4 hM4 hmp4 y2
            refine wp_region_held_drew (S := (fun w' => w'.cell? ⟨wq.heap.size + 1, 0, none⟩ = some (.map (some wq.heap.size)) ∧ w'.cell? ⟨wr.heap.size, 0, none⟩ = some (.string r.name) ∧ w'.cell? ⟨wr.heap.size, 1, none⟩ = some (.int .i64 r.kind) ∧ w'.cell? ⟨wr.heap.size, 2, none⟩ = some (.slice A2 r.refs.length c2) ∧ w'.cell? ⟨wr.heap.size, 3, none⟩ = some (.string r.text))) (by kernel_rfl) QQ.out (fun hHeld => ?_)
            refine wpAnyH_take (i := 0) (v := ?_) (show _ = some { dst := some 40, op := _, type := _, pos := _, after := _, guard := _ } from rfl) (by kernel_rfl) (by kernel_rfl) (by kernel_rfl) (fun _ _ _ h => h) (Or.inl ⟨by rfl, ?_⟩) hHeld ?_
            rotate_left
            · intro w' hSw
              (try dsimp only at hSw)
              go_simp
              try with_reducible rfl
            try simp only [Act.put, List.setIfInBounds_toArray, List.set_cons_zero, List.set_cons_succ]
            refine wpAnyH_take (i := 1) (v := ?_) (show _ = some { dst := some 41, op := _, type := _, pos := _, after := _, guard := _ } from rfl) (by kernel_rfl) (by kernel_rfl) (by kernel_rfl) (fun _ _ _ h => h) (Or.inl ⟨by rfl, ?_⟩) hHeld ?_
            rotate_left
            · intro w' hSw
              (try dsimp only at hSw)
              go_simp
              try with_reducible rfl
            try simp only [Act.put, List.setIfInBounds_toArray, List.set_cons_zero, List.set_cons_succ]
            refine wpAnyH_take (i := 2) (v := ?_) (show _ = some { dst := some 42, op := _, type := _, pos := _, after := _, guard := _ } from rfl) (by kernel_rfl) (by kernel_rfl) (by kernel_rfl) (fun _ _ _ h => h) (Or.inl ⟨by rfl, ?_⟩) hHeld ?_
            rotate_left
            · intro w' hSw
              (try dsimp only at hSw)
              go_simp
              try with_reducible rfl
            try simp only [Act.put, List.setIfInBounds_toArray, List.set_cons_zero, List.set_cons_succ]
            refine wpAnyH_take (i := 3) (v := ?_) (show _ = some { dst := some 43, op := _, type := _, pos := _, after := _, guard := _ } from rfl) (by kernel_rfl) (by kernel_rfl) (by kernel_rfl) (fun _ _ _ h => h) (Or.inl ⟨by rfl, ?_⟩) hHeld ?_
            rotate_left
            · intro w' hSw
              (try dsimp only at hSw)
              go_simp
              try with_reducible rfl
            try simp only [Act.put, List.setIfInBounds_toArray, List.set_cons_zero, List.set_cons_succ]
            refine wpAnyH_take (i := 4) (v := ?_) (show _ = some { dst := some 44, op := _, type := _, pos := _, after := _, guard := _ } from rfl) (by kernel_rfl) (by kernel_rfl) (by kernel_rfl) (fun _ _ _ h => h) (Or.inl ⟨by rfl, ?_⟩) hHeld ?_
            rotate_left
            · intro w' hSw
              (try dsimp only at hSw)
              go_simp
              try with_reducible rfl
            try simp only [Act.put, List.setIfInBounds_toArray, List.set_cons_zero, List.set_cons_succ]
            refine wpAnyH_take (i := 5) (v := ?_) (show _ = some { dst := some 45, op := _, type := _, pos := _, after := _, guard := _ } from rfl) (by kernel_rfl) (by kernel_rfl) (by kernel_rfl) (fun _ _ _ h => h) (Or.inl ⟨by rfl, ?_⟩) hHeld ?_
            rotate_left
            · intro w' hSw
              (try dsimp only at hSw)
              go_simp
              try with_reducible rfl
            try simp only [Act.put, List.setIfInBounds_toArray, List.set_cons_zero, List.set_cons_succ]
            refine wpAnyH_take (i := 6) (v := ?_) (show _ = some { dst := some 46, op := _, type := _, pos := _, after := _, guard := _ } from rfl) (by kernel_rfl) (by kernel_rfl) (by kernel_rfl) (fun _ _ _ h => h) (Or.inl ⟨by rfl, ?_⟩) hHeld ?_
            rotate_left
            · intro w' hSw
              (try dsimp only at hSw)
              go_simp
              try with_reducible rfl
            try simp only [Act.put, List.setIfInBounds_toArray, List.set_cons_zero, List.set_cons_succ]
            refine wpAnyH_take (i := 7) (v := ?_) (show _ = some { dst := some 47, op := _, type := _, pos := _, after := _, guard := _ } from rfl) (by kernel_rfl) (by kernel_rfl) (by kernel_rfl) (fun _ _ _ h => h) (Or.inl ⟨by rfl, ?_⟩) hHeld ?_
            rotate_left
            · intro w' hSw
              (try dsimp only at hSw)
              go_simp
              try with_reducible rfl
            try simp only [Act.put, List.setIfInBounds_toArray, List.set_cons_zero, List.set_cons_succ]
            refine wpAnyH_ready (rs := [8]) (by kernel_rfl) (by simp) ?_
            refine AllReadyH.cons (show _ = some { dst := some 48, op := _, type := _, pos := _, after := _, guard := _ } from rfl) (fun K hK => ?_) AllReadyH.nil
            go_simp
            refine hK.out _ _ (keep5 _ hHeld) (fun hHeld => ?_)
            clear hK K
            try simp only [Act.put, List.setIfInBounds_toArray, List.set_cons_zero, List.set_cons_succ]
            refine wpAnyH_ready (rs := [9]) (by kernel_rfl) (by simp) ?_
            refine AllReadyH.cons (show _ = some { dst := none, op := _, type := _, pos := _, after := _, guard := _ } from rfl) (fun K hK => ?_) AllReadyH.nil
            go_simp
            refine hK.out _ _ (Q6.out) (fun hHeld => ?_)
            clear hK K
            try simp only [Act.put, List.setIfInBounds_toArray, List.set_cons_zero, List.set_cons_succ]
            refine wpAnyH_done (by kernel_rfl) ?_ _
            clear hHeld
            go_wp2_with fail
            obtain ⟨hW4, hb4, hs4, hbox4⟩ := HW4.out
            obtain ⟨hmap6, hgr6⟩ := H6.out
            obtain ⟨hrb, href⟩ := HRef.out
            have hkl : k < l.length := by rw [HN.out]; exact hlt
            have e : r = l[k] := by have := HRr.out; rw [List.getElem?_eq_getElem hkl] at this; injection this with this; exact this.symm
            have htk : l.take (k + 1) = l.take k ++ [r] := by rw [take_snoc hkl, e]
            have hlk : (l.take k).length = k := by rw [List.length_take]; omega
            have hs6 : W4.heap.size < w6.heap.size := by have := hgr6.size; simp at this; omega
            have hMs : wq.heap.size < wr.heap.size := by have := HL.out.map.lt; rw [HL.out.M] at this; exact this
            have hY1 := HY.out.2.1
            have hs34 : W4.heap.size = W3.heap.size := by rw [hW4, set_size]
            have hb6 : Below W.heap.size W w6 := by
              have h1 : Below W.heap.size W W4 := below_step HL.out.below hb4
              refine ⟨hgr6.os.trans h1.os, hgr6.tape.trans h1.tape, hgr6.output.trans h1.output, by have := h1.size; omega, fun x hx => ?_⟩
              rw [HBk.out x (by have := h1.size; omega) (by have := HWr.out; omega)]
              exact h1.block x hx
            have hadd := HL.out.mem.add HL.out.I HFi.out (nb := W4.heap.size) (rb := rb) (ro := ro) (c := c2) (A := A2) (W' := w6) (by omega) hs6 (by
                rw [hgr6.block W4.heap.size (by simp) (fun e => by injection e with e; omega)]
                show (W4.alloc _).heap[W4.heap.size]? = _
                rw [heap_alloc_new]) (by rw [HL.out.M]; exact hmap6.more (by omega)) (fun x hx hx2 => by
                rw [HL.out.M] at hx2
                rw [HBk.out x (by omega) hx2]
                exact hb4.block x hx) (fun h0 => by have := hrb h0; omega) (fun q a hq => by
                obtain ⟨z1, z2⟩ := href q a hq
                refine ⟨z1, ?_⟩
                have hq0 : 0 < r.refs.length := Nat.lt_of_le_of_lt (Nat.zero_le q) (List.getElem?_eq_some_iff.1 hq).1
                have h9 := hrb hq0
                rw [World.cell?_of_block (w := W4) (a := ⟨rb, ro + q, none⟩) (HBk.out rb (by omega) (by omega)), hW4, World.cell?_of_block (w := W3) (a := ⟨rb, ro + q, none⟩) (set_else _ (show rb ≠ wr.heap.size by omega))]
                exact z2) HL.out.rbM (fun x hx => by have := HTl.out x hx; have := HWr.out; rw [HL.out.M]; omega)
            refine ⟨⟨k + 1, addL L (l.take k).length W4.heap.size A2 c2 rb ro, hlt, by simp, HL.out.G, HL.out.M, HL.out.I, by rw [htk]; exact hadd, ?_, hb6, by rw [htk]; exact names_snoc HL.out.names HFi.out, fun x hx => ?_, fun x hx => ?_, fun i hi hl0 => ?_⟩, by simp [intOf]; omega⟩
            · rw [htk, ← addF L HFi.out]
              have : (addL L (l.take k).length W4.heap.size A2 c2 rb ro).M = wq.heap.size := HL.out.M
              rw [this]
              exact hmap6
            · rw [foot_new] at hx
              rcases hx with hx | ⟨i, hi, hx⟩
              · exact HL.out.foot x (by rw [foot_new]; exact .inl hx)
              · rw [htk, List.length_append, hlk] at hi
                simp only [List.length_cons, List.length_nil] at hi
                rw [hx]
                simp only [addL, hlk]
                by_cases e2 : i = k
                · rw [if_pos e2]; have := HL.out.below.size; omega
                · rw [if_neg e2]
                  exact HL.out.foot _ (by rw [foot_new]; exact .inr ⟨i, by rw [hlk]; omega, rfl⟩)
            · rw [htk] at hx
              rcases hx with hx | hx | ⟨i, hi, hl0, hx⟩ | hx
              · exact HL.out.stat x (.inl hx)
              · exact HL.out.stat x (.inr (.inl hx))
              · have hi' : i < (l.take k).length + 1 := by simpa [newE] using hi
                rw [hlk] at hi'
                by_cases e2 : i = k
                · have e3 : i = (l.take k).length := by rw [hlk]; exact e2
                  rw [e3, ruleN_new] at hl0
                  rw [e3] at hx
                  simp only [addL, if_true] at hx
                  rw [hx]
                  have h9 := hrb hl0
                  exact .inl (by have := HL.out.below.size; omega)
                · rw [ruleN_old (by rw [hlk]; omega)] at hl0
                  simp only [addL, hlk, if_neg e2] at hx
                  exact HL.out.stat x (.inr (.inr (.inl ⟨i, by show i < (l.take k).length; rw [hlk]; omega, hl0, hx⟩)))
              · exact .inr hx
            · rw [htk] at hi hl0
              have hi' : i < (l.take k).length + 1 := by simpa using hi
              rw [hlk] at hi'
              show (addL L (l.take k).length W4.heap.size A2 c2 rb ro).rb i ≠ L.M
              by_cases e2 : i = k
              · have e3 : i = (l.take k).length := by rw [hlk]; exact e2
                rw [e3, ruleN_new] at hl0
                rw [e3]
                simp only [addL, if_true]
                have h9 := hrb hl0
                rw [HL.out.M]
                omega
              · rw [ruleN_old (by rw [hlk]; omega)] at hl0
                simp only [addL, hlk, if_neg e2]
                exact HL.out.rbM i (by rw [hlk]; omega) hl0
        · obtain rfl : k = j := by omega
          have tk : decide ((k : Int) < (k : Int)) = false := by simp
          have tg : decide ((4096 : Int) < (k : Int)) = false := by simp; omega
          go_wp2_with fail
          go_ret2
          have hL := HL.out
          have htk : l.take k = l := by rw [← HN.out]; exact List.take_length
          have hg : RGood l := ⟨fun r hr => by
            obtain ⟨i, hi, rfl⟩ := List.getElem_of_mem hr
            exact HOk.out i _ (by rw [← HN.out]; exact hi) (List.getElem?_eq_getElem hi), by have := hL.names; rwa [htk] at this⟩
          refine ⟨hL.below, .inl ⟨hg, L, by rw [hL.G]; rfl, ?_⟩⟩
          have h1 := hL.mem
          have h2 := hL.foot
          have h3 := hL.stat
          rw [htk] at h1 h2 h3
          exact ⟨⟨h1, good0 _, hyg0, envok_new HS.out hg, names_dist hg.2, by decide, by decide, by decide, by decide, fun b hb => (by rw [hL.I] at hb; cases hb), fun b hb => (by rw [hL.I] at hb; cases hb)⟩, hL.I, h2, h3⟩
end Go.Proofs.YtjcaeoacgoklmaaDoor
