import Derived.Test.YtogoolpgajopcaaTrF
namespace Go.Proofs.Ytogoolpgajopcaa
open Go.RowKit
theorem infoN : (Try.prog.info? 24).map (fun i => (i.zero, i.size, i.bytes)) = some (some (.agg #[.int .i64 0, .string ⟨#[]⟩, .int .i64 0, .int .i64 0, .int .i64 0, .slice none 0 0]), 6, 72) := by kernel_rfl
/-- So many of one node. -/
def rep (k : Int) (t : ByteArray) (n m a : Int) (P : Fo) : Nat → Fo
  | 0 => .nil
  | j + 1 => .cons k t n m a P (rep k t n m a P j)
theorem rep_len (k : Int) (t : ByteArray) (n m a : Int) (P : Fo) : ∀ j, (rep k t n m a P j).len = j
  | 0 => rfl
  | j + 1 => by simp [rep, Fo.len, rep_len k t n m a P j]
def flat (cs : List Value) (j : Nat) : List Value := (List.replicate j cs).flatten
theorem flat_more (cs : List Value) (j : Nat) : flat cs (j + 1) = flat cs j ++ cs := by
  unfold flat; rw [List.replicate_succ', List.flatten_append]; simp
theorem flat_at (cs : List Value) (h6 : cs.length = 6) : ∀ (j i x : Nat), i < j → x < 6 → (flat cs j)[i * 6 + x]? = cs[x]? := by
  intro j
  induction j with
  | zero => intro i x h; omega
  | succ j ih =>
    intro i x hi hx
    rw [show flat cs (j + 1) = cs ++ flat cs j by unfold flat; rw [List.replicate_succ, List.flatten_cons]]
    cases i with
    | zero => rw [List.getElem?_append_left (by omega)]; simp
    | succ i => rw [List.getElem?_append_right (by omega), show (i + 1) * 6 + x - cs.length = i * 6 + x by omega]; exact ih i x (by omega) hx
theorem rep_holds {W : World} {B g q : Nat} {k : Int} {t : ByteArray} {n m a : Int} {P : Fo} {A : Option Addr} {c : Nat} (hg : g < B) (hc : ∀ i, i < q → ∀ x u, (cells6 k t n m a P.len A c)[x]? = some u → W.cell? ⟨g, i * 6 + x, none⟩ = some u) (h1 : P.len ≤ c) (h2 : c ≤ 1000000000000000) (h3 : t.size ≤ 1000000000000000) (h4 : Holds W B P A 0) :
    ∀ r i, i + r = q → Holds W B (rep k t n m a P r) (some ⟨g, 0, none⟩) i := by
  intro r
  induction r with
  | zero => intro i _; trivial
  | succ r ih =>
    intro i hi
    refine ⟨⟨_, A, c, rfl, hg, fun x u hu => ?_, h1, h2, h3, h4⟩, ih (i + 1) (by omega)⟩
    have := hc i (by omega) x u hu
    rw [show (((⟨g, 0, none⟩ : Addr).add (i * 6)).add x) = ⟨g, i * 6 + x, none⟩ by
      unfold Addr.add
      by_cases hi0 : i * 6 = 0 <;> by_cases hx0 : x = 0 <;> simp [hi0, hx0]]
    exact this
theorem own_set {w : World} {base : Nat} {e : TypeId} {size n : Nat} {v : Value} {xs : List Value} {p : Addr} (h : w.ownsRow base e size v n xs) (hp : p.block < base) (u : Value) : (w.setCell p u).ownsRow base e size v n xs := by
  refine ⟨h.1, ?_⟩
  rcases h.2 with h0 | ⟨g, cap, cur, hv, hbg, hg, h1, h2, h3, h4⟩
  · exact .inl h0
  · exact .inr ⟨g, cap, cur, hv, hbg, (heap_setCell_other w p g u (by omega)).trans hg, h1, h2, h3, h4⟩
theorem own_form {w : World} {base : Nat} {e : TypeId} {size n : Nat} {v : Value} {xs : List Value} (h : w.ownsRow base e size v n xs) : ∃ A c, v = .slice A n c := by
  rcases h.2 with ⟨hv, hn⟩ | ⟨g, cap, cur, hv, _⟩
  · exact ⟨none, 0, by rw [hv, hn]⟩
  · exact ⟨_, cap, hv⟩
theorem cell_six_new (w : World) (k : Int) (t : ByteArray) (n m a : Int) (l : Nat) (A : Option Addr) (c : Nat) : ∀ j u, (cells6 k t n m a l A c)[j]? = some u → (w.alloc (.cells (cells6 k t n m a l A c).toArray 24)).cell? ((⟨w.heap.size, 0, none⟩ : Addr).add j) = some u := by
  intro j u hj
  have key : ∀ i : Nat, (w.alloc (.cells (cells6 k t n m a l A c).toArray 24)).cell? ⟨w.heap.size, i, none⟩ = (cells6 k t n m a l A c).toArray[i]? := fun i => cell_of_row _ _ _ _ _ _ (heap_alloc_new w _)
  rw [show ((⟨w.heap.size, 0, none⟩ : Addr).add j) = ⟨w.heap.size, j, none⟩ by unfold Addr.add; by_cases h : j = 0 <;> simp [h], key]
  simpa using hj
theorem six_one (k : Int) (t : ByteArray) (n m a : Int) (l : Nat) (A : Option Addr) (c : Nat) : ∀ u ∈ cells6 k t n m a l A c, u.oneCell' = true := by
  intro u hu
  simp only [cells6, List.mem_cons, List.not_mem_nil, or_false] at hu
  rcases hu with rfl | rfl | rfl | rfl | rfl | rfl <;> rfl
/-- The box of the node that is put together. -/
def MBox (b : Nat) (v : Value) (w : World) : Prop := w.cell? ⟨b, 0, none⟩ = some (.int .i64 5) ∧ w.cell? ⟨b, 1, none⟩ = some (.string ⟨#[]⟩) ∧ w.cell? ⟨b, 2, none⟩ = some (.int .i64 0) ∧ w.cell? ⟨b, 3, none⟩ = some (.int .i64 0) ∧ w.cell? ⟨b, 4, none⟩ = some (.int .i64 0) ∧ w.cell? ⟨b, 5, none⟩ = some v ∧ w.frozen? ⟨b, 5, none⟩ = false ∧ b < w.heap.size
theorem MBox.new (w : World) : MBox w.heap.size (.slice none 0 0) (w.alloc (.cells #[.int .i64 5, .string ⟨#[]⟩, .int .i64 0, .int .i64 0, .int .i64 0, .slice none 0 0] 24)) := by
  have key : ∀ i : Nat, (w.alloc (.cells #[.int .i64 5, .string ⟨#[]⟩, .int .i64 0, .int .i64 0, .int .i64 0, .slice none 0 0] 24)).cell? ⟨w.heap.size, i, none⟩ = (#[.int .i64 5, .string ⟨#[]⟩, .int .i64 0, .int .i64 0, .int .i64 0, .slice none 0 0] : Array Value)[i]? := fun i => cell_of_row _ _ _ _ _ _ (heap_alloc_new w _)
  exact ⟨key 0, key 1, key 2, key 3, key 4, key 5, by simp, by simp⟩
theorem MBox.same {b : Nat} {v : Value} {w w' : World} (h : MBox b v w) (hb : w'.heap[b]? = w.heap[b]?) (hs : w.heap.size ≤ w'.heap.size) : MBox b v w' := by
  obtain ⟨h0, h1, h2, h3, h4, h5, h6, h7⟩ := h
  have hc : ∀ i, w'.cell? ⟨b, i, none⟩ = w.cell? ⟨b, i, none⟩ := fun i => World.cell?_of_block (a := ⟨b, i, none⟩) hb
  exact ⟨(hc 0).trans h0, (hc 1).trans h1, (hc 2).trans h2, (hc 3).trans h3, (hc 4).trans h4, (hc 5).trans h5, (World.frozen?_of_block (a := ⟨b, 5, none⟩) hb).trans h6, by omega⟩
theorem MBox.set {b : Nat} {v v' : Value} {w : World} (h : MBox b v w) : MBox b v' (w.setCell ⟨b, 5, none⟩ v') := by
  obtain ⟨h0, h1, h2, h3, h4, h5, h6, h7⟩ := h
  have ho : ∀ i, i ≠ 5 → (w.setCell ⟨b, 5, none⟩ v').cell? ⟨b, i, none⟩ = w.cell? ⟨b, i, none⟩ := fun i hi => World.cell?_setCell_other _ _ _ _ (fun e => hi (by injection e with _ e; exact e.symm))
  exact ⟨(ho 0 (by decide)).trans h0, (ho 1 (by decide)).trans h1, (ho 2 (by decide)).trans h2, (ho 3 (by decide)).trans h3, (ho 4 (by decide)).trans h4, World.cell?_setCell_same _ _ _ h5, by rw [World.frozen?_setCell]; exact h6, by simpa using h7⟩
/-- Both counts of a node, in each later world. -/
def GoodV (w : World) (v : Value) (y : Nat) : Prop := ∀ w', BD w w' → (Calls Try.prog 19 #[v] w' fun e w'' => e = .returned (.int .i64 y) ∧ Below w'.heap.size w' w'') ∧ (Calls Try.prog 20 #[v] w' fun e w'' => e = .returned (.int .i64 y) ∧ Below w'.heap.size w' w'')
theorem GoodV.prog {w w' : World} {v : Value} {y : Nat} (h : GoodV w v y) (hb : BD w w') : Calls Try.prog 19 #[v] w' fun e w'' => e = .returned (.int .i64 y) ∧ Below w'.heap.size w' w'' := (h w' hb).1
theorem GoodV.ref {w w' : World} {v : Value} {y : Nat} (h : GoodV w v y) (hb : BD w w') : Calls Try.prog 20 #[v] w' fun e w'' => e = .returned (.int .i64 y) ∧ Below w'.heap.size w' w'' := (h w' hb).2
theorem GoodV.mk {w : World} {k : Int} {t : ByteArray} {n m a : Int} {P : Fo} {A : Option Addr} {c l : Nat} (hH : Holds w w.heap.size P A 0) (hl : P.len ≤ 1000000000000000) (hll : P.len = l) : GoodV w (.agg #[.int .i64 k, .string t, .int .i64 n, .int .i64 m, .int .i64 a, .slice A l c]) (cap20 (1 + P.nodes)) := by
  subst hll
  exact fun w' hb => ⟨nodes_prog P k t n m a A c w' ((hH.below hb).more hb.size) hl, nodes_ref P k t n m a A c w' ((hH.below hb).more hb.size) hl⟩
def LawPost (w : World) (e : Ending) (w' : World) : Prop := e = .returned (.bool true) ∧ Below w.heap.size w w'
set_option maxRecDepth 100000 in
set_option maxHeartbeats 4000000 in
theorem counts_walk (k : Int) (t : ByteArray) (n m a : Int) (P : Fo) (A : Option Addr) (c : Nat) (x : Int) (w : World) (hx0 : 0 ≤ x) (hx1 : x ≤ 65535) (hH : Holds w w.heap.size P A 0) (hl : P.len ≤ c) (hc : c ≤ 1000000000000000) (ht : t.size ≤ 1000000000000000) :
    Calls Try.prog 4 #[val6 k t n m a P.len A c, .int .u16 x] w (LawPost w) := by
  obtain ⟨i0, hi0, hz0, hz1, hz2⟩ := info_parts infoN
  obtain ⟨q, hq1, hq2⟩ : ∃ q : Nat, (q : Int) ≤ x % 300 ∧ x % 300 ≤ (q : Int) := ⟨(x % 300).toNat, by omega, by omega⟩
  have hq300 : q < 300 := by omega
  have HH := Lib.hid hH
  have KA := Lib.hid (fun W => awake_true W)
  simp only [val6, cells6]
  clear hH
  go_enter Try.func4, Try.ntmps4
  go_wp2_with fail
  refine (KA.out _).mono ?_
  rintro e W1 ⟨rfl, hb1⟩
  have FN : Hid (∀ W', Below W1.heap.size W1 W' → W'.cell? ⟨w.heap.size, 0, none⟩ = some (.int .i64 k) ∧ W'.cell? ⟨w.heap.size, 1, none⟩ = some (.string t) ∧ W'.cell? ⟨w.heap.size, 2, none⟩ = some (.int .i64 n) ∧ W'.cell? ⟨w.heap.size, 3, none⟩ = some (.int .i64 m) ∧ W'.cell? ⟨w.heap.size, 4, none⟩ = some (.int .i64 a) ∧ W'.cell? ⟨w.heap.size, 5, none⟩ = some (.slice A P.len c)) := Lib.hid fun W' h => by
    have h2 := hb1.trans (h.mono hb1.size)
    exact ⟨box_cells h2 0, box_cells h2 1, box_cells h2 2, box_cells h2 3, box_cells h2 4, box_cells h2 5⟩
  have HB1 := Lib.hid (below_box hb1)
  have hs1 : w.heap.size + 1 ≤ W1.heap.size := by have := hb1.size; simp at this; omega
  clear hb1
  go_wp2_with fail
  have hcs : cells6 k t n m a P.len A c = [.int .i64 k, .string t, .int .i64 n, .int .i64 m, .int .i64 a, .slice A P.len c] := rfl
  have HM0 := Lib.hid (MBox.new W1)
  go_loopw [6] (fun i wr => ∃ (j : Nat) (v : Value), j ≤ q ∧ i = .int .i64 j ∧ MBox W1.heap.size v wr ∧ wr.ownsRow (W1.heap.size + 1) 24 6 v j (flat (cells6 k t n m a P.len A c) j) ∧ Below W1.heap.size W1 wr) (fun i _ => q - (intOf i).toNat)
  case atStart => exact ⟨0, _, by omega, by go_num, HM0.out, World.ownsRow_nil _ _ _ _, (Below.refl _ _).alloc (Nat.le_refl _) _⟩
  case round =>
    obtain ⟨j, v, hj, rfl, hM, hown, hB⟩ := hrel
    have HMb := Lib.hid hM
    obtain ⟨m0, m1, m2, m3, m4, m5, m6, m7⟩ := hM
    obtain ⟨c0, c1, c2, c3', c4, c5⟩ := FN.out wr hB
    have HBw := Lib.hid hB
    clear hB
    by_cases hjq : j < q
    · have HO := Lib.hid hown
      have HCN := Lib.hid (fun W => cell_six_new W k t n m a P.len A c)
      have HS1 := Lib.hid (six_one k t n m a P.len A c)
      clear hown
      have tj : decide ((j : Int) < x % 300) = true := by simp; omega
      go_wp2_with (at_builtin; go_loud (refine wpList_append_own _ rfl _ _ 22 rfl (W1.heap.size + 1) 24 i0 (.agg #[.int .i64 0, .string ⟨#[]⟩, .int .i64 0, .int .i64 0, .int .i64 0, .slice none 0 0]) 6 72 Try.underlying22 hi0 hz0 hz1 hz2 rfl (by decide) _ _ _ rfl (HO.out.alloc _) ⟨wr.heap.size, 0, none⟩ 1 1 (cells6 k t n m a P.len A c) rfl rfl ?a1 ?a2 ?a3 ?a4 ?a5 ?_))
      case a1 => exact HCN.out _
      case a2 => exact HS1.out
      case a3 => unfold maxLen; omega
      case a4 => omega
      case a5 => simp; omega
      intro v' w2 hown' hgrow _
      obtain ⟨A2, c2, rfl⟩ := own_form hown'
      have hblk : w2.heap[W1.heap.size]? = wr.heap[W1.heap.size]? := by
        have h1 := hgrow.block W1.heap.size (by simp; omega) (fun e => by have := (HO.out.lt _ e.symm).1; omega)
        rw [h1]
        exact Below.heap_alloc wr _ _ m7
      have hsz2 : wr.heap.size ≤ w2.heap.size := by have := hgrow.size; simp at this; omega
      have HM2 := Lib.hid (HMb.out.same hblk hsz2)
      have hB2 : Below W1.heap.size W1 w2 := (HBw.out.alloc (HBw.out.size) _).grown hgrow (by have := HBw.out.size; simp; omega) (fun g hg => by have := (HO.out.lt g hg).1; omega)
      have HB2 := Lib.hid hB2
      have HO2 := Lib.hid (show w2.ownsRow (W1.heap.size + 1) 24 6 (.slice A2 (j + 1) c2) (j + 1) (flat (cells6 k t n m a P.len A c) (j + 1)) by rw [flat_more]; exact hown')
      have hd5 := HM2.out.2.2.2.2.2.1
      have hd6 := HM2.out.2.2.2.2.2.2.1
      clear hown' hgrow hblk hB2
      go_wp2_with fail
      go_roundw
      case rel => exact ⟨j + 1, _, by omega, by go_num, HM2.out.set, own_set HO2.out (by simp) _, HB2.out.setCell (Nat.le_refl _) _⟩
      case measure => simp [intOf]; omega
    · obtain rfl : j = q := by omega
      obtain ⟨A3, c3, rfl⟩ := own_form hown
      have hR : Holds wr wr.heap.size (rep k t n m a P j) A3 0 := by
        by_cases h0 : j = 0
        · subst h0; trivial
        · obtain ⟨g, rfl⟩ : ∃ g, A3 = some ⟨g, 0, none⟩ := by
            rcases hown.2 with ⟨_, h⟩ | ⟨g, cap, cur, h, _⟩
            · exact absurd h h0
            · exact ⟨g, by injection h⟩
          have hg := (hown.lt g rfl).2
          refine rep_holds (q := j) (A := A) (c := c) hg (fun i hi x u hu => ?_) hl hc ht (((HH.out.below HB1.out).below (HBw.out.mono (by omega))).more (by have := HBw.out.size; omega)) j 0 (by omega)
          have hx : x < 6 := by
            rcases Nat.lt_or_ge x 6 with h | h
            · exact h
            · rw [List.getElem?_eq_none (by simpa [cells6] using h)] at hu; cases hu
          rw [hown.cellAt (i * 6 + x) (by omega), flat_at _ rfl j i x hi hx, hu]
      have HR := Lib.hid hR
      have hP2 := Lib.hid (((HH.out.below HB1.out).below (HBw.out.mono (by omega : w.heap.size ≤ W1.heap.size))))
      have hwr : w.heap.size ≤ wr.heap.size := by have := HBw.out.size; omega
      have MK := Lib.hid (fun (w' : World) (h : BD wr w') => (⟨h, cell_later h c0, cell_later h c1, cell_later h c2, cell_later h c3', cell_later h c4, cell_later h c5, cell_later h m0, cell_later h m1, cell_later h m2, cell_later h m3, cell_later h m4, cell_later h m5⟩ :
        BD wr w' ∧ w'.cell? ⟨w.heap.size, 0, none⟩ = some (.int .i64 k) ∧ w'.cell? ⟨w.heap.size, 1, none⟩ = some (.string t) ∧ w'.cell? ⟨w.heap.size, 2, none⟩ = some (.int .i64 n) ∧ w'.cell? ⟨w.heap.size, 3, none⟩ = some (.int .i64 m) ∧ w'.cell? ⟨w.heap.size, 4, none⟩ = some (.int .i64 a) ∧ w'.cell? ⟨w.heap.size, 5, none⟩ = some (.slice A P.len c) ∧
        w'.cell? ⟨W1.heap.size, 0, none⟩ = some (.int .i64 5) ∧ w'.cell? ⟨W1.heap.size, 1, none⟩ = some (.string ⟨#[]⟩) ∧ w'.cell? ⟨W1.heap.size, 2, none⟩ = some (.int .i64 0) ∧ w'.cell? ⟨W1.heap.size, 3, none⟩ = some (.int .i64 0) ∧ w'.cell? ⟨W1.heap.size, 4, none⟩ = some (.int .i64 0) ∧ w'.cell? ⟨W1.heap.size, 5, none⟩ = some (.slice A3 j c3)))
      have G1 := Lib.hid (GoodV.mk (k := k) (t := t) (n := n) (m := m) (a := a) (c := c) (hP2.out.more hwr) (by omega) rfl)
      have G2 := Lib.hid (GoodV.mk (k := 5) (t := ⟨#[]⟩) (n := 0) (m := 0) (a := 0) (c := c3) HR.out (by rw [rep_len]; omega) (rep_len k t n m a P j))
      generalize cap20 (1 + P.nodes) = y1 at *
      generalize cap20 (1 + (rep k t n m a P j).nodes) = y2 at *
      have tj : decide ((j : Int) < x % 300) = false := by simp; omega
      have B0 := MK.out wr (Below.refl _ _)
      clear hR hown m0 m1 m2 m3 m4 m5 m6 c0 c1 c2 c3' c4 c5
      go_wp2_with fail
      go_region_held3 (fun w' => BD wr w' ∧ w'.cell? ⟨w.heap.size, 0, none⟩ = some (.int .i64 k) ∧ w'.cell? ⟨w.heap.size, 1, none⟩ = some (.string t) ∧ w'.cell? ⟨w.heap.size, 2, none⟩ = some (.int .i64 n) ∧ w'.cell? ⟨w.heap.size, 3, none⟩ = some (.int .i64 m) ∧ w'.cell? ⟨w.heap.size, 4, none⟩ = some (.int .i64 a) ∧ w'.cell? ⟨w.heap.size, 5, none⟩ = some (.slice A P.len c) ∧
        w'.cell? ⟨W1.heap.size, 0, none⟩ = some (.int .i64 5) ∧ w'.cell? ⟨W1.heap.size, 1, none⟩ = some (.string ⟨#[]⟩) ∧ w'.cell? ⟨W1.heap.size, 2, none⟩ = some (.int .i64 0) ∧ w'.cell? ⟨W1.heap.size, 3, none⟩ = some (.int .i64 0) ∧ w'.cell? ⟨W1.heap.size, 4, none⟩ = some (.int .i64 0) ∧ w'.cell? ⟨W1.heap.size, 5, none⟩ = some (.slice A3 j c3))
        (first | exact B0 | exact MK.out _ (Below.drew (Below.refl _ _)) | exact MK.out _ (below_step (And.left (by assumption)) (by assumption)) | exact MK.out _ (below_step (by assumption) (by assumption)))
        (first
          | (go_at_call 19; refine (GoodV.prog (by first | exact G1.out | exact G2.out) ?_).mono ?_; (first | exact And.left (by assumption) | assumption); rintro e w' ⟨rfl, hb⟩)
          | (go_at_call 20; refine (GoodV.ref (by first | exact G1.out | exact G2.out) ?_).mono ?_; (first | exact And.left (by assumption) | assumption); rintro e w' ⟨rfl, hb⟩))
      rename_i hS
      have HB3 := Lib.hid hS.1
      clear hS
      go_wp2_with fail
      go_ret
      exact ⟨rfl, below_step HB1.out (below_step HBw.out HB3.out)⟩
end Go.Proofs.Ytogoolpgajopcaa
