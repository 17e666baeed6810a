import Derived.Test.YteghbblbkljdhaaDoorSoY
import Derived.Test.YteghbblbkljdhaaDoorSoU
import Derived.Lib.AppendStr
import Derived.Laws.IdiomStrings
import Derived.Deep.QuietTactic
import Derived.BigQuiet
import Derived.Lib.BufferRead
namespace Go.Proofs.YteghbblbkljdhaaDoor
open Go.RowKit Go.Maps
theorem first_cons (g : Nat → Fi) (s : ByteArray) : ∀ m, firstOf g (m + 1) s = if (g 0).n = s then some (g 0) else firstOf (fun i => g (i + 1)) m s
  | 0 => by rw [firstOf, firstOf, firstOf]
  | m + 1 => by
    rw [firstOf, first_cons g s m]
    by_cases h : (g 0).n = s
    · rw [if_pos h, if_pos h]
    · rw [if_neg h, if_neg h, firstOf]
/-- The text of the first file of a name from place j on. -/
def srcFrom (g : Nat → Fi) (n j : Nat) (s : ByteArray) : ByteArray := srcOf (fun i => g (j + i)) (n - j) s
theorem srcFrom_end (g : Nat → Fi) (n : Nat) (s : ByteArray) : srcFrom g n n s = ⟨#[]⟩ := by
  unfold srcFrom srcOf
  rw [Nat.sub_self]
  rfl
theorem srcFrom_zero (g : Nat → Fi) (n : Nat) (s : ByteArray) : srcFrom g n 0 s = srcOf g n s := by
  unfold srcFrom
  simp only [Nat.zero_add, Nat.sub_zero]
theorem srcFrom_step (g : Nat → Fi) {n j : Nat} (s : ByteArray) (h : j < n) : srcFrom g n j s = if (g j).n = s then (g j).t else srcFrom g n (j + 1) s := by
  unfold srcFrom srcOf
  have e : n - j = (n - (j + 1)) + 1 := by omega
  rw [e, first_cons]
  simp only [Nat.add_zero]
  have e2 : (fun i => g (j + (i + 1))) = fun i => g (j + 1 + i) := by funext i; rw [show j + (i + 1) = j + 1 + i by omega]
  rw [e2]
  by_cases h1 : (g j).n = s
  · rw [if_pos h1, if_pos h1]; rfl
  · rw [if_neg h1, if_neg h1]
theorem row_bytes {w : World} {base n : Nat} {v : Value} {l : List UInt8} (h : w.ownsRow base 5 1 v n (Lib.byteCells l)) :
    (convert 103 9 v).run Tryd.prog w = .ok (.string ⟨l.toArray⟩) w := by
  have hn : l.length = n := by have := h.1; simpa [Lib.byteCells] using this
  rcases h.2 with ⟨rfl, h0⟩ | ⟨g, cap, cur, rfl, _, hg, _⟩
  · obtain rfl : l = [] := List.eq_nil_of_length_eq_zero (by omega)
    exact Lib.run_convert_nil_bytes w 103 9 5 0 Tryd.underlying103 Tryd.underlying5 Tryd.underlying9
  · have hc := h.cells (g := g) rfl
    subst hn
    exact run_convert_bytes_back (P := Tryd.prog) w 103 9 5 ⟨g, 0, none⟩ cap l Tryd.underlying103 Tryd.underlying5 Tryd.underlying9 (fun j hj => hc j _ (by simp [Lib.byteCells, List.getElem?_eq_getElem hj]))
theorem linesL_next (q : ByteArray → ByteArray) (f : Nat → DiagD) (k : Nat) : Lib.byteCells (linesL q f (k + 1)) = Lib.byteCells (linesL q f k) ++ (Lib.byteCells (lineL (f k).f.data.toList (f k).t.data.toList (f k).a (f k).c (q (f k).f)) ++ [Value.int .u8 10]) := by
  rw [linesL]
  simp [Lib.byteCells]
theorem lines_next_len (q : ByteArray → ByteArray) (f : Nat → DiagD) (k : Nat) : (linesL q f (k + 1)).length = (linesL q f k).length + (lineL (f k).f.data.toList (f k).t.data.toList (f k).a (f k).c (q (f k).f)).length + 1 := by
  rw [linesL]
  simp
  omega
theorem one_new (w : World) (x : Value) (T : TypeId) : ∀ j u, [x][j]? = some u → (w.alloc (.cells #[x] T)).cell? ((⟨w.heap.size, 0, none⟩ : Addr).add j) = some u := by
  intro j u hj
  match j, hj with
  | 0, hj =>
    simp only [List.getElem?_cons_zero, Option.some.injEq] at hj
    subst hj
    show (w.alloc (.cells #[x] T)).cell? ⟨w.heap.size, 0, none⟩ = _
    rw [Lib.cell_of_heap (heap_alloc_new w _)]
    rfl
set_option maxRecDepth 100000 in
set_option maxHeartbeats 4000000 in
theorem all_ref (A : Option Addr) (n c : Nat) (g : Nat → Fi) (B : Option Addr) (m d : Nat) (f : Nat → DiagD) (w : World) (hF : FSrc w A n g) (hn : n ≤ 1000) (hm : m ≤ 1000000) (hq : ∀ k, k < n → (g k).t.size ≤ 1000000000000) (S : Nat) (hS1 : S ≤ 1000000000000000) (hfs : ∀ k, k < m → (f k).f.size ≤ S ∧ (f k).t.size ≤ S) (hmS : m * (2 * S + 200) ≤ 140737488355328) (h : Src w B m f) (hT : Tab10 w) :
    Calls Tryd.prog 32 #[.slice A n c, .slice B m d] w fun e w' => ∃ fs, e = .returned (.string ⟨(linesL (srcOf g n) fs m).toArray⟩) ∧ Srt ltD fs 0 m ∧ (∀ p, cnt p fs m = cnt p f m) ∧ Below w.heap.size w w' := by
  have HF := Lib.hid hF
  have HS := Lib.hid h
  have HQ := Lib.hid (src_size hq)
  have HX := Lib.hid hfs
  have HmS := Lib.hid hmS
  have HT0 := Lib.hid hT
  obtain ⟨i0, hi0, hz0, hz1, hz2⟩ := info_parts infoByte
  clear hF h hq hfs hmS hT
  go_enter Tryd.func32, Tryd.ntmps32
  go_wp2_with fail
  refine (sort_ref B m d f _ hm HS.out).mono ?_
  rintro e w1 ⟨A2, c2, fs, rfl, hs2, ht2, hc2, hb1⟩
  have HB1 := Lib.hid hb1
  have HS2 := Lib.hid hs2
  have HT2 := Lib.hid ht2
  have HC2 := Lib.hid hc2
  have HX2 := Lib.hid (all_of_cnt hc2 HX.out)
  clear hs2 ht2 hc2 hb1
  go_wp2_with fail
  go_loopw [6, 7] (fun bv v wr => ∃ j : Nat, j ≤ m ∧ v = .int .i64 j ∧ wr.ownsRow w1.heap.size 5 1 bv (linesL (srcOf g n) fs j).length (Lib.byteCells (linesL (srcOf g n) fs j)) ∧ Below w1.heap.size w1 wr) (fun _ v _ => m - (intOf v).toNat)
  case atStart => exact ⟨0, by omega, rfl, World.ownsRow_nil _ _ _ _, Below.refl _ _⟩
  case round =>
    obtain ⟨j, hj, rfl, hown, hb⟩ := hrel
    have HO := Lib.hid hown
    have HBj := Lib.hid hb
    by_cases hlt : j < m
    case neg =>
      obtain rfl : j = m := by omega
      have tl : decide ((j : Int) < (j : Int)) = false := by simp
      have hrun := row_bytes hown
      clear hlt hb hown
      go_wp2_with fail
      go_ret
      exact ⟨fs, rfl, HT2.out, HC2.out, HB1.out.trans (HBj.out.mono HB1.out.size)⟩
    have tl : decide ((j : Int) < (m : Int)) = true := by simp; omega
    have HLt := Lib.hid hlt
    obtain ⟨b2, off2, hA2, _⟩ := HS2.out.at hlt
    subst hA2
    clear hown
    obtain ⟨wq, hwq⟩ : ∃ wq, wq = wr := ⟨_, rfl⟩
    subst hwq
    have h0 := srcFrom_end g n (fs j).f
    go_wp2_with fail
    go_loopw [8, 9] (fun sv kv wx => ∃ q : Nat, q ≤ n ∧ kv = .int .i64 ((q : Int) - 1) ∧ sv = .string (srcFrom g n q (fs j).f) ∧ Below wq.heap.size wq wx) (fun _ kv _ => (intOf kv + 1).toNat)
    case atStart => exact ⟨n, Nat.le_refl _, by go_num, by rw [h0], Below.refl _ _⟩
    case round =>
      obtain ⟨q, hq, rfl, rfl, hbq⟩ := hrel
      have HBq := Lib.hid (HBj.out.trans (hbq.mono HBj.out.size))
      obtain ⟨d0, d1, d2, d3⟩ := (HS2.out.later HBq.out).at2 HLt.out
      have HOq := Lib.hid (own_later4 HO.out hbq)
      clear hb h0
      cases q with
      | zero =>
        have z1 : (((0 : Nat) : Int) - 1) = -1 := rfl
        rw [z1, srcFrom_zero]
        have hsx := HX2.out j HLt.out
        have HSx := Lib.hid hsx
        have HSz := Lib.hid (HQ.out (fs j).f)
        have HNx := Lib.hid (linesL_next (srcOf g n) fs j)
        have hlw := Nat.le_trans (lines_len _ fs S HQ.out (j + 1) (fun k hk => HX2.out k (by omega))) (Nat.le_trans (Nat.mul_le_mul_right _ (by omega)) HmS.out)
        have hln := lines_next_len (srcOf g n) fs j
        rw [hln] at hlw
        have HLn := Lib.hid hln
        have HLw := Lib.hid hlw
        clear z1 hbq hsx hlw hln
        generalize hsq : srcOf g n (fs j).f = sq at HSz HNx HLn HLw ⊢
        clear hsq
        go_wp2_with fail
        refine (line_ref (fs j).f (fs j).t sq (fs j).a (fs j).c _ HSz.out (Nat.le_trans HSx.out.1 hS1) (Nat.le_trans HSx.out.2 hS1) (tab_below HT0.out (HB1.out.trans (HBq.out.mono HB1.out.size)))).mono ?_
        rintro e w3 ⟨rfl, hb3⟩
        have HB3 := Lib.hid (HBq.out.trans (hb3.mono HBq.out.size))
        have HO3 := Lib.hid (own_later4 HOq.out hb3)
        clear hb3 d0 d1 d2 d3
        generalize hll : lineL (fs j).f.data.toList (fs j).t.data.toList (fs j).a (fs j).c sq = ll at HNx HLn HLw ⊢
        clear hll
        go_wp2_with (at_builtin; refine Lib.wpList_append_own_string _ rfl _ _ 103 9 rfl w1.heap.size 5 i0 Tryd.underlying103 Tryd.underlying9 hi0 hz0 hz1 hz2 _ _ _ rfl HO3.out ⟨ll.toArray⟩ rfl ?c3 ?c4 ?c5 ?_)
        case c3 => have := HLw.out; simp [ByteArray.size]; unfold maxLen; omega
        case c4 => have := HLw.out; simp [ByteArray.size]; omega
        case c5 => exact HB3.out.size
        intro v4 w4 hown4 hg4 _
        have hb4 := HB3.out.grown hg4 HB3.out.size (fun k hk => (HO3.out.lt k hk).1)
        have HO4 := Lib.hid hown4
        have HB4 := Lib.hid hb4
        clear hown4 hg4 hb4
        go_wp2_with (at_builtin; go_loud (refine wpList_append_own _ rfl _ _ 103 rfl w1.heap.size 5 i0 (.int .u8 0) 1 1 Tryd.underlying103 hi0 hz0 hz1 hz2 rfl (by decide) _ _ _ rfl (HO4.out.alloc _) ⟨w4.heap.size, 0, none⟩ 1 1 [.int .u8 10] rfl ?a0 ?a1 ?a2 ?a3 ?a4 ?a5 ?_))
        case a0 => rfl
        case a1 =>
          exact one_new _ _ _
        case a2 =>
          intro u hu
          simp only [List.mem_cons, List.not_mem_nil, or_false] at hu
          subst hu
          rfl
        case a3 => have := HLw.out; simp; unfold maxLen; omega
        case a4 => have := HLw.out; simp; omega
        case a5 => simp only [World.size_alloc]; have := HB4.out.size; omega
        intro v5 w5 hown5 hg5 _
        have hb5 : Below w1.heap.size w1 w5 := (HB4.out.alloc HB4.out.size _).grown hg5 (by simp only [World.size_alloc]; have := HB4.out.size; omega) (fun k hk => (HO4.out.lt k hk).1)
        have HB5 := Lib.hid hb5
        have ho5 : w5.ownsRow w1.heap.size 5 1 v5 (linesL (srcOf g n) fs (j + 1)).length (Lib.byteCells (linesL (srcOf g n) fs (j + 1))) := by
          rw [HLn.out, HNx.out]
          exact hown5
        have HO5 := Lib.hid ho5
        clear hown5 hg5 hb5 ho5
        go_wp2_with fail
        exact ⟨⟨j + 1, hlt, by simp, HO5.out, HB5.out⟩, by simp [intOf]; omega⟩
      | succ q =>
        have z1 : (((q + 1 : Nat) : Int) - 1) = (q : Int) := by omega
        rw [z1]
        obtain ⟨fb, fo, hfA, c0, c1, _⟩ := (HF.out.later (HB1.out.trans (HBq.out.mono HB1.out.size))).at (show q < n by omega)
        subst hfA
        have hst := srcFrom_step g (fs j).f (show q < n by omega)
        have e1 := eqs_iff (g q).n (fs j).f
        have tj : decide ((j : Int) < (m : Int)) = true := tl
        have hbq2 := Lib.hid hbq
        clear z1 hbq d1 d2 d3
        by_cases heq : (g q).n = (fs j).f
        · rw [if_pos heq] at hst
          rw [decide_eq_true heq] at e1
          have HSt := Lib.hid hst
          clear hst heq
          go_wp2_with fail
          go_quiet (fail)
          go_wp2_with fail
          exact ⟨⟨q, by omega, by go_num, by rw [HSt.out], bdnD hbq2.out _⟩, by simp [intOf]⟩
        · rw [if_neg heq] at hst
          rw [decide_eq_false heq] at e1
          have HSt := Lib.hid hst
          clear hst heq
          go_wp2_with fail
          go_quiet (fail)
          go_wp2_with fail
          exact ⟨⟨q, by omega, by go_num, by rw [HSt.out], bdnD hbq2.out _⟩, by simp [intOf]⟩
end Go.Proofs.YteghbblbkljdhaaDoor
