import Derived.Test.YteghbblbkljdhaaDoorSoX
import Derived.Test.YteghbblbkljdhaaDoorSoW
import Derived.Test.YteghbblbkljdhaaDoorSoM
import Derived.Test.YteghbblbkljdhaaDoorAw
import Derived.Carry
import Derived.LoopTactic
import Derived.Outline
import Derived.Deep.CutBlock
namespace Go.Proofs.YteghbblbkljdhaaDoor
open Go.RowKit Go.Maps
/-- The first of the files of a name, among the first m. -/
def firstOf (g : Nat → Fi) : Nat → ByteArray → Option Fi
  | 0, _ => none
  | m + 1, s => match firstOf g m s with
    | some f => some f
    | none => if (g m).n = s then some (g m) else none
theorem first_some {g : Nat → Fi} {m : Nat} {s : ByteArray} {f : Fi} (h : firstOf g m s = some f) : firstOf g (m + 1) s = some f := by rw [firstOf, h]
theorem first_none {g : Nat → Fi} {m : Nat} {s : ByteArray} (h : firstOf g m s = none) : firstOf g (m + 1) s = if (g m).n = s then some (g m) else none := by rw [firstOf, h]
/-- Files in a row of cells. -/
def FSrc (w : World) (A : Option Addr) (n : Nat) (g : Nat → Fi) : Prop :=
  n = 0 ∨ ∃ b off, A = some ⟨b, off, none⟩ ∧ b < w.heap.size ∧ ∀ k, k < n → w.cell? ⟨b, off + k * 3, none⟩ = some (.string (g k).n) ∧ w.cell? ⟨b, off + k * 3 + 1, none⟩ = some (.string (g k).t) ∧ w.cell? ⟨b, off + k * 3 + 2, none⟩ = some (.int .i64 (g k).v)
theorem FSrc.later {w w' : World} {A : Option Addr} {n : Nat} {g : Nat → Fi} (h : FSrc w A n g) (hb : Below w.heap.size w w') : FSrc w' A n g := by
  rcases h with h | ⟨b, off, hA, hl, hc⟩
  · exact .inl h
  · exact .inr ⟨b, off, hA, Nat.lt_of_lt_of_le hl hb.size, fun k hk => ⟨cell_later2 hb (hc k hk).1, cell_later2 hb (hc k hk).2.1, cell_later2 hb (hc k hk).2.2⟩⟩
theorem FSrc.at {w : World} {A : Option Addr} {n : Nat} {g : Nat → Fi} (h : FSrc w A n g) {k : Nat} (hk : k < n) : ∃ b off, A = some ⟨b, off, none⟩ ∧ w.cell? ⟨b, off + k * 3, none⟩ = some (.string (g k).n) ∧ w.cell? ⟨b, off + k * 3 + 1, none⟩ = some (.string (g k).t) ∧ w.cell? ⟨b, off + k * 3 + 2, none⟩ = some (.int .i64 (g k).v) := by
  rcases h with h | ⟨b, off, hA, _, hc⟩
  · omega
  · exact ⟨b, off, hA, hc k hk⟩
theorem Kp.belowS {R B : Nat} {a b : World} (h : Kp (fun k => k ≠ R) a b) (hR : B ≤ R) (hB : B ≤ a.heap.size) : Below B a b := ⟨h.os, h.tape, h.output, h.size, fun k hk => h.block k (by omega) (by omega)⟩
/-- The map holds what the first m files tell. -/
def Told (w : World) (R m : Nat) (g : Nat → Fi) : Prop := ∃ L : List Fi, Fm w R L ∧ L.length ≤ m ∧ ∀ s, find L s = firstOf g m s
theorem Fm.kp {K : Nat → Prop} {W W' : World} {R : Nat} {L : List Fi} (h : Fm W R L) (hk : Kp K W W') (hR : K R) : Fm W' R L := by
  have hl := h.ltS
  obtain ⟨es, clock, h1, F, hs, e⟩ := h
  exact ⟨es, clock, (hk.block R hR hl).trans h1, F, hs, e⟩
/-- The text of the first file of a name, or none. -/
def srcOf (g : Nat → Fi) (n : Nat) (s : ByteArray) : ByteArray := ((firstOf g n s).getD zeroF).t
theorem first_ok {g : Nat → Fi} {s : ByteArray} {f : Fi} : ∀ {n : Nat}, firstOf g n s = some f → ∃ k, k < n ∧ g k = f
  | 0, h => by cases h
  | n + 1, h => by
    cases h1 : firstOf g n s with
    | some f' =>
      rw [first_some h1] at h
      injection h with h
      subst h
      obtain ⟨k, hk, e⟩ := first_ok h1
      exact ⟨k, by omega, e⟩
    | none =>
      rw [first_none h1] at h
      split at h
      · injection h with h; exact ⟨n, by omega, h⟩
      · cases h
theorem src_size {g : Nat → Fi} {n : Nat} (hg : ∀ k, k < n → (g k).t.size ≤ 1000000000000) (s : ByteArray) : (srcOf g n s).size ≤ 1000000000000 := by
  unfold srcOf
  cases h : firstOf g n s with
  | none => decide
  | some f =>
    obtain ⟨k, hk, rfl⟩ := first_ok h
    exact hg k hk
theorem line_len (f t s : ByteArray) (a c : Int) (hs : s.size ≤ 1000000000000) : (lineL f.data.toList t.data.toList a c s).length ≤ f.size + t.size + 100 := by
  have hf : f.data.toList.length = f.size := by rw [Array.length_toList]; rfl
  have ht : t.data.toList.length = t.size := by rw [Array.length_toList]; rfl
  have hw := words_len c
  have hx : (whereL s a).length ≤ 50 := by
    unfold whereL
    split
    · decide
    · rename_i h
      have b1 := lineN_bd s a.toNat
      have b2 := colN_bd s a.toNat
      have l1 := Lib.itoa_length_le (lineN s a.toNat) (by omega) (by omega)
      have l2 := Lib.itoa_length_le (colN s a.toNat) (by omega) (by omega)
      simp only [List.length_append, List.length_cons]
      omega
  unfold lineL
  simp only [List.length_append, List.length_cons]
  split <;> simp only [List.length_nil, List.length_cons] <;> omega
/-- The lines of the first k Diags. -/
def linesL (q : ByteArray → ByteArray) (f : Nat → DiagD) : Nat → List UInt8
  | 0 => []
  | k + 1 => linesL q f k ++ (lineL (f k).f.data.toList (f k).t.data.toList (f k).a (f k).c (q (f k).f) ++ [10])
theorem lines_len (q : ByteArray → ByteArray) (f : Nat → DiagD) (S : Nat) (hq : ∀ s, (q s).size ≤ 1000000000000) : ∀ m, (∀ k, k < m → (f k).f.size ≤ S ∧ (f k).t.size ≤ S) → (linesL q f m).length ≤ m * (2 * S + 200)
  | 0, _ => by simp [linesL]
  | m + 1, h => by
    have h1 := lines_len q f S hq m (fun k hk => h k (by omega))
    have h2 := h m (by omega)
    have h3 := line_len (f m).f (f m).t (q (f m).f) (f m).a (f m).c (hq _)
    rw [linesL, List.length_append, List.length_append, Nat.succ_mul]
    simp only [List.length_cons, List.length_nil]
    omega
theorem all_of_cnt {f fs : Nat → DiagD} {m S : Nat} (hc : ∀ p, cnt p fs m = cnt p f m) (h : ∀ k, k < m → (f k).f.size ≤ S ∧ (f k).t.size ≤ S) : ∀ k, k < m → (fs k).f.size ≤ S ∧ (fs k).t.size ≤ S := by
  intro k hk
  refine Classical.byContradiction fun hn => ?_
  have h1 := hc (fun d => decide (¬ (d.f.size ≤ S ∧ d.t.size ≤ S)))
  have h2 : cnt (fun d => decide (¬ (d.f.size ≤ S ∧ d.t.size ≤ S))) f m ≤ 0 := cnt_le fun i _ hi => by
    have := h i hi
    exact decide_eq_false (fun hx => hx this)
  have h3 : ∀ j, k < j → 1 ≤ cnt (fun d => decide (¬ (d.f.size ≤ S ∧ d.t.size ≤ S))) fs j := by
    intro j
    induction j with
    | zero => intro h; omega
    | succ j ih =>
      intro hj
      unfold cnt
      rcases Nat.lt_or_ge k j with h' | h'
      · have := ih h'; omega
      · obtain rfl : j = k := by omega
        rw [if_pos (decide_eq_true hn)]
        omega
  have := h3 m hk
  omega
/-- A row of Diags lies in no block of a builder. -/
theorem row_ne {w : World} {b g j : Nat} {s : ByteArray} (hb : w.heap[g]? = some (.cells #[.pointer none, .slice none 0 0] 105 (0, 0))) (h : w.cell? ⟨b, j, none⟩ = some (.string s)) : b ≠ g := by
  rintro rfl
  rw [Lib.cell_of_heap hb] at h
  match j, h with
  | 0, h => cases h
  | 1, h => cases h
  | j + 2, h => simp at h
set_option maxRecDepth 100000 in
set_option maxHeartbeats 4000000 in
theorem all_any (A : Option Addr) (n c : Nat) (g : Nat → Fi) (B : Option Addr) (m d : Nat) (f : Nat → DiagD) (w : World) (hF : FSrc w A n g) (hn : n ≤ 1000) (hm : m ≤ 1000000) (hg : ∀ k, k < n → (g k).n.size ≤ 1000000000000000) (hq : ∀ k, k < n → (g k).t.size ≤ 1000000000000) (S : Nat) (hS1 : S ≤ 1000000000000000) (hfs : ∀ k, k < m → (f k).f.size ≤ S ∧ (f k).t.size ≤ S) (hmS : m * (2 * S + 200) ≤ 140737488355328) (hB : NilOk B m d) (h : Src w B m f) (hS : HasSaid w) (hT : Tab10 w) :
    Calls Tryd.prog 31 #[.slice A n c, .slice B m d] w fun e w' => ∃ fs, e = .returned (.string ⟨(linesL (srcOf g n) fs m).toArray⟩) ∧ Srt ltD fs 0 m ∧ (∀ p, cnt p fs m = cnt p f m) ∧ Below w.heap.size w w' := by
  have HF := Lib.hid hF
  have HS := Lib.hid h
  have HB := Lib.hid hB
  have HQ := Lib.hid (src_size hq)
  have HX := Lib.hid hfs
  have HmS := Lib.hid hmS
  clear hF hB h hq hfs hmS
  have hmm := @run_makeMap Tryd.prog
  have HS0 := Lib.hid hS
  have HT0 := Lib.hid hT
  have HM0 := Lib.hid (Fm.nil w)
  have HW0 := Lib.hid ((Below.refl w.heap.size w).alloc (Nat.le_refl _) (.map #[] 0))
  clear hS hT
  go_enter Tryd.func31, Tryd.ntmps31
  go_wp2_with fail
  clear hmm
  go_loopw [16] (fun v wr => ∃ i : Nat, i ≤ n ∧ v = .int .i64 i ∧ Told wr w.heap.size i g ∧ Below w.heap.size w wr) (fun v _ => n - (intOf v).toNat)
  case atStart => exact ⟨0, by omega, rfl, ⟨[], HM0.out, Nat.le_refl _, fun _ => rfl⟩, HW0.out⟩
  case round =>
    obtain ⟨i, hi, rfl, ⟨L, hL, hLl, hLf⟩, hb⟩ := hrel
    have HL := Lib.hid hL
    have HLf := Lib.hid hLf
    have hLf' := hLf (g i).n
    have HBi := Lib.hid hb
    clear hLf
    by_cases hlt : i < n
    case neg =>
      obtain rfl : i = n := by omega
      have tl : decide ((i : Int) < (i : Int)) = false := by simp
      have hRl := hL.ltS
      clear hlt hL hb HM0 HW0
      go_wp2_with fail
      obtain ⟨wq, hwq⟩ : ∃ wq, wq = wr := ⟨_, rfl⟩
      subst hwq
      have hba : Below wq.heap.size wq (wq.alloc (.cells #[.pointer none, .slice none 0 0] 105)) := (Below.refl _ _).alloc (Nat.le_refl _) _
      refine (sort_prog B m d f _ hm HB.out ((HS.out.later HBi.out).later hba)).mono ?_
      rintro e w3 ⟨A2, c2, fs, rfl, hn2, hs2, ht2, hc2, hb3⟩
      have hsz3 : wq.heap.size + 1 ≤ w3.heap.size := by have := hb3.size; simp at this; omega
      have hblk : w3.heap[wq.heap.size]? = some (.cells #[.pointer none, .slice none 0 0] 105 (0, 0)) := by
        rw [hb3.block _ (by simp)]
        exact heap_alloc_new wq _
      have hB0 := Bd.new (hb3.mono (by simp))
      have h03 : Below wq.heap.size wq w3 := hba.trans (hb3.mono (by simp))
      have HM3 := Lib.hid (HL.out.later h03)
      have H03 := Lib.hid (HBi.out.trans (h03.mono HBi.out.size))
      have HS2 := Lib.hid hs2
      have HT2 := Lib.hid ht2
      have HC2 := Lib.hid hc2
      have HX2 := Lib.hid (all_of_cnt hc2 HX.out)
      have HBd := Lib.hid hB0
      have HBk := Lib.hid hblk
      have hbi := HBi.out.size
      clear hba hn2 hs2 ht2 hc2 hb3 hB0 h03 hblk HL HS HB
      go_wp2_with fail
      go_loopw [37] (fun v wx => ∃ j : Nat, j ≤ m ∧ v = .int .i64 j ∧ Bd w3.heap.size wq.heap.size (Lib.byteCells (linesL (srcOf g i) fs j)) wx ∧ Kp (fun k => k < w3.heap.size ∧ k ≠ wq.heap.size) w3 wx) (fun v _ => m - (intOf v).toNat)
      case atStart => exact ⟨0, by omega, rfl, HBd.out, Kp.refl _ _⟩
      case round =>
        obtain ⟨j, hj, rfl, hbd, hk⟩ := hrel
        have HBj := Lib.hid hbd
        have HKj := Lib.hid hk
        by_cases hlt : j < m
        case neg =>
          obtain rfl : j = m := by omega
          have tl : decide ((j : Int) < (j : Int)) = false := by simp
          clear hlt hbd hk
          go_wp2_with fail
          refine (string_any _ _ _ _ HBj.out).mono ?_
          rintro e w9 ⟨rfl, hb9⟩
          have HB9 := Lib.hid hb9
          clear hb9
          go_wp2_with fail
          go_ret
          refine ⟨fs, rfl, HT2.out, HC2.out, ?_⟩
          have hkb : Below w.heap.size w3 wr := ⟨HKj.out.os, HKj.out.tape, HKj.out.output, HKj.out.size, fun k hk => HKj.out.block k ⟨by omega, by omega⟩ (by omega)⟩
          exact (H03.out.trans hkb).trans (HB9.out.mono (by omega))
        have tl : decide ((j : Int) < (m : Int)) = true := by simp; omega
        obtain ⟨b2, off2, hA2, d0, d1, d2, d3⟩ := HS2.out.at hlt
        subst hA2
        have hne2 := row_ne HBk.out d0
        have hl2 : b2 < w3.heap.size := World.block_lt_of_cell? _ _ d0
        have kc : ∀ o, wr.cell? ⟨b2, o, none⟩ = w3.cell? ⟨b2, o, none⟩ := fun o => hk.cell (p := ⟨b2, o, none⟩) ⟨hl2, hne2⟩ hl2
        have e0 := (kc _).trans d0
        have e1 := (kc _).trans d1
        have e2 := (kc _).trans d2
        have e3 := (kc _).trans d3
        have hbw : Below wr.heap.size wr (wr.alloc (.cells #[.string (fs j).f, .int .i64 (fs j).a, .int .i64 (fs j).c, .string (fs j).t] 55)) := (Below.refl _ _).alloc (Nat.le_refl _) _
        have hMx : Fm wr w.heap.size L := HM3.out.kp hk ⟨by omega, by omega⟩
        have hsx := HX2.out j hlt
        have lo := (hMx.later hbw).look1 (fs j).f (Nat.le_trans (Nat.le_trans hsx.1 hS1) (by unfold maxLen; decide))
        have HBw := Lib.hid hbw
        have HSx := Lib.hid hsx
        clear hbd hk d0 d1 d2 d3 kc hbw hMx hsx
        generalize hzz : (find L (fs j).f).getD zeroF = z at lo
        obtain ⟨zn, zt, zv⟩ := z
        simp only [Fi.val] at lo
        have fld : ∀ w : World, (Instr.field 62 (.agg #[.string zn, .string zt, .int .i64 zv]) 1).run Tryd.prog w = .ok (.string zt) w := fun _ => by kernel_rfl
        have hzt : zt = srcOf g i (fs j).f := by unfold srcOf; rw [← HLf.out, hzz]
        have hkb : Below w.heap.size w3 wr := ⟨HKj.out.os, HKj.out.tape, HKj.out.output, HKj.out.size, fun k hk => HKj.out.block k ⟨by omega, by omega⟩ (by omega)⟩
        have HK5 := Lib.hid ((H03.out.trans hkb).trans (HBw.out.mono (Nat.le_trans H03.out.size hkb.size)))
        have HZt := Lib.hid hzt
        clear hkb hzt
        go_wp2_with fail
        refine (line_prog (fs j).f (fs j).t zt (fs j).a (fs j).c _ (HZt.out ▸ HQ.out _) (Nat.le_trans HSx.out.1 hS1) (Nat.le_trans HSx.out.2 hS1) (said_below HS0.out HK5.out) (tab_below HT0.out HK5.out)).mono ?_
        rintro e w6 ⟨rfl, hb6⟩
        have hlw : ∀ x, (x ≤ j + 1) → (linesL (srcOf g i) fs x).length ≤ 140737488355328 := fun x hx => Nat.le_trans (lines_len _ fs S HQ.out x (fun k hk => HX2.out k (by omega))) (Nat.le_trans (Nat.mul_le_mul_right _ (by omega)) HmS.out)
        have hl1 := hlw (j + 1) (Nat.le_refl _)
        rw [linesL, List.length_append, List.length_append, ← HZt.out] at hl1
        have HL1 := Lib.hid hl1
        have HBd6 := Lib.hid ((HBj.out.later HBw.out).later hb6)
        have HK6 := Lib.hid ((HKj.out.trans (kp_of HBw.out)).trans (kp_of (K := fun k => k < w3.heap.size ∧ k ≠ wq.heap.size) hb6))
        clear hlw hl1 hb6
        go_wp2_with fail
        refine (write_any _ _ _ _ _ HBd6.out (by rw [Lib.byteCells_length]; have := HL1.out; simp only [List.length_cons, List.length_nil] at this; simp [ByteArray.size]; omega) HK6.out.size).mono ?_
        rintro e w7 ⟨rfl, hbd7, hk7⟩
        have HBd7 := Lib.hid hbd7
        have HK7 := Lib.hid (HK6.out.trans hk7)
        clear hbd7 hk7
        go_wp2_with fail
        refine (write_any _ _ _ _ _ HBd7.out (by rw [List.length_append, Lib.byteCells_length, Lib.strCells_length]; have := HL1.out; simp only [List.length_cons, List.length_nil] at this; simp [ByteArray.size]; omega) HK7.out.size).mono ?_
        rintro e w8 ⟨rfl, hbd8, hk8⟩
        have HBd8 := Lib.hid hbd8
        have HK8 := Lib.hid (HK7.out.trans hk8)
        clear hbd8 hk8
        go_wp2_with fail
        refine ⟨⟨j + 1, hlt, by simp, ?_, HK8.out⟩, by simp [intOf]; omega⟩
        have h9 := HBd8.out
        have st : ∀ l : List UInt8, Lib.strCells ⟨l.toArray⟩ = Lib.byteCells l := fun _ => rfl
        rw [st, HZt.out, List.append_assoc] at h9
        have e9 : Lib.byteCells (linesL (srcOf g i) fs (j + 1)) = Lib.byteCells (linesL (srcOf g i) fs j) ++ (Lib.byteCells (lineL (fs j).f.data.toList (fs j).t.data.toList (fs j).a (fs j).c (srcOf g i (fs j).f)) ++ Lib.strCells ⟨#[10]⟩) := by
          rw [linesL]
          simp [Lib.byteCells, Lib.strCells]
        rw [e9]
        exact h9
    have tl : decide ((i : Int) < (n : Int)) = true := by simp; omega
    obtain ⟨b, off, hA, c0, c1, c2⟩ := (HF.out.later hb).at hlt
    subst hA
    have hsz : (g i).n.size ≤ maxLen := Nat.le_trans (hg i hlt) (by unfold maxLen; decide)
    have hbf : Below wr.heap.size wr (wr.alloc (.cells #[.string (g i).n, .string (g i).t, .int .i64 (g i).v] 62)) := (Below.refl _ _).alloc (Nat.le_refl _) _
    have lo := (hL.later hbf).look2 (g i).n hsz
    rw [hLf'] at lo
    have HSz := Lib.hid hsz
    have HBf := Lib.hid hbf
    have hRl := hL.ltS
    clear hL hb hbf hsz hg
    cases hfi : firstOf g i (g i).n with
    | some fo =>
      rw [hfi] at lo
      obtain ⟨on, ot, ov⟩ := fo
      simp only [Option.getD_some, Option.isSome_some, Fi.val] at lo
      go_wp2_with fail
      have hb2 := (HBf.out).alloc (HBf.out.size) (.cells #[.string on, .string ot, .int .i64 ov] 62)
      refine ⟨⟨i + 1, hlt, by simp, ⟨L, HL.out.later hb2, by omega, fun s => ?_⟩, HBi.out.trans (hb2.mono HBi.out.size)⟩, by simp [intOf]; omega⟩
      rw [HLf.out s]
      cases h1 : firstOf g i s with
      | some f => rw [first_some h1]
      | none =>
        rw [first_none h1, if_neg (fun e => by rw [e, h1] at hfi; cases hfi)]
    | none =>
      rw [hfi] at lo
      simp only [Option.getD_none, Option.isSome_none, zeroF, Fi.val] at lo
      have hb2 := (HBf.out).alloc (HBf.out.size) (.cells #[.string ⟨#[]⟩, .string ⟨#[]⟩, .int .i64 0] 62)
      obtain ⟨w2, hrun, hM2, hk2⟩ := Fm.put (HL.out.later hb2) (by omega) (g i).n (g i).t (g i).v HSz.out
      have HB2 := Lib.hid hb2
      have HM2 := Lib.hid hM2
      have HK2 := Lib.hid hk2
      clear hb2 hM2 hk2
      go_wp2_with fail
      have hfl : find L (g i).n = none := by rw [HLf.out, hfi]
      refine ⟨⟨i + 1, hlt, by simp, ⟨_, HM2.out, by rw [put_len (f := ⟨(g i).n, (g i).t, (g i).v⟩) hfl]; omega, fun s => ?_⟩, (HBi.out.trans (HB2.out.mono HBi.out.size)).trans ?_⟩, by simp [intOf]; omega⟩
      · rw [find_put (f := ⟨(g i).n, (g i).t, (g i).v⟩) hfl, HLf.out s]
        by_cases h1 : (g i).n = s
        · rw [if_pos h1, ← h1, first_none hfi, if_pos rfl]
        · rw [if_neg h1]
          cases h2 : firstOf g i s with
          | some f => rw [first_some h2]
          | none => rw [first_none h2, if_neg h1]
      · exact HK2.out.belowS (Nat.le_refl _) (Nat.le_trans HBi.out.size HB2.out.size)
end Go.Proofs.YteghbblbkljdhaaDoor
