import Derived.Test.YtogoolpgajopcaaTrNa
import Derived.Test.YtogoolpgajopcaaTrS
namespace Go.Proofs.Ytogoolpgajopcaa
open Go.RowKit Go.Maps Go.WideMaps
def WalkP (P : Fo) : Prop := ∀ (k : Int) (t : ByteArray) (n m a : Int) (A : Option Addr) (c : Nat) (w : World) (B bs bn bw mb : Nat) (l : List ByteArray), Holds w B P A 0 → P.len ≤ 1000000000000000 → NS B bs bn bw mb l w → l.length + (1 + P.nodes) ≤ 40000 → t.size ≤ 1000000000000000 →
    Calls Try.prog 63 #[val6 k t n m a P.len A c, .pointer (some ⟨bs, 0, none⟩), .pointer (some ⟨bn, 0, none⟩), .pointer (some ⟨bw, 0, none⟩)] w fun e w' => e = .returned (.tuple #[]) ∧ NS B bs bn bw mb (P.nm (addN l k t)) w' ∧ w.heap.size ≤ w'.heap.size ∧ Below B w w'
theorem strK : Keyed Try.prog 9 := string_keyed Try.underlying9
theorem zeroU (w : World) : (zeroValue 47).run Try.prog w = .ok (.agg #[]) w := by kernel_rfl
theorem infoS : (Try.prog.info? 9).map (fun i => (i.zero, i.size, i.bytes)) = some (some (.string ⟨#[]⟩), 1, 16) := by kernel_rfl
theorem after_map {B bs bn bw mb : Nat} {l : List ByteArray} {w w1 w2 : World} {o : Obj} (h0 : NS B bs bn bw mb l w) (hb : Below w.heap.size w w1) (hn : NS B bs bn bw mb l w1) (hg : (w1.alloc o).grownBy w2 (some mb)) : ∃ A c, w2.cell? ⟨bn, 0, none⟩ = some (.slice A l.length c) ∧ w2.ownsRow (bw + 1) 9 1 (.slice A l.length c) l.length (l.map Value.string) ∧ w2.cell? ⟨bs, 0, none⟩ = some (.map (some mb)) ∧ w2.cell? ⟨bw, 0, none⟩ = some (.func (.func 63) #[] #[.pointer (some ⟨bs, 0, none⟩), .pointer (some ⟨bn, 0, none⟩), .pointer (some ⟨bw, 0, none⟩)]) ∧ w2.frozen? ⟨bn, 0, none⟩ = false ∧ (∀ b x, b < w1.heap.size → b ≠ mb → w2.cell? ⟨b, x, none⟩ = w1.cell? ⟨b, x, none⟩) ∧ (∀ g, Value.ownBlock (.slice A l.length c) = some g → bw + 1 ≤ g ∧ g < w.heap.size) := by
  obtain ⟨A, c, r1, r2⟩ := h0.row
  have hlt := r2.lt
  replace r1 := (hb.cell (p := ⟨bn, 0, none⟩) (show bn < _ by have := h0.o4; have := h0.o5; omega)).trans r1
  replace r2 := own_below r2 hb
  obtain ⟨o1, o2, o3, o4, o5, s0, w0, hm, -, nf⟩ := hn
  have hk : ∀ b x, b < w1.heap.size → b ≠ mb → w2.cell? ⟨b, x, none⟩ = w1.cell? ⟨b, x, none⟩ ∧ w2.frozen? ⟨b, x, none⟩ = w1.frozen? ⟨b, x, none⟩ := fun b x h1 h2 => by
    have e1 := hg.block b (by simp; omega) (fun e => by injection e with e; exact h2 e)
    have e2 : (w1.alloc o).heap[b]? = w1.heap[b]? := Below.heap_alloc w1 _ _ h1
    exact ⟨World.cell?_of_block (a := ⟨b, x, none⟩) (e1.trans e2), World.frozen?_of_block (a := ⟨b, x, none⟩) (e1.trans e2)⟩
  refine ⟨A, c, (hk bn 0 (by omega) (by omega)).1.trans r1, (r2.alloc o).kept hg (Or.inr (fun e => by have := (r2.lt _ e).1; omega)), (hk bs 0 (by omega) (by omega)).1.trans s0, (hk bw 0 (by omega) (by omega)).1.trans w0, (hk bn 0 (by omega) (by omega)).2.trans nf, fun b x h1 h2 => (hk b x h1 h2).1, hlt⟩
theorem one_str (t : ByteArray) : ∀ u ∈ [Value.string t], u.oneCell' = true := by
  intro u hu
  rw [List.mem_singleton] at hu
  subst hu
  rfl
theorem after_row {bs bn bw mb sz L n : Nat} {w2 w3 : World} {o : Obj} {A : Option Addr} {c : Nat} {x y : Value} {D : DataW Unit} (hlt : ∀ g, Value.ownBlock (.slice A L c) = some g → bw + 1 ≤ g ∧ g < sz) (hg : (w2.alloc o).grownBy w3 (Value.ownBlock (.slice A L c))) (h1 : w2.cell? ⟨bs, 0, none⟩ = some x) (h2 : w2.cell? ⟨bw, 0, none⟩ = some y) (h3 : w2.cell? ⟨bn, 0, none⟩ = some (.slice A L c)) (h4 : w2.frozen? ⟨bn, 0, none⟩ = false) (hm : w2.ownsMap Try.prog 9 unitElem mb n D) (ho : mb < bs ∧ bs < bn ∧ bn < bw) :
    w3.cell? ⟨bn, 0, none⟩ = some (.slice A L c) ∧ w3.frozen? ⟨bn, 0, none⟩ = false ∧ w3.cell? ⟨bs, 0, none⟩ = some x ∧ w3.cell? ⟨bw, 0, none⟩ = some y ∧ (∀ b i, b < w2.heap.size → sz ≤ b → w3.cell? ⟨b, i, none⟩ = w2.cell? ⟨b, i, none⟩) ∧ w3.ownsMap Try.prog 9 unitElem mb n D := by
  have hk : ∀ b i, b < w2.heap.size → (b ≤ bw ∨ sz ≤ b) → w3.cell? ⟨b, i, none⟩ = w2.cell? ⟨b, i, none⟩ ∧ w3.frozen? ⟨b, i, none⟩ = w2.frozen? ⟨b, i, none⟩ := fun b i h1 h2 => by
    have e1 := hg.block b (by simp; omega) (fun e => by have := hlt b e.symm; omega)
    have e2 : (w2.alloc o).heap[b]? = w2.heap[b]? := Below.heap_alloc w2 _ _ h1
    exact ⟨World.cell?_of_block (a := ⟨b, i, none⟩) (e1.trans e2), World.frozen?_of_block (a := ⟨b, i, none⟩) (e1.trans e2)⟩
  have l1 : bs < w2.heap.size := World.block_lt_of_cell? _ _ h1
  have l2 : bw < w2.heap.size := World.block_lt_of_cell? _ _ h2
  have l3 : bn < w2.heap.size := World.block_lt_of_cell? _ _ h3
  exact ⟨(hk bn 0 l3 (by omega)).1.trans h3, (hk bn 0 l3 (by omega)).2.trans h4, (hk bs 0 l1 (by omega)).1.trans h1, (hk bw 0 l2 (by omega)).1.trans h2, fun b i hb hs => (hk b i hb (by omega)).1, (hm.alloc o).kept hg (fun e => by have := hlt mb e.symm; omega)⟩
theorem row_below {B bw sz L : Nat} {w w2 w3 : World} {o : Obj} {A : Option Addr} {c : Nat} (hb : Below B w w2) (hg : (w2.alloc o).grownBy w3 (Value.ownBlock (.slice A L c))) (hlt : ∀ g, Value.ownBlock (.slice A L c) = some g → bw + 1 ≤ g ∧ g < sz) (ho : B ≤ bw ∧ B ≤ w2.heap.size) : Below B w w3 :=
  (hb.alloc (by omega) o).grown hg (by rw [alloc_size]; omega) (fun g h => by have := hlt g h; omega)
theorem row_size {w2 w3 : World} {o : Obj} {r : Option Nat} (hg : (w2.alloc o).grownBy w3 r) : w2.heap.size + 1 ≤ w3.heap.size := by
  have := hg.size
  rw [alloc_size] at this
  exact this
theorem after_size {mb : Nat} {w1 w2 : World} {o : Obj} (hg : (w1.alloc o).grownBy w2 (some mb)) : w1.heap.size + 1 ≤ w2.heap.size := by
  have := hg.size
  simp only [alloc_size] at this
  exact this
theorem after_below {B bs bn bw mb : Nat} {l : List ByteArray} {w w1 w2 : World} {o : Obj} (hb : Below B w w1) (hn : NS B bs bn bw mb l w1) (hg : (w1.alloc o).grownBy w2 (some mb)) : Below B w w2 := by
  have h1 := hn.o1
  have h2 := hn.o2
  have h3 := hn.o3
  have h4 := hn.o4
  have h5 := hn.o5
  exact (hb.alloc (by omega) o).grown hg (by simp; omega) (fun g hg => by cases hg; exact h1)
set_option maxRecDepth 100000 in
set_option maxHeartbeats 4000000 in
theorem walk_step (P : Fo) (hall : AllC WalkP P) : WalkP P := by
  intro k t n m a A c w B bs bn bw mb l hH hl hN hlen ht
  simp only [val6, cells6]
  have HA := Lib.hid hall
  have HH := Lib.hid hH
  have HN0 := Lib.hid hN
  have KN := Lib.hid (fun W => namesOne_prog k t n m a P.len A c W)
  have hBw : B ≤ w.heap.size := by have := hN.o1; have := hN.o2; have := hN.o3; have := hN.o4; have := hN.o5; omega
  have hlen1 : (addN l k t).length + P.nodes ≤ 40000 := by have := addN_len l k t; omega
  obtain ⟨l1, hl1⟩ : ∃ l1, addN l k t = l1 := ⟨_, rfl⟩
  rw [hl1] at hlen1 ⊢
  clear hall hH hN
  cases hb : nameB k t with
  | false =>
    have HE1 : Hid (l1 = l) := Lib.hid (by rw [← hl1]; unfold addN; rw [hb]; rfl)
    rw [hb] at KN
    clear hb hl1
    go_enter Try.func63, Try.ntmps63
    go_wp2_with fail
    refine (KN.out _).mono ?_
    rintro e w1 ⟨rfl, hb1⟩
    have bx := Box.later (Box.new w k t n m a P.len A c) hb1
    have bw1 : Below w.heap.size w w1 := bx.below
    obtain ⟨-, -, c0, c1, c2, c3, c4, c5⟩ := bx
    have HNl : Hid (NS B bs bn bw mb l1 w1) := Lib.hid (by rw [HE1.out]; exact HN0.out.below bw1)
    have HBl := Lib.hid (bw1.mono hBw)
    have HHl := Lib.hid (HH.out.below HBl.out)
    have HSl := bw1.size
    clear hb1 bw1 HN0 HH KN
    go_wp2_with fail
    go_loopw [8, 32] (fun _ i wr => ∃ (j : Nat) (R : Fo) (lc : List ByteArray), j + R.len = P.len ∧ i = .int .i64 j ∧ R.nm lc = P.nm l1 ∧ AllC WalkP R ∧ Holds wr B R A j ∧ NS B bs bn bw mb lc wr ∧ Below B w wr ∧ w.heap.size ≤ wr.heap.size ∧ lc.length + R.nodes ≤ 40000) (fun _ i _ => P.len - (intOf i).toNat)
    case atStart => exact ⟨0, P, l1, by omega, by go_num, rfl, HA.out, HHl.out, HNl.out, HBl.out, HSl, hlen1⟩
    case round =>
      obtain ⟨j, R, lc, hj, rfl, hq, hall, hHr, hN, hB, hS, hlc⟩ := hrel
      have HBw := Lib.hid hB
      have HQ := Lib.hid hq
      have HN := Lib.hid hN
      clear hB hq
      cases R with
      | nil =>
        have tj : decide ((j : Int) < (P.len : Int)) = false := by simp; simp [Fo.len] at hj; omega
        have tj2 : decide (j < P.len) = false := by simp; simp [Fo.len] at hj; omega
        have HE : Hid (NS B bs bn bw mb (P.nm l1) wr) := Lib.hid (by rw [← HQ.out]; exact HN.out)
        clear hj hall hHr hN hlc
        go_wp2_with fail
        go_end0
        exact ⟨rfl, HE.out, hS, HBw.out⟩
      | cons k1 t1 n1 m1 a1 P1 R1 =>
        obtain ⟨⟨ad, A1, c1, rfl, hblk, hcell, hc1, hc2, ht1, hP1⟩, hR1⟩ := hHr
        obtain ⟨hall1, hall2⟩ := hall
        have hjl : j + 1 + R1.len = P.len := by simp only [Fo.len] at hj; omega
        have hjl2 : j < P.len := by omega
        obtain ⟨f0, f1, f2, f3, f4, f5⟩ := six hcell
        have hw := hN.w0
        have hbw : bw < wr.heap.size := hN.o5
        have hnd : lc.length + (1 + P1.nodes) + R1.nodes ≤ 40000 := by simp only [Fo.nodes] at hlc; omega
        have K : Hid (∀ o : Obj, _) := Lib.hid fun (o : Obj) => hall1 k1 t1 n1 m1 a1 A1 c1 (wr.alloc o) B bs bn bw mb lc (hP1.below ((Below.refl _ _).alloc (by have := hN.o1; have := hN.o2; have := hN.o3; have := hN.o4; omega) _)) (by omega) (hN.below ((Below.refl _ _).alloc (Nat.le_refl _) _)) (by omega) ht1
        have hBwr : B ≤ wr.heap.size := by have := hN.o1; have := hN.o2; have := hN.o3; have := hN.o4; omega
        have HQ2 : Hid (R1.nm (P1.nm (addN lc k1 t1)) = P.nm l1) := HQ
        have hl2 : (P1.nm (addN lc k1 t1)).length + R1.nodes ≤ 40000 := by
          have h1 := nm_len P1 (addN lc k1 t1)
          have h2 := addN_len lc k1 t1
          omega
        have HHR := Lib.hid hR1
        have HA2 := Lib.hid hall2
        simp only [val6, cells6] at K
        generalize P1.nm (addN lc k1 t1) = l2 at *
        clear hcell hR1 hall1 hall2 hj hP1 hN hlc hnd HQ
        go_wp2_with fail
        refine (K.out _).mono ?_
        rintro e w2 ⟨rfl, hn2, hs2, hb2⟩
        rw [alloc_size] at hs2
        have HB2 := Lib.hid ((HBw.out.alloc (by have := HBw.out.size; omega) _).trans hb2)
        have HH2 := Lib.hid ((HHR.out.below ((Below.refl B wr).alloc hBwr _)).below hb2)
        have HN2 := Lib.hid hn2
        clear hb2 hn2
        go_wp2_with fail
        go_roundw
        case rel => exact ⟨j + 1, R1, l2, hjl, by go_num, HQ2.out, HA2.out, HH2.out, HN2.out, HB2.out, by omega, hl2⟩
        case measure => simp [intOf]; omega
  | true =>
  rw [hb] at KN
  cases hf : hasN l t with
  | true =>
    have HE1 : Hid (l1 = l) := Lib.hid (by rw [← hl1]; unfold addN; rw [hb, hf]; rfl)
    have hkey : keyOf Try.prog 9 (.string t) = some (.string t.data.toList) := keyOf_string_mk Try.underlying9 (by unfold maxLen; omega)
    have hhas := has_setN l t
    rw [hf] at hhas
    clear hb hl1 hf
    go_enter Try.func63, Try.ntmps63
    go_wp2_with fail
    refine (KN.out _).mono ?_
    rintro e w1 ⟨rfl, hb1⟩
    have bx := Box.later (Box.new w k t n m a P.len A c) hb1
    have bw1 : Below w.heap.size w w1 := bx.below
    obtain ⟨-, up, c0, c1, c2, c3, c4, c5⟩ := bx
    have hn1 := HN0.out.below bw1
    have s0 := hn1.s0
    have HM := Lib.hid hn1.map
    go_wp2_with (at_lookup; refine wpList_lookup_own_unit _ rfl _ _ 45 rfl 9 47 strK Try.underlying45 (zeroU _) mb l.length _ rfl HM.out _ _ rfl hkey ?_; rw [hhas])
    have HNl : Hid (NS B bs bn bw mb l1 (w1.alloc (.cells #[] 47))) := Lib.hid (by rw [HE1.out]; exact hn1.below ((Below.refl _ _).alloc (Nat.le_refl _) _))
    have bw2 : Below w.heap.size w (w1.alloc (.cells #[] 47)) := bw1.alloc bw1.size _
    have HBl := Lib.hid (bw2.mono hBw)
    have HHl := Lib.hid (HH.out.below HBl.out)
    have HSl := bw2.size
    clear hb1 bw1 bw2 hn1 HN0 HH KN HM hhas hkey s0 HE1
    go_loopw [8, 32] (fun _ i wr => ∃ (j : Nat) (R : Fo) (lc : List ByteArray), j + R.len = P.len ∧ i = .int .i64 j ∧ R.nm lc = P.nm l1 ∧ AllC WalkP R ∧ Holds wr B R A j ∧ NS B bs bn bw mb lc wr ∧ Below B w wr ∧ w.heap.size ≤ wr.heap.size ∧ lc.length + R.nodes ≤ 40000) (fun _ i _ => P.len - (intOf i).toNat)
    case atStart => exact ⟨0, P, l1, by omega, by go_num, rfl, HA.out, HHl.out, HNl.out, HBl.out, HSl, hlen1⟩
    case round =>
      obtain ⟨j, R, lc, hj, rfl, hq, hall, hHr, hN, hB, hS, hlc⟩ := hrel
      have HBw := Lib.hid hB
      have HQ := Lib.hid hq
      have HN := Lib.hid hN
      clear hB hq
      cases R with
      | nil =>
        have tj : decide ((j : Int) < (P.len : Int)) = false := by simp; simp [Fo.len] at hj; omega
        have tj2 : decide (j < P.len) = false := by simp; simp [Fo.len] at hj; omega
        have HE : Hid (NS B bs bn bw mb (P.nm l1) wr) := Lib.hid (by rw [← HQ.out]; exact HN.out)
        clear hj hall hHr hN hlc
        go_wp2_with fail
        go_end0
        exact ⟨rfl, HE.out, hS, HBw.out⟩
      | cons k1 t1 n1 m1 a1 P1 R1 =>
        obtain ⟨⟨ad, A1, c1, rfl, hblk, hcell, hc1, hc2, ht1, hP1⟩, hR1⟩ := hHr
        obtain ⟨hall1, hall2⟩ := hall
        have hjl : j + 1 + R1.len = P.len := by simp only [Fo.len] at hj; omega
        have hjl2 : j < P.len := by omega
        obtain ⟨f0, f1, f2, f3, f4, f5⟩ := six hcell
        have hw := hN.w0
        have hbw : bw < wr.heap.size := hN.o5
        have hnd : lc.length + (1 + P1.nodes) + R1.nodes ≤ 40000 := by simp only [Fo.nodes] at hlc; omega
        have K : Hid (∀ o : Obj, _) := Lib.hid fun (o : Obj) => hall1 k1 t1 n1 m1 a1 A1 c1 (wr.alloc o) B bs bn bw mb lc (hP1.below ((Below.refl _ _).alloc (by have := hN.o1; have := hN.o2; have := hN.o3; have := hN.o4; omega) _)) (by omega) (hN.below ((Below.refl _ _).alloc (Nat.le_refl _) _)) (by omega) ht1
        have hBwr : B ≤ wr.heap.size := by have := hN.o1; have := hN.o2; have := hN.o3; have := hN.o4; omega
        have HQ2 : Hid (R1.nm (P1.nm (addN lc k1 t1)) = P.nm l1) := HQ
        have hl2 : (P1.nm (addN lc k1 t1)).length + R1.nodes ≤ 40000 := by
          have h1 := nm_len P1 (addN lc k1 t1)
          have h2 := addN_len lc k1 t1
          omega
        have HHR := Lib.hid hR1
        have HA2 := Lib.hid hall2
        simp only [val6, cells6] at K
        generalize P1.nm (addN lc k1 t1) = l2 at *
        clear hcell hR1 hall1 hall2 hj hP1 hN hlc hnd HQ
        go_wp2_with fail
        refine (K.out _).mono ?_
        rintro e w2 ⟨rfl, hn2, hs2, hb2⟩
        rw [alloc_size] at hs2
        have HB2 := Lib.hid ((HBw.out.alloc (by have := HBw.out.size; omega) _).trans hb2)
        have HH2 := Lib.hid ((HHR.out.below ((Below.refl B wr).alloc hBwr _)).below hb2)
        have HN2 := Lib.hid hn2
        clear hb2 hn2
        go_wp2_with fail
        go_roundw
        case rel => exact ⟨j + 1, R1, l2, hjl, by go_num, HQ2.out, HA2.out, HH2.out, HN2.out, HB2.out, by omega, hl2⟩
        case measure => simp [intOf]; omega
  | false =>
    obtain ⟨i0, hi, hz0, hz1, hz2⟩ := info_parts infoS
    have HE1 : Hid (l1 = l ++ [t]) := Lib.hid (by rw [← hl1]; unfold addN; rw [hb, hf]; rfl)
    have hkey : keyOf Try.prog 9 (.string t) = some (.string t.data.toList) := keyOf_string_mk Try.underlying9 (by unfold maxLen; omega)
    have hhas := has_setN l t
    rw [hf] at hhas
    clear hb hl1 hf
    go_enter Try.func63, Try.ntmps63
    go_wp2_with fail
    refine (KN.out _).mono ?_
    rintro e w1 ⟨rfl, hb1⟩
    have bx := Box.later (Box.new w k t n m a P.len A c) hb1
    have bw1 : Below w.heap.size w w1 := bx.below
    obtain ⟨-, up, c0, c1, c2, c3, c4, c5⟩ := bx
    have hn1 := HN0.out.below bw1
    have s0 := hn1.s0
    have o1 := hn1.o1
    have o2 := hn1.o2
    have o3 := hn1.o3
    have o4 := hn1.o4
    have o5 := hn1.o5
    have o6 := HN0.out.o5
    have HM := Lib.hid hn1.map
    have hsw := bw1.size
    have hbs : bs < w1.heap.size := World.block_lt_of_cell? _ _ s0
    have hmw : w.heap.size ≠ mb := by have := HN0.out.o2; have := HN0.out.o3; have := HN0.out.o4; have := HN0.out.o5; omega
    go_wp2_with (first
      | (at_lookup; refine wpList_lookup_own_unit _ rfl _ _ 45 rfl 9 47 strK Try.underlying45 (zeroU _) mb l.length _ rfl HM.out _ _ rfl hkey ?_; rw [hhas])
      | (at_mapUpdate; go_loud (refine wpList_mapUpdate_own _ rfl _ _ _ 45 rfl 9 47 strK Try.underlying45 (unitElem (H := Unit)) mb l.length _ rfl (HM.out.alloc _) (by unfold maxLen; omega) _ _ _ rfl rfl hkey _ [] unitElem_mk ?_); intro w2 hown2 hgrow2; obtain ⟨A1, cc1, q1, hR, q3, q4, q2, hk, hlt⟩ := after_map HN0.out bw1 hn1 hgrow2; have d0 := (hk w.heap.size 0 up hmw).trans c0; have d1 := (hk w.heap.size 1 up hmw).trans c1; have d2 := (hk w.heap.size 2 up hmw).trans c2; have d3 := (hk w.heap.size 3 up hmw).trans c3; have d4 := (hk w.heap.size 4 up hmw).trans c4; have d5 := (hk w.heap.size 5 up hmw).trans c5; have HR := Lib.hid hR; have HLT := Lib.hid hlt; have HQ3 := Lib.hid q3; have HQ4 := Lib.hid q4; have hs2 : w1.heap.size + 1 ≤ w2.heap.size := after_size hgrow2; have HO2 := Lib.hid hown2; have HB2 := Lib.hid (after_below (bw1.mono hBw) hn1 hgrow2); have hbn : bn < w2.heap.size := World.block_lt_of_cell? _ _ q1; have hub : w.heap.size < w2.heap.size := World.block_lt_of_cell? _ _ d0; clear hk hlt hR q3 q4 hown2 hgrow2)
      | (at_builtin; refine wpList_append_own _ rfl _ _ 32 rfl (bw + 1) 9 i0 (.string ⟨#[]⟩) 1 16 Try.underlying32 hi hz0 hz1 hz2 rfl (by decide) _ _ _ rfl (HR.out.alloc _) ⟨w2.heap.size, 0, none⟩ 1 1 [.string t] rfl rfl (cell_one_new _ _ _) (one_str t) (by unfold maxLen; omega) (by omega) (by rw [alloc_size]; omega) ?_; intro v' w3 hown3 hgrow3 _; obtain ⟨A3, c3', hv⟩ := own_form hown3; subst hv; obtain ⟨g1, g2, g3, g4, hk3, g5⟩ := after_row HLT.out hgrow3 HQ3.out HQ4.out q1 q2 HO2.out (by omega); have e0 := (hk3 w.heap.size 0 hub (by omega)).trans d0; have e1 := (hk3 w.heap.size 1 hub (by omega)).trans d1; have e2 := (hk3 w.heap.size 2 hub (by omega)).trans d2; have e3 := (hk3 w.heap.size 3 hub (by omega)).trans d3; have e4 := (hk3 w.heap.size 4 hub (by omega)).trans d4; have e5 := (hk3 w.heap.size 5 hub (by omega)).trans d5; have HB3 := Lib.hid (row_below HB2.out hgrow3 HLT.out (by omega)); have HG5 := Lib.hid g5; have HG3 := Lib.hid g3; have HG4 := Lib.hid g4; have HO3 := Lib.hid hown3; have hs3 : w2.heap.size + 1 ≤ w3.heap.size := row_size hgrow3; have hbn3 : bn < w3.heap.size := Nat.lt_of_lt_of_le hbn (Nat.le_of_succ_le hs3); have hub3 : w.heap.size < w3.heap.size := Nat.lt_of_lt_of_le hub (Nat.le_of_succ_le hs3); clear hk3 g3 g4 g5 d0 d1 d2 d3 d4 d5 q1 q2 hown3 hgrow3))
    have HNl : Hid (NS B bs bn bw mb l1 (w3.setCell ⟨bn, 0, none⟩ (.slice A3 (l.length + 1) c3'))) := Lib.hid (by
      have hl2 : (l ++ [t]).length = l.length + 1 := by simp
      rw [HE1.out]
      refine ⟨o1, o2, o3, o4, by simp; omega, ?_, ?_, ?_, ⟨A3, c3', ?_, ?_⟩, ?_⟩
      · rw [World.cell?_setCell_other _ _ _ _ (by intro e; injection e; omega)]; exact HG3.out
      · rw [World.cell?_setCell_other _ _ _ _ (by intro e; injection e; omega)]; exact HG4.out
      · rw [hl2, setN_add]; exact HG5.out.setCell (by show mb ≠ bn; omega) _
      · rw [hl2]; exact World.cell?_setCell_same _ _ _ g1
      · rw [hl2, List.map_append]; exact own_set HO3.out (by show bn < bw + 1; omega) _
      · rw [World.frozen?_setCell]; exact g2)
    have HBl : Hid (Below B w (w3.setCell ⟨bn, 0, none⟩ (.slice A3 (l.length + 1) c3'))) := Lib.hid (HB3.out.setCell (by show B ≤ bn; omega) _)
    have HHl := Lib.hid (HH.out.below HBl.out)
    have HSl : w.heap.size ≤ (w3.setCell ⟨bn, 0, none⟩ (.slice A3 (l.length + 1) c3')).heap.size := by simp; omega
    clear hb1 bw1 hn1 HN0 HH KN HM hhas hkey s0 HE1 e0 e1 e2 e3 e4 g1 g2 HG3 HG4 HG5 HO2 HO3 HB2 HB3 HR HQ3 HQ4 HLT
    go_loopw [8, 32] (fun _ i wr => ∃ (j : Nat) (R : Fo) (lc : List ByteArray), j + R.len = P.len ∧ i = .int .i64 j ∧ R.nm lc = P.nm l1 ∧ AllC WalkP R ∧ Holds wr B R A j ∧ NS B bs bn bw mb lc wr ∧ Below B w wr ∧ w.heap.size ≤ wr.heap.size ∧ lc.length + R.nodes ≤ 40000) (fun _ i _ => P.len - (intOf i).toNat)
    case atStart => exact ⟨0, P, l1, by omega, by go_num, rfl, HA.out, HHl.out, HNl.out, HBl.out, HSl, hlen1⟩
    case round =>
      obtain ⟨j, R, lc, hj, rfl, hq, hall, hHr, hN, hB, hS, hlc⟩ := hrel
      have HBw := Lib.hid hB
      have HQ := Lib.hid hq
      have HN := Lib.hid hN
      clear hB hq
      cases R with
      | nil =>
        have tj : decide ((j : Int) < (P.len : Int)) = false := by simp; simp [Fo.len] at hj; omega
        have tj2 : decide (j < P.len) = false := by simp; simp [Fo.len] at hj; omega
        have HE : Hid (NS B bs bn bw mb (P.nm l1) wr) := Lib.hid (by rw [← HQ.out]; exact HN.out)
        clear hj hall hHr hN hlc
        go_wp2_with fail
        go_end0
        exact ⟨rfl, HE.out, hS, HBw.out⟩
      | cons k1 t1 n1 m1 a1 P1 R1 =>
        obtain ⟨⟨ad, A1, c1, rfl, hblk, hcell, hc1, hc2, ht1, hP1⟩, hR1⟩ := hHr
        obtain ⟨hall1, hall2⟩ := hall
        have hjl : j + 1 + R1.len = P.len := by simp only [Fo.len] at hj; omega
        have hjl2 : j < P.len := by omega
        obtain ⟨f0, f1, f2, f3, f4, f5⟩ := six hcell
        have hw := hN.w0
        have hbw : bw < wr.heap.size := hN.o5
        have hnd : lc.length + (1 + P1.nodes) + R1.nodes ≤ 40000 := by simp only [Fo.nodes] at hlc; omega
        have K : Hid (∀ o : Obj, _) := Lib.hid fun (o : Obj) => hall1 k1 t1 n1 m1 a1 A1 c1 (wr.alloc o) B bs bn bw mb lc (hP1.below ((Below.refl _ _).alloc (by have := hN.o1; have := hN.o2; have := hN.o3; have := hN.o4; omega) _)) (by omega) (hN.below ((Below.refl _ _).alloc (Nat.le_refl _) _)) (by omega) ht1
        have hBwr : B ≤ wr.heap.size := by have := hN.o1; have := hN.o2; have := hN.o3; have := hN.o4; omega
        have HQ2 : Hid (R1.nm (P1.nm (addN lc k1 t1)) = P.nm l1) := HQ
        have hl2 : (P1.nm (addN lc k1 t1)).length + R1.nodes ≤ 40000 := by
          have h1 := nm_len P1 (addN lc k1 t1)
          have h2 := addN_len lc k1 t1
          omega
        have HHR := Lib.hid hR1
        have HA2 := Lib.hid hall2
        simp only [val6, cells6] at K
        generalize P1.nm (addN lc k1 t1) = l2 at *
        clear hcell hR1 hall1 hall2 hj hP1 hN hlc hnd HQ
        go_wp2_with fail
        refine (K.out _).mono ?_
        rintro e w2 ⟨rfl, hn2, hs2, hb2⟩
        rw [alloc_size] at hs2
        have HB2 := Lib.hid ((HBw.out.alloc (by have := HBw.out.size; omega) _).trans hb2)
        have HH2 := Lib.hid ((HHR.out.below ((Below.refl B wr).alloc hBwr _)).below hb2)
        have HN2 := Lib.hid hn2
        clear hb2 hn2
        go_wp2_with fail
        go_roundw
        case rel => exact ⟨j + 1, R1, l2, hjl, by go_num, HQ2.out, HA2.out, HH2.out, HN2.out, HB2.out, by omega, hl2⟩
        case measure => simp [intOf]; omega
theorem walk_prog (P : Fo) : WalkP P := fo_ind walk_step P
end Go.Proofs.Ytogoolpgajopcaa
