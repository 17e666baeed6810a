import Derived.Test.YtlooadichhpgeaaGreatDoorMe10
import Derived.Test.YtlooadichhpgeaaGreatDoorMe15
namespace Go.Proofs.YtlooadichhpgeaaGreatDoor
open Go.RowKit
theorem shape_kinds (k : Int) (hk : (shapeK k).known = true) : ∃ lo hi, shapeK k = ⟨false, false, false, false, lo, hi, true⟩ ∨ shapeK k = ⟨false, true, false, false, lo, hi, true⟩ ∨ shapeK k = ⟨true, false, false, false, lo, hi, true⟩ ∨ shapeK k = ⟨false, false, false, true, lo, hi, true⟩ ∨ shapeK k = ⟨false, false, true, false, lo, hi, true⟩ ∨ shapeK k = ⟨true, true, false, false, lo, hi, true⟩ := by
 unfold shapeK at hk ⊢
 by_cases h : 1 ≤ k ∧ k ≤ 8
 ·simp only [if_pos h]
  exact ⟨0, 0, (.inl rfl)⟩
 simp only [if_neg h] at hk ⊢
 clear h
 by_cases h : k = 9
 ·simp only [if_pos h]
  exact ⟨0, 0, (.inr (.inl rfl))⟩
 simp only [if_neg h] at hk ⊢
 clear h
 by_cases h : k = 10 ∨ k = 16 ∨ k = 22
 ·simp only [if_pos h]
  exact ⟨0, 0, (.inr (.inr (.inl rfl)))⟩
 simp only [if_neg h] at hk ⊢
 clear h
 by_cases h : k = 11 ∨ k = 18
 ·simp only [if_pos h]
  exact ⟨1, 1, (.inl rfl)⟩
 simp only [if_neg h] at hk ⊢
 clear h
 by_cases h : k = 12
 ·simp only [if_pos h]
  exact ⟨0, (-1), (.inl rfl)⟩
 simp only [if_neg h] at hk ⊢
 clear h
 by_cases h : k = 13
 ·simp only [if_pos h]
  exact ⟨1, (-1), (.inr (.inr (.inr (.inl rfl))))⟩
 simp only [if_neg h] at hk ⊢
 clear h
 by_cases h : k = 14
 ·simp only [if_pos h]
  exact ⟨0, 0, (.inr (.inr (.inr (.inr (.inl rfl)))))⟩
 simp only [if_neg h] at hk ⊢
 clear h
 by_cases h : k = 15 ∨ k = 23
 ·simp only [if_pos h]
  exact ⟨2, (-1), (.inl rfl)⟩
 simp only [if_neg h] at hk ⊢
 clear h
 by_cases h : k = 17
 ·simp only [if_pos h]
  exact ⟨0, (-1), (.inr (.inr (.inl rfl)))⟩
 simp only [if_neg h] at hk ⊢
 clear h
 by_cases h : k = 19
 ·simp only [if_pos h]
  exact ⟨2, 2, (.inl rfl)⟩
 simp only [if_neg h] at hk ⊢
 clear h
 by_cases h : k = 20
 ·simp only [if_pos h]
  exact ⟨2, 2, (.inr (.inr (.inr (.inr (.inr rfl)))))⟩
 simp only [if_neg h] at hk ⊢
 clear h
 by_cases h : k = 21
 ·simp only [if_pos h]
  exact ⟨4, 4, (.inr (.inr (.inr (.inr (.inr rfl)))))⟩
 simp only [if_neg h] at hk ⊢
 clear h
 cases hk
theorem fits_any {k : Int} (hk : (shapeK k).known = true) {w : World} {b o np nf nv c1 c2 c3 : Nat} {t : ByteArray} {n : Int} {A1 A2 A3 : Option Addr} (x1 : w.cell? ⟨b, o + 1, none⟩ = some (.string t)) (x2 : w.cell? ⟨b, o + 2, none⟩ = some (.int .i64 n)) (x3 : w.cell? ⟨b, o + 3, none⟩ = some (.slice A1 np c1)) (x4 : w.cell? ⟨b, o + 4, none⟩ = some (.slice A2 nf c2)) (x5 : w.cell? ⟨b, o + 5, none⟩ = some (.slice A3 nv c3)) :
  Calls Tryz.prog 55 #[shpV (shapeK k), .pointer (some ⟨b, o, none⟩)] w fun e w' => e = .returned (.bool (fitsB (shapeK k) t n np nf nv)) ∧ Below w.heap.size w w' := by
 obtain ⟨lo, hi, h⟩ := shape_kinds k hk
 rcases h with h | h | h | h | h | h
 ·rw [h]; exact fits_ffff x1 x2 x3 x4 x5
 ·rw [h]; exact fits_ftff x1 x2 x3 x4 x5
 ·rw [h]; exact fits_tfff x1 x2 x3 x4 x5
 ·rw [h]; exact fits_ffft x1 x2 x3 x4 x5
 ·rw [h]; exact fits_fftf x1 x2 x3 x4 x5
 ·rw [h]; exact fits_ttff x1 x2 x3 x4 x5
def FormIs (t : Ty) (r : Bool) : Prop := ∀ (K : Nat → Prop) (w : World) (b o : Nat), AtT K w t b o → Calls Tryz.prog 39 #[.pointer (some ⟨b, o, none⟩)] w fun e w' => e = .returned (.bool r) ∧ Below w.heap.size w w'
def SelfIs (t : Ty) (r : Bool) : Prop := ∀ (K : Nat → Prop) (w : World) (b o : Nat), AtT K w t b o → Calls Tryz.prog 56 #[.pointer (some ⟨b, o, none⟩)] w fun e w' => e = .returned (.bool r) ∧ Below w.heap.size w w'
theorem all_drop {α : Type} {l : List α} {p : α → Bool} {i : Nat} (h : i < l.length) : (l.drop i).all p = (p l[i] && (l.drop (i + 1)).all p) := by rw [List.drop_eq_getElem_cons h, List.all_cons]
set_option maxRecDepth 100000 in
set_option maxHeartbeats 16000000 in
theorem form_step (k : Int) (t : ByteArray) (n : Int) (ps : List Ty) (fs : List (ByteArray × Int × Ty)) (vs : List (ByteArray × List Ty)) (sv : Bool) (fv : Ty → Bool) (hs : SelfIs (.mk k t n ps fs vs) sv) (hp : ∀ p ∈ ps, FormIs p (fv p)) :
  FormIs (.mk k t n ps fs vs) ((shapeK k).known && fitsB (shapeK k) t n ps.length fs.length vs.length && sv && ps.all fv) := by
 intro K w b o h
 obtain ⟨A, c, A2, c2, A3, c3, ⟨x0, x1, x2, x3, x4, x5⟩, -, hP, -⟩ := h.six
 have KS := Lib.hid (shape_any k w)
 have KF : Hid ((shapeK k).known = true → ∀ wx, Below w.heap.size w wx → Calls Tryz.prog 55 #[shpV (shapeK k), .pointer (some ⟨b, o, none⟩)] wx fun e w' => e = .returned (.bool (fitsB (shapeK k) t n ps.length fs.length vs.length)) ∧ Below wx.heap.size wx w') := Lib.hid fun hk wx hx => fits_any hk (cell_stays hx x1) (cell_stays hx x2) (cell_stays hx x3) (cell_stays hx x4) (cell_stays hx x5)
 have KX : Hid (∀ wx, Below w.heap.size w wx → Calls Tryz.prog 56 #[.pointer (some ⟨b, o, none⟩)] wx fun e w' => e = .returned (.bool sv) ∧ Below wx.heap.size wx w') := Lib.hid fun wx hx => hs K wx b o (h.later hx)
 have HX : Hid (∀ wx, Below w.heap.size w wx → wx.cell? ⟨b, o + 3, none⟩ = some (.slice A ps.length c)) := Lib.hid fun wx hx => cell_stays hx x3
 have HN : Hid (∀ wx i (hi : i < ps.length), Below w.heap.size w wx → ∃ pb po, A = some ⟨pb, po, none⟩ ∧ Calls Tryz.prog 39 #[.pointer (some ⟨pb, po + i * 6, none⟩)] wx fun e w' => e = .returned (.bool (fv ps[i])) ∧ Below wx.heap.size wx w') := Lib.hid fun wx i hi hx => by
  obtain ⟨pb, po, hA, _, hr⟩ := hP.at (by omega)
  exact ⟨pb, po, hA, hp _ (List.getElem_mem hi) K wx pb _ ((hr i hi).later hx)⟩
 have hlp := hP.short
 clear h hs hp hP x1 x2 x3 x4 x5
 generalize fitsB (shapeK k) t n ps.length fs.length vs.length = fb at KF ⊢
 generalize shapeK k = s at KS KF ⊢
 obtain ⟨st, sn, sf, s4, lo, hi, kn⟩ := s
 simp only [shpV] at KS KF ⊢
 cases kn with
 | false =>
  clear KF KX HX HN
  go_enter Tryz.func39, Tryz.ntmps39
  go_wp2_with fail
  refine KS.out.mono ?_
  rintro e w1 ⟨rfl, hb1⟩
  have HB1 := Lib.hid hb1
  clear hb1
  go_wp2_with fail
  go_ret
  exact ⟨rfl, HB1.out.alloc HB1.out.size _⟩
 | true =>
  have KF2 : Hid (∀ wx, Below w.heap.size w wx → Calls Tryz.prog 55 #[.agg #[.bool st, .bool sn, .bool sf, .bool s4, .int .i64 lo, .int .i64 hi], .pointer (some ⟨b, o, none⟩)] wx fun e w' => e = .returned (.bool fb) ∧ Below wx.heap.size wx w') := Lib.hid (KF.out rfl)
  clear KF
  go_enter Tryz.func39, Tryz.ntmps39
  go_wp2_with fail
  refine KS.out.mono ?_
  rintro e w1 ⟨rfl, hb1⟩
  have HB1 : Hid (Below w.heap.size w (w1.alloc (.cells #[.bool st, .bool sn, .bool sf, .bool s4, .int .i64 lo, .int .i64 hi] 90))) := Lib.hid (hb1.alloc hb1.size _)
  clear hb1 KS
  go_wp2_with fail
  refine (KF2.out _ HB1.out).mono ?_
  rintro e w2 ⟨rfl, hb2⟩
  have HB2 := Lib.hid (below_then HB1.out hb2)
  clear hb2 KF2
  cases fb with
  | false =>
   go_wp2_with fail
   go_ret
   exact ⟨rfl, HB2.out⟩
  | true =>
   go_wp2_with fail
   refine (KX.out _ HB2.out).mono ?_
   rintro e w3 ⟨rfl, hb3⟩
   have HB3 := Lib.hid (below_then HB2.out hb3)
   clear hb3 KX
   cases sv with
   | false =>
    go_wp2_with fail
    go_ret
    exact ⟨rfl, HB3.out⟩
   | true =>
    have y3 := HX.out _ HB3.out
    go_wp2_with fail
    clear y3
    go_loopw [32] (fun v wr => ∃ (i : Nat), i ≤ ps.length ∧ v = .int .i64 i ∧ ps.all fv = (ps.drop i).all fv ∧ Below w.heap.size w wr) (fun v _ => ps.length - (intOf v).toNat)
    case atStart => exact ⟨0, by omega, rfl, by rw [List.drop_zero], HB3.out⟩
    case round =>
     obtain ⟨i, hi, rfl, he, hbr⟩ := hrel
     have HE := Lib.hid he
     have HBr := Lib.hid hbr
     have y3 := HX.out _ hbr
     clear he hbr
     by_cases hin : i < ps.length
     ·have t1 : decide ((i : Int) < (ps.length : Int)) = true := by simp; omega
      have wr2 : wrap64 ((i : Int) + 1) = ((i + 1 : Nat) : Int) := wrap_one (by omega)
      obtain ⟨pb, po, hA, hN⟩ := HN.out _ i hin HBr.out
      have KN := Lib.hid hN
      have HS := Lib.hid (all_drop (p := fv) hin)
      have HM := Lib.hid (measI hin)
      have HIn := Lib.hid hin
      subst hA
      generalize hr : fv ps[i] = r at KN HS
      clear hN hi hr
      go_wp2_with fail
      refine KN.out.mono ?_
      rintro e w4 ⟨rfl, hb4⟩
      have HB4 := Lib.hid (below_then HBr.out hb4)
      clear hb4 y3
      cases r with
      | false =>
       go_wp2_with fail
       go_ret
       exact ⟨by rw [HE.out, HS.out]; rfl, HB4.out⟩
      | true =>
       go_wp2_with fail
       refine ⟨⟨i + 1, HIn.out, by first | rfl | rw [wr2], by rw [HE.out, HS.out]; rfl, HB4.out⟩, ?_⟩
       first | exact HM.out | (rw [wr2]; exact HM.out)
     ·have t1 : decide ((i : Int) < (ps.length : Int)) = false := by simp; omega
      have HE1 : Hid (ps.all fv = true) := Lib.hid (by rw [HE.out, List.drop_eq_nil_of_le (by omega)]; rfl)
      clear hi y3
      go_wp2_with fail
      go_ret
      exact ⟨by rw [HE1.out]; rfl, HBr.out⟩
theorem RowAt.both {K : Nat → Prop} {w : World} {A : Option Addr} {l c b o : Nat} (h : RowAt K A l c b o) (hb : 0 < l → b < w.heap.size) : RowAt (fun b => K b ∧ b < w.heap.size) A l c b o := ⟨h.le, h.big, h.none, fun hl => ⟨(h.some hl).1, (h.some hl).2, hb hl⟩⟩
theorem RepT.both {K : Nat → Prop} {w : World} (t : Ty) : ∀ cs, RepT K w t cs → RepT (fun b => K b ∧ b < w.heap.size) w t cs := by
 refine Ty.ind (C := fun t => ∀ cs, RepT K w t cs → RepT (fun b => K b ∧ b < w.heap.size) w t cs) ?_ t
 intro k t n ps fs vs ihp ihf ihv cs h
 obtain ⟨A, c, A', c', A'', c'', rfl, ht, ⟨pb, po, hA, hp⟩, ⟨fb, fo, hA', hf⟩, ⟨vb, vo, hA'', hv⟩⟩ := h.inv
 refine RepT.of ht ⟨pb, po, hA.both (fun hl => ?_), fun i h => ?_⟩ ⟨fb, fo, hA'.both (fun hl => World.block_lt_of_cell? _ _ (hf 0 hl).1), fun i h => ?_⟩ ⟨vb, vo, hA''.both (fun hl => ?_), fun i h => ?_⟩
 ·obtain ⟨cs, h1, h2⟩ := hp 0 hl
  have h6 := h2.six
  exact World.block_lt_of_cell? _ _ (h1 0 _ (List.getElem?_eq_getElem (by omega)))
 ·obtain ⟨cs, h1, h2⟩ := hp i h
  exact ⟨cs, h1, ihp _ (List.getElem_mem h) cs h2⟩
 ·obtain ⟨h1, h2, h3, cs, h4, h5⟩ := hf i h
  exact ⟨h1, h2, h3, cs, h4, ihf _ (List.getElem_mem h) cs h5⟩
 ·obtain ⟨B, d, h1, _⟩ := hv 0 hl
  exact World.block_lt_of_cell? _ _ h1
 ·obtain ⟨B, d, h1, h2, h3, ⟨b, o, h4, h5⟩⟩ := hv i h
  refine ⟨B, d, h1, h2, h3, ⟨b, o, h4.both (fun hl => ?_), fun j h' => ?_⟩⟩
  ·obtain ⟨cs, h6, h7⟩ := h5 0 hl
   have h8 := h7.six
   exact World.block_lt_of_cell? _ _ (h6 0 _ (List.getElem?_eq_getElem (by omega)))
  ·obtain ⟨cs, h6, h7⟩ := h5 j h'
   exact ⟨cs, h6, ihv _ (List.getElem_mem h) _ (List.getElem_mem h') cs h7⟩
theorem ListT.both {K : Nat → Prop} {w : World} {l : List Ty} {A : Option Addr} {c : Nat} (h : ListT K w l A c) : ListT (fun b => K b ∧ b < w.heap.size) w l A c := by
 obtain ⟨b, o, h1, h2⟩ := h
 refine ⟨b, o, h1.both fun hl => ?_, fun i hi => ?_⟩
 ·obtain ⟨cs, h3, h4⟩ := h2 0 hl
  have h6 := h4.six
  exact World.block_lt_of_cell? _ _ (h3 0 _ (List.getElem?_eq_getElem (by omega)))
 ·obtain ⟨cs, h3, h4⟩ := h2 i hi
  exact ⟨cs, h3, RepT.both _ _ h4⟩
theorem RepT.weak {K K' : Nat → Prop} {w : World} {t : Ty} {cs : List Value} (h : RepT K w t cs) (hk : ∀ b, K b → K' b) : RepT K' w t cs := RepT.keep hk (fun _ _ _ _ h => h) t cs h
theorem ListT.weak {K K' : Nat → Prop} {w : World} {l : List Ty} {A : Option Addr} {c : Nat} (h : ListT K w l A c) (hk : ∀ b, K b → K' b) : ListT K' w l A c := by
 obtain ⟨b, o, h1, h2⟩ := h
 exact ⟨b, o, h1.weak hk, fun i hi => by obtain ⟨cs, h3, h4⟩ := h2 i hi; exact ⟨cs, h3, h4.weak hk⟩⟩
theorem ret_box {K : Nat → Prop} {B g : Nat} {W : World} {t : Ty} {cs : List Value} (h : RepT (fun b => K b ∨ g < b) W t cs) (hlo : ∀ b, K b → b < g) (hg : B ≤ g) (y0 y1 y2 y3 y4 y5 : Value) :
  RepT (fun b => K b ∨ B ≤ b) ((((((W.setCell ⟨g, 0, none⟩ y0).setCell ⟨g, 1, none⟩ y1).setCell ⟨g, 2, none⟩ y2).setCell ⟨g, 3, none⟩ y3).setCell ⟨g, 4, none⟩ y4).setCell ⟨g, 5, none⟩ y5) t cs :=
 RepT.keep (fun b hb => hb.imp id (fun h => Nat.le_trans hg (Nat.le_of_lt h))) (fun b o v hk hc => by
  rw [six_other W y0 y1 y2 y3 y4 y5 (p := ⟨b, o, none⟩) (by
   rcases hk with hk | hk
   ·have := hlo b hk; show b ≠ _; omega
   ·show b ≠ _; omega)]
  exact hc) t cs h
theorem rep_k (K : Nat → Prop) (w : World) (k : Int) : RepT K w (tyK k) [.int .i64 k, .string ⟨#[]⟩, .int .i64 0, .slice none 0 0, .slice none 0 0, .slice none 0 0] :=
 RepT.of (by decide) ⟨⟨0, 0, ⟨by simp, by decide, fun _ => rfl, fun h => absurd h (by simp)⟩, fun i h => absurd h (by simp)⟩⟩ ⟨⟨0, 0, ⟨by simp, by decide, fun _ => rfl, fun h => absurd h (by simp)⟩, fun i h => absurd h (by simp)⟩⟩ ⟨⟨0, 0, ⟨by simp, by decide, fun _ => rfl, fun h => absurd h (by simp)⟩, fun i h => absurd h (by simp)⟩⟩
def UnionP : Prop := ∀ (K : Nat → Prop) (w : World) (l : List Ty) (A : Option Addr) (c : Nat), ListT K w l A c → (flatU l).length ≤ 1099511627776 → (∀ b, K b → b < w.heap.size) → Calls Tryz.prog 42 #[.slice A l.length c] w (TyPost K w (unionT l))
theorem union_own (hU : UnionP) {K : Nat → Prop} {w0 w : World} {v : Value} {ts : List Ty} (h : OutT K w0 w v ts) (hlo : ∀ b, K b → b < w0.heap.size) (hb : Below w0.heap.size w0 w) (hn : (flatU ts).length ≤ 1099511627776) (hl : ts.length ≤ 1000000000000000) :
  Calls Tryz.prog 42 #[v] w fun e w' => ∃ rs, e = .returned (.agg rs.toArray) ∧ RepT (fun b => K b ∨ w0.heap.size ≤ b) w' (unionT ts) rs ∧ Below w.heap.size w w' := by
 obtain ⟨A, c, rfl, hL⟩ := h.list hlo hb hl
 refine (hU _ w ts A c hL.both hn fun b h => h.2).mono ?_
 rintro e w' ⟨rs, rfl, hr, hb'⟩
 refine ⟨rs, rfl, hr.weak fun b h => ?_, hb'⟩
 rcases h with h | h
 ·exact h.1
 ·exact .inr (Nat.le_trans hb.size h)
theorem box_up {w w' : World} {b : Nat} {o : Obj} (hb : Below w.heap.size w w') (hlt : b < w.heap.size) (h : w.heap[b]? = some o) : w'.heap[b]? = some o := (hb.block b hlt).trans h
open Go.Shelf Go.RowKit Go.Lib Go.Sort
def TyC (K : Nat → Prop) (w0 : World) : Type := {p : Ty × List Value // RepT K w0 p.1 p.2}
instance (K : Nat → Prop) (w0 : World) : Inhabited (TyC K w0) := ⟨⟨(tyK 1, _), rep_never K w0⟩⟩
def encC {K : Nat → Prop} {w0 : World} (x : TyC K w0) : List Value := x.1.2
def cfC {K : Nat → Prop} {w0 : World} (x y : TyC K w0) : Int := ordT x.1.1 y.1.1
theorem encC_len {K : Nat → Prop} {w0 : World} (x : TyC K w0) : (encC x).length = 6 := x.2.six
theorem encC_one {K : Nat → Prop} {w0 : World} (x : TyC K w0) : ∀ v ∈ encC x, v.oneCell' = true := by
 obtain ⟨⟨⟨k, s, n, ps, fs, vs⟩, cs⟩, h⟩ := x
 obtain ⟨A, c, A', c', A'', c'', rfl, _⟩ := h.inv
 intro v hv
 simp only [encC, cells6T, List.mem_cons, List.not_mem_nil, or_false] at hv
 rcases hv with rfl | rfl | rfl | rfl | rfl | rfl <;> rfl
theorem ltC_t {K : Nat → Prop} {w0 : World} {x y : TyC K w0} : ltOf cfC x y = true ↔ ordT x.1.1 y.1.1 < 0 := by
 unfold ltOf
 exact decide_eq_true_iff
theorem ltC_f {K : Nat → Prop} {w0 : World} {x y : TyC K w0} : ltOf cfC x y = false ↔ 0 ≤ ordT x.1.1 y.1.1 := by
 unfold ltOf
 exact decide_eq_false_iff_not.trans Int.not_lt
theorem lt_trans {a b c : Ty} (h1 : ordT a b < 0) (h2 : ordT b c < 0) : ordT a c < 0 := by
 rcases ordT_bd a b with e | e | e
 ·rcases ordT_bd b c with e' | e' | e'
  ·rw [ordT_trans e e']; decide
  ·omega
  ·omega
 ·omega
 ·omega
theorem swoC (K : Nat → Prop) (w0 : World) : SWO (ltOf (cfC (K := K) (w0 := w0))) where
 irrefl x := ltC_f.2 (by rw [ordT_zero.2 rfl]; decide)
 trans x y z h1 h2 := ltC_t.2 (lt_trans (ltC_t.1 h1) (ltC_t.1 h2))
 ntrans x y z h1 h2 := ltC_f.2 (no_down (ltC_f.1 h1) (ltC_f.1 h2))
theorem cmpC {K : Nat → Prop} {w0 w : World} {g size : Nat} (hb : Below w0.heap.size w0 w) (hg : w0.heap.size ≤ g) : CmpLays Tryz.prog 64 #[] (encC (K := K) (w0 := w0)) 6 cfC g 0 size w := by
 intro m os dk _ x y
 have hk : ∀ b o v, K b → w0.cell? ⟨b, o, none⟩ = some v → (sortWorldK (encC (K := K) (w0 := w0)) 6 w g 0 m dk os).cell? ⟨b, o, none⟩ = some v := fun b o v _ hc => by
  have hlt : b < w0.heap.size := World.block_lt_of_cell? _ _ hc
  rw [cell?_sortWorldK_other _ _ _ _ _ _ _ _ ⟨b, o, none⟩ (by show b ≠ g; omega) (Nat.lt_of_lt_of_le hlt hb.size)]
  exact cell_stays hb hc
 exact Order_any (RepT.keep (fun _ h => h) hk _ _ x.2) (RepT.keep (fun _ h => h) hk _ _ y.2)
theorem heap_sort {α : Type} [Inhabited α] {enc : α → List Value} {w : World} {g m : Nat} {dk : Array α} {os : Array Obj} : (sortWorldK enc 6 w g 0 m dk os).heap = (w.heap.modify g (onCells (putCells id 0 (flatK enc 6 dk)))) ++ os := rfl
theorem blk_sort {α : Type} [Inhabited α] {enc : α → List Value} {w : World} {g m : Nat} {dk : Array α} {os : Array Obj} {cur : Array Value} {T : TypeId} (hb : w.heap[g]? = some (.cells cur T (0, 0))) : ∃ cur', (sortWorldK enc 6 w g 0 m dk os).heap[g]? = some (.cells cur' T (0, 0)) ∧ cur'.size = cur.size := by
 have hlt := (Array.getElem?_eq_some_iff.1 hb).1
 refine ⟨putCells id 0 (flatK enc 6 dk) cur, ?_, by simp [putCells]⟩
 rw [heap_sort, Array.getElem?_append_left (by simpa using hlt), Array.getElem?_modify, if_pos rfl, hb]
 rfl
theorem sort_below {α : Type} [Inhabited α] {enc : α → List Value} {w0 w : World} {g m : Nat} {dk : Array α} {os : Array Obj} (hb : RowKit.Below w0.heap.size w0 w) (hg : w0.heap.size ≤ g) : RowKit.Below w0.heap.size w0 (sortWorldK enc 6 w g 0 m dk os) := by
 have h1 := hb.size
 refine ⟨hb.os, hb.tape, hb.output, ?_, fun k hk => ?_⟩
 ·rw [heap_sort]
  simp
  omega
 ·rw [heap_sort, Array.getElem?_append_left (by simp; omega), Array.getElem?_modify, if_neg (by omega)]
  exact hb.block k hk
set_option maxRecDepth 100000 in
set_option maxHeartbeats 8000000 in
theorem formed_val {K : Nat → Prop} {w : World} {t : Ty} {cs : List Value} {r : Bool} (h : RepT K w t cs) (hf : FormIs t r) :
  Calls Tryz.prog 20 #[.agg cs.toArray] w fun e w' => e = .returned (.bool (decide (cntT t ≤ 4096) && r)) ∧ Below w.heap.size w w' := by
 have hb1 : Below w.heap.size w (w.alloc (.cells cs.toArray 26)) := (Below.refl _ _).alloc (Nat.le_refl _) _
 have KN := Lib.hid (nodes_any (h.later hb1))
 have KF := Lib.hid fun wx hx => hf K wx w.heap.size 0 ((AtT.box 26 h).later hx)
 have HB1 := Lib.hid hb1
 have HC : Hid (decide (((capN (cntT t) : Nat) : Int) ≤ 4096) = decide (cntT t ≤ 4096)) := Lib.hid (by unfold capN; congr 1; rw [eq_iff_iff]; omega)
 obtain ⟨k, s, n, ps, fs, vs⟩ := t
 obtain ⟨A, c, A', c', A'', c'', rfl, _⟩ := h.inv
 generalize capN (cntT (.mk k s n ps fs vs)) = q at KN HC
 generalize decide (cntT (.mk k s n ps fs vs) ≤ 4096) = d at HC ⊢
 simp only [cells6T] at KN KF HB1 ⊢
 clear h hf hb1
 cases d with
 | false =>
  have hq : ¬ ((q : Int) ≤ 4096) := by have h := HC.out; simpa using h
  have hq2 : ¬ (q ≤ 4096) := by omega
  go_enter Tryz.func20, Tryz.ntmps20
  go_wp2_with fail
  refine KN.out.mono ?_
  rintro e w1 ⟨rfl, hb1⟩
  have HB2 := Lib.hid (below_then HB1.out hb1)
  clear hb1 KN
  go_wp2_with fail
  go_ret
  exact ⟨rfl, HB2.out⟩
 | true =>
  have hq : ((q : Int) ≤ 4096) := by have h := HC.out; simpa using h
  have hq2 : (q ≤ 4096) := by omega
  go_enter Tryz.func20, Tryz.ntmps20
  go_wp2_with fail
  refine KN.out.mono ?_
  rintro e w1 ⟨rfl, hb1⟩
  have HB2 := Lib.hid (below_then HB1.out hb1)
  have KF2 := Lib.hid (KF.out _ hb1)
  clear hb1 KN KF
  go_wp2_with fail
  refine KF2.out.mono ?_
  rintro e w2 ⟨rfl, hb2⟩
  have HB3 := Lib.hid (below_then HB2.out hb2)
  clear hb2
  go_wp2_with fail
  go_ret
  exact ⟨rfl, HB3.out⟩
set_option maxRecDepth 100000 in
set_option maxHeartbeats 8000000 in
theorem self_4 : SelfIs (tyK 4) true := by
 intro K w b o h
 obtain ⟨_, _, _, _, _, _, ⟨x0, -⟩, -⟩ := AtT.six h
 clear h
 go_enter Tryz.func56, Tryz.ntmps56
 go_wp2_with fail
 go_ret
 exact ⟨rfl, Below.refl _ _⟩
set_option maxRecDepth 100000 in
set_option maxHeartbeats 8000000 in
theorem self_7 : SelfIs (tyK 7) true := by
 intro K w b o h
 obtain ⟨_, _, _, _, _, _, ⟨x0, -⟩, -⟩ := AtT.six h
 clear h
 go_enter Tryz.func56, Tryz.ntmps56
 go_wp2_with fail
 go_ret
 exact ⟨rfl, Below.refl _ _⟩
set_option maxRecDepth 100000 in
set_option maxHeartbeats 8000000 in
theorem self_15 (t : ByteArray) (n : Int) (ps : List Ty) (fs : List (ByteArray × Int × Ty)) (vs : List (ByteArray × List Ty)) : SelfIs (.mk 15 t n ps fs vs) (isUB ps) := by
 intro K w b o h
 obtain ⟨A, c, _, _, _, _, ⟨x0, -, -, x3, -, -⟩, -, hP, -⟩ := h.six
 have KU := Lib.hid (isU_any hP)
 clear h hP
 generalize isUB ps = r at KU ⊢
 go_enter Tryz.func56, Tryz.ntmps56
 go_wp2_with fail
 refine KU.out.mono ?_
 rintro e w2 ⟨rfl, hb2⟩
 have HB2 := Lib.hid hb2
 clear hb2
 go_wp2_with fail
 go_ret
 exact ⟨rfl, HB2.out⟩
def seenF (vs : List (ByteArray × List Ty)) (i : Nat) : ByteArray → Option Unit := fun s => if ((vs.take i).any fun x => decide (x.1 = s)) = true then some () else none
theorem seenF_next {vs : List (ByteArray × List Ty)} {i : Nat} (h : i < vs.length) : updF (seenF vs i) vs[i].1 () = seenF vs (i + 1) := by
 funext s
 unfold updF seenF
 rw [List.take_succ_eq_append_getElem h, List.any_append]
 by_cases e : vs[i].1 = s
 ·simp [e]
 ·have e2 : decide (vs[i].1 = s) = false := decide_eq_false e
  rw [if_neg e]
  simp only [List.any_cons, List.any_nil, e2, Bool.or_false]
theorem seenF_some {vs : List (ByteArray × List Ty)} {i : Nat} (s : ByteArray) : (seenF vs i s).isSome = (vs.take i).any fun x => decide (x.1 = s) := by
 unfold seenF
 split
 ·rename_i h; rw [h]; rfl
 ·rename_i h; rw [Bool.not_eq_true] at h; rw [h]; rfl
theorem okU_more {p : Nat → Bool} {i : Nat} (h : ∀ j, j < i → p j = true) (h2 : p i = true) : ∀ j, j < i + 1 → p j = true := fun j hj => by
 rcases Nat.lt_or_ge j i with h1 | h1
 ·exact h j h1
 ·rw [show j = i from by omega]; exact h2
structure VaR (w wr : World) (vs : List (ByteArray × List Ty)) (fv : Ty → Bool) (i : Nat) : Prop where
 le : i ≤ vs.length
 ok : ∀ j, j < i → okV (varsT vs fv) j = true
 map : MapIs setMK wr w.heap.size i (seenF vs i)
 below : Below w.heap.size w wr
set_option maxRecDepth 100000 in
set_option maxHeartbeats 16000000 in
theorem formedVars_any {K : Nat → Prop} {w : World} {vs : List (ByteArray × List Ty)} {A : Option Addr} {c : Nat} {fv : Ty → Bool} (hV : ListV K w vs A c) (hf : ∀ v ∈ vs, ∀ b ∈ v.2, FormIs b (fv b)) :
  Calls Tryz.prog 71 #[.slice A vs.length c] w fun e w' => e = .returned (.bool (varsB (varsT vs fv))) ∧ Below w.heap.size w w' := by
 have HV := Lib.hid hV
 have HF := Lib.hid hf
 have hlv : vs.length ≤ 1000000000000000 := by obtain ⟨_, _, hr, _⟩ := hV; exact hr.big
 have HST : Hid (VaR w (w.alloc (.map #[] 0)) vs fv 0) := Lib.hid ⟨Nat.zero_le _, fun j hj => absurd hj (by omega), by
  have h := MapIs.new setMK w
  have e : seenF vs 0 = fun _ => none := by funext s; simp [seenF]
  rw [e]; exact h, (Below.refl _ _).alloc (Nat.le_refl _) _⟩
 have hmm := @run_makeMap Tryz.prog
 clear hV hf
 go_enter Tryz.func71, Tryz.ntmps71
 go_wp2_with fail
 clear hmm
 go_loopw [11] (fun v wr => ∃ i : Nat, v = .int .i64 (i : Int) ∧ VaR w wr vs fv i) (fun v _ => vs.length - (intOf v).toNat)
 case atStart => exact ⟨0, rfl, HST.out⟩
 case round =>
  obtain ⟨i, rfl, hr⟩ := hrel
  have HR := Lib.hid hr
  have hle := hr.le
  by_cases hlt : i < vs.length
  ·have t1 : decide ((i : Int) < (vs.length : Int)) = true := by simp; omega
   have wr2 : wrap64 ((i : Int) + 1) = ((i + 1 : Nat) : Int) := wrap_one (by omega)
   have HM := Lib.hid (measI hlt)
   obtain ⟨b, o, hA, _, hat⟩ := HV.out.at (by omega)
   subst hA
   obtain ⟨B, d, hc0, hc1, hsz, hLB⟩ := hat i hlt
   have hok := okV_at (fv := fv) hlt
   have hnx := seenF_next hlt
   have hFb : ∀ b ∈ vs[i].2, FormIs b (fv b) := HF.out _ (List.getElem_mem hlt)
   have hsm := seenF_some (vs := vs) (i := i) vs[i].1
   generalize hnm : vs[i].1 = nm at hc0 hok hnx hsz hsm
   generalize hl : vs[i].2 = l at hc1 hLB hok hFb
   have hcw0 := cell_stays (w := w) (w' := wr) hr.below hc0
   have hcw1 := cell_stays (w := w) (w' := wr) hr.below hc1
   have hbx : Below wr.heap.size wr (wr.alloc (.cells #[.string nm, .slice B l.length d] 67)) := (Below.refl _ _).alloc (Nat.le_refl _) _
   have hmx : nm.size ≤ maxLen := by unfold maxLen; omega
   have lk : (Instr.lookup 123 (.map (some w.heap.size)) (.string nm) true).run Tryz.prog (wr.alloc (.cells #[.string nm, .slice B l.length d] 67)) = .ok (.tuple #[.agg #[], .bool ((vs.take i).any fun x => decide (x.1 = nm))]) (wr.alloc (.cells #[.string nm, .slice B l.length d] 67)) := by
    rw [← hsm]; exact (hr.map.later hbx).look2 nm hmx
   generalize hseen : ((vs.take i).any fun x => decide (x.1 = nm)) = seen at lk hok
   clear hat hc0 hc1 hnm hl hsm hseen
   cases seen with
   | true =>
    have HNO : Hid (varsB (varsT vs fv) = false) := Lib.hid (allB_no (by rw [varsT_len]; exact hlt) (by rw [hok]; simp))
    have HB9 := Lib.hid hr.below
    clear hr hle hok hnx
    go_wp2_with fail
    go_ret
    exact ⟨by rw [HNO.out]; rfl, (HB9.out.alloc HB9.out.size _).alloc (by have := HB9.out.size; simp; omega) _⟩
   | false =>
    have HSZ : Hid (wr.heap.size ≤ ((wr.alloc (.cells #[.string nm, .slice B l.length d] 67)).alloc (.cells #[] 124)).heap.size) := Lib.hid (by simp; omega)
    have hbw2 : Below wr.heap.size wr ((wr.alloc (.cells #[.string nm, .slice B l.length d] 67)).alloc (.cells #[] 124)) := hbx.alloc (by simp) _
    have HSZ2 : Hid (w.heap.size ≤ ((wr.alloc (.cells #[.string nm, .slice B l.length d] 67)).alloc (.cells #[] 124)).heap.size) := Lib.hid (by have := hr.below.size; have := hbw2.size; omega)
    have HBW := Lib.hid (hr.below.trans (hbw2.mono hr.below.size))
    have HMP := Lib.hid (hr.map.later hbw2)
    have hbk : ((wr.alloc (.cells #[.string nm, .slice B l.length d] 67)).alloc (.cells #[] 124)).heap[wr.heap.size]? = some (.cells #[.string nm, .slice B l.length d] 67 (0, 0)) := by
     rw [((Below.refl (wr.alloc (.cells #[.string nm, .slice B l.length d] 67)).heap.size _).alloc (Nat.le_refl _) (.cells #[] 124)).block _ (by simp)]
     exact heap_alloc_new wr _
    have HX0 : Hid (((wr.alloc (.cells #[.string nm, .slice B l.length d] 67)).alloc (.cells #[] 124)).cell? ⟨wr.heap.size, 0, none⟩ = some (.string nm)) := Lib.hid (cell_of_row _ _ 0 _ _ _ hbk)
    have HX1 : Hid (((wr.alloc (.cells #[.string nm, .slice B l.length d] 67)).alloc (.cells #[] 124)).cell? ⟨wr.heap.size, 1, none⟩ = some (.slice B l.length d)) := Lib.hid (cell_of_row _ _ 1 _ _ _ hbk)
    have KN := Lib.hid (name_prog nm ((wr.alloc (.cells #[.string nm, .slice B l.length d] 67)).alloc (.cells #[] 124)) hsz)
    have HGL : Hid (w.heap.size < wr.heap.size) := Lib.hid hr.map.lt
    have HLT : Hid (i < maxLen) := Lib.hid (by unfold maxLen; omega)
    have HMX := Lib.hid hmx
    have HLE : Hid (i + 1 ≤ vs.length) := Lib.hid hlt
    clear hbw2 hbk
    cases hq : nameT nm with
    | false =>
     rw [hq] at KN
     have HNO : Hid (varsB (varsT vs fv) = false) := Lib.hid (allB_no (by rw [varsT_len]; exact hlt) (by rw [hok]; simp [hq]))
     clear hok hnx hr hle
     go_wp2_with fail
     refine KN.out.mono ?_
     rintro e w3 ⟨rfl, hb3⟩
     have HB3 := Lib.hid (HBW.out.trans (hb3.mono HSZ2.out))
     clear hb3
     go_wp2_with fail
     go_ret
     exact ⟨by rw [HNO.out]; rfl, HB3.out⟩
    | true =>
     rw [hq] at KN
     match l, hLB, hFb with
     | [], hLB, hFb =>
      clear hLB hFb
      simp only [List.length_nil] at *
      clear hr hle
      go_wp2_with fail
      refine KN.out.mono ?_
      rintro e w3 ⟨rfl, hb3⟩
      have HB3 := Lib.hid (HBW.out.trans (hb3.mono HSZ2.out))
      have y0 := cell_stays hb3 HX0.out
      have y1 := cell_stays hb3 HX1.out
      obtain ⟨w4, hup, hm4, hg4⟩ := (HMP.out.later hb3).putL HLT.out nm HMX.out ()
      have hup2 : (Instr.mapUpdate 123 (.map (some w.heap.size)) (.string nm) (.agg #[])).run Tryz.prog w3 = .ok () w4 := hup
      have hblk : w4.heap[wr.heap.size]? = w3.heap[wr.heap.size]? := hg4.block _ (World.block_lt_of_cell? _ _ y0) (by have := HGL.out; simp only [ne_eq, Option.some.injEq]; omega)
      have z0 := (World.cell?_of_block (a := ⟨wr.heap.size, 0, none⟩) hblk).trans y0
      have z1 := (World.cell?_of_block (a := ⟨wr.heap.size, 1, none⟩) hblk).trans y1
      have hB4 : Below w.heap.size w w4 := HB3.out.grown hg4 HB3.out.size (fun k hk => by simp only [Option.some.injEq] at hk; omega)
      rw [hnx] at hm4
      have HM4 := Lib.hid hm4
      have HB4 := Lib.hid hB4
      clear hb3 hup hm4 hg4 hblk hB4 hnx
      have HOK : Hid (okV (varsT vs fv) i = true) := Lib.hid (by rw [hok]; simp [hq])
      clear hok
      go_wp2_with fail
      refine ⟨⟨i + 1, by first | rfl | rw [wr2], HLE.out, okU_more HR.out.ok HOK.out, HM4.out, HB4.out⟩, ?_⟩
      first | exact HM.out | (rw [wr2]; exact HM.out)
     | [x], hLB, hFb =>
      obtain ⟨bb, bo, rfl, -, hel0⟩ := hLB.at (by simp)
      have hel : AtT K w x bb bo := by have h := hel0 0 (by simp); simpa using h
      have hfx := hFb x (List.mem_singleton.2 rfl)
      clear hLB hFb hel0
      simp only [List.length_cons, List.length_nil, Nat.zero_add] at *
      clear hr hle
      go_wp2_with fail
      refine KN.out.mono ?_
      rintro e w3 ⟨rfl, hb3⟩
      have HB3 := Lib.hid (HBW.out.trans (hb3.mono HSZ2.out))
      have y0 := cell_stays hb3 HX0.out
      have y1 := cell_stays hb3 HX1.out
      obtain ⟨w4, hup, hm4, hg4⟩ := (HMP.out.later hb3).putL HLT.out nm HMX.out ()
      have hup2 : (Instr.mapUpdate 123 (.map (some w.heap.size)) (.string nm) (.agg #[])).run Tryz.prog w3 = .ok () w4 := hup
      have hblk : w4.heap[wr.heap.size]? = w3.heap[wr.heap.size]? := hg4.block _ (World.block_lt_of_cell? _ _ y0) (by have := HGL.out; simp only [ne_eq, Option.some.injEq]; omega)
      have z0 := (World.cell?_of_block (a := ⟨wr.heap.size, 0, none⟩) hblk).trans y0
      have z1 := (World.cell?_of_block (a := ⟨wr.heap.size, 1, none⟩) hblk).trans y1
      have hB4 : Below w.heap.size w w4 := HB3.out.grown hg4 HB3.out.size (fun k hk => by simp only [Option.some.injEq] at hk; omega)
      rw [hnx] at hm4
      have HM4 := Lib.hid hm4
      have HB4 := Lib.hid hB4
      clear hb3 hup hm4 hg4 hblk hB4 hnx
      have KF := Lib.hid (hfx K w4 bb bo (hel.later HB4.out))
      have HOKE : Hid (okV (varsT vs fv) i = fv x) := Lib.hid (by rw [hok]; simp [hq])
      clear hok hel hfx
      generalize fv x = r at KF HOKE
      go_wp2_with fail
      refine KF.out.mono ?_
      rintro e w5 ⟨rfl, hb5⟩
      have HB5 := Lib.hid (below_then HB4.out hb5)
      have HM5 := Lib.hid (HM4.out.later hb5)
      clear hb5
      cases r with
      | false =>
       have HNO : Hid (varsB (varsT vs fv) = false) := Lib.hid (allB_no (by rw [varsT_len]; exact HLE.out) HOKE.out)
       go_wp2_with fail
       go_ret
       exact ⟨by rw [HNO.out]; rfl, HB5.out⟩
      | true =>
       go_wp2_with fail
       refine ⟨⟨i + 1, by first | rfl | rw [wr2], HLE.out, okU_more HR.out.ok HOKE.out, HM5.out, HB5.out⟩, ?_⟩
       first | exact HM.out | (rw [wr2]; exact HM.out)
     | x :: y :: l, hLB, hFb =>
      clear hLB hFb
      have e2 : (x :: y :: l).length = l.length + 2 := rfl
      have t3 : 1 < l.length + 2 := by omega
      have t3b : decide ((1 : Int) < ((l.length + 2 : Nat) : Int)) = true := by simp; omega
      simp only [List.length_cons] at *
      have HNO : Hid (varsB (varsT vs fv) = false) := Lib.hid (allB_no (by rw [varsT_len]; exact hlt) (by rw [hok]; simp [hq]))
      clear hok hnx hr hle
      go_wp2_with fail
      refine KN.out.mono ?_
      rintro e w3 ⟨rfl, hb3⟩
      have HB3 := Lib.hid (HBW.out.trans (hb3.mono HSZ2.out))
      have y1 := cell_stays hb3 HX1.out
      clear hb3
      go_wp2_with fail
      go_ret
      exact ⟨by rw [HNO.out]; rfl, HB3.out⟩
  ·have t1 : decide ((i : Int) < (vs.length : Int)) = false := by simp; omega
   have HYES : Hid (varsB (varsT vs fv) = true) := Lib.hid (range_all.2 fun j hj => hr.ok j (by rw [varsT_len] at hj; omega))
   have HB9 := Lib.hid hr.below
   clear hr hle HR
   go_wp2_with fail
   go_ret
   exact ⟨by rw [HYES.out]; rfl, HB9.out⟩
end Go.Proofs.YtlooadichhpgeaaGreatDoor
