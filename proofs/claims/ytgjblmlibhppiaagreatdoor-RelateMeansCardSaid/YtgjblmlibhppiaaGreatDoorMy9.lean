import Derived.Test.YtgjblmlibhppiaaGreatDoorMy8
namespace Go.Proofs.YtgjblmlibhppiaaGreatDoor
set_option maxRecDepth 100000
set_option maxHeartbeats 64000000
open Go.RowKit
theorem eight_set {W : World} {b : Nat} {T : TypeId} {x0 x1 x2 x3 x4 x5 x6 x7 : Value} (h : W.heap[b]? = some (.cells #[x0, x1, x2, x3, x4, x5, x6, x7] T (0, 0))) (y0 y1 y2 y3 y4 y5 y6 y7 : Value) :
  ((((((((W.setCell ⟨b, 0, none⟩ (y0)).setCell ⟨b, 1, none⟩ (y1)).setCell ⟨b, 2, none⟩ (y2)).setCell ⟨b, 3, none⟩ (y3)).setCell ⟨b, 4, none⟩ (y4)).setCell ⟨b, 5, none⟩ (y5)).setCell ⟨b, 6, none⟩ (y6)).setCell ⟨b, 7, none⟩ (y7)).heap[b]? = some (.cells #[y0, y1, y2, y3, y4, y5, y6, y7] T (0, 0)) := by
 have h0 := Go.heap_setCell_same W b 0 _ _ y0 h
 have h1 := Go.heap_setCell_same _ b 1 _ _ y1 h0
 have h2 := Go.heap_setCell_same _ b 2 _ _ y2 h1
 have h3 := Go.heap_setCell_same _ b 3 _ _ y3 h2
 have h4 := Go.heap_setCell_same _ b 4 _ _ y4 h3
 have h5 := Go.heap_setCell_same _ b 5 _ _ y5 h4
 have h6 := Go.heap_setCell_same _ b 6 _ _ y6 h5
 exact Go.heap_setCell_same _ b 7 _ _ y7 h6
theorem set_eight_below {B b : Nat} {a W : World} (h : Below B a W) (hb : B ≤ b) (y0 y1 y2 y3 y4 y5 y6 y7 : Value) : Below B a ((((((((W.setCell ⟨b, 0, none⟩ (y0)).setCell ⟨b, 1, none⟩ (y1)).setCell ⟨b, 2, none⟩ (y2)).setCell ⟨b, 3, none⟩ (y3)).setCell ⟨b, 4, none⟩ (y4)).setCell ⟨b, 5, none⟩ (y5)).setCell ⟨b, 6, none⟩ (y6)).setCell ⟨b, 7, none⟩ (y7)) :=
 (((((((h.setCell hb y0).setCell hb y1).setCell hb y2).setCell hb y3).setCell hb y4).setCell hb y5).setCell hb y6).setCell hb y7
def FindPost (K : Nat → Prop) (w : World) (fd : Option (ByteArray × Int × Ty)) : Ending → World → Prop := fun e w' =>
 (match fd with
  | none => e = .returned (.tuple #[.agg #[.string ⟨#[]⟩, .int .i64 0, .int .i64 0, .string ⟨#[]⟩, .int .i64 0, .slice none 0 0, .slice none 0 0, .slice none 0 0], .bool false])
  | some f => ∃ ds, e = .returned (.tuple #[.agg (.string f.1 :: .int .i64 f.2.1 :: ds).toArray, .bool true]) ∧ RepT K w f.2.2 ds) ∧ Below w.heap.size w w'
theorem find_none {l : FsT} {s : ByteArray} (h : ∀ j (hj : j < l.length), l[j].1 ≠ s) : l.find? (fun f => decide (f.1 = s)) = none := by
 rw [List.find?_eq_none]
 intro x hx
 obtain ⟨j, hj, rfl⟩ := List.getElem_of_mem hx
 simpa using h j hj
theorem find_at {l : FsT} {s : ByteArray} {i : Nat} (hi : i < l.length) (he : l[i].1 = s) (h : ∀ j (hj : j < l.length), j < i → l[j].1 ≠ s) : l.find? (fun f => decide (f.1 = s)) = some l[i] := by
 rw [List.find?_eq_some_iff_getElem]
 exact ⟨by simpa using he, i, hi, rfl, fun j hj => by simpa using h j (by omega) hj⟩
theorem bytesEq (a b : ByteArray) : (a.toList == b.toList) = decide (a = b) := by
 rw [Bool.eq_iff_iff, beq_iff_eq, decide_eq_true_eq, ByteArray.toList_eq, ByteArray.toList_eq]
 exact ⟨bytes_ext, fun h => by rw [h]⟩
theorem fieldof_any {K : Nat → Prop} {w : World} {t : Ty} {cs : List Value} (hr : RepT K w t cs) (name : ByteArray) :
  Calls Tryz.prog 167 #[.agg cs.toArray, .string name] w (FindPost K w (t.fs.find? fun f => decide (f.1 = name))) := by
 obtain ⟨k, s, n, ps, fs, vs⟩ := t
 obtain ⟨A, c, A', c', A'', c'', rfl, -, -, hF, -⟩ := hr.inv
 simp only [cells6T] at hr ⊢
 obtain ⟨w1, hw1⟩ : ∃ x, x = (w.alloc (.cells #[.int .i64 k, .string s, .int .i64 n, .slice A ps.length c, .slice A' fs.length c', .slice A'' vs.length c''] 26)).alloc (.cells #[.string ⟨#[]⟩, .int .i64 0, .int .i64 0, .string ⟨#[]⟩, .int .i64 0, .slice none 0 0, .slice none 0 0, .slice none 0 0] 57) := ⟨_, rfl⟩
 obtain ⟨g, hg⟩ : ∃ g, g = w.heap.size + 1 := ⟨_, rfl⟩
 have hb1 : Below w.heap.size w w1 := by rw [hw1]; exact ((Below.refl _ _).alloc (Nat.le_refl _) _).alloc (by simp) _
 have hs1 : w1.heap.size = w.heap.size + 2 := by rw [hw1]; simp
 have hx0 : w1.heap[w.heap.size]? = some (.cells #[.int .i64 k, .string s, .int .i64 n, .slice A ps.length c, .slice A' fs.length c', .slice A'' vs.length c''] 26 (0, 0)) := by rw [hw1, Below.heap_alloc _ _ _ (by simp)]; exact heap_alloc_new w _
 have hx1 : w1.heap[g]? = some (.cells #[.string ⟨#[]⟩, .int .i64 0, .int .i64 0, .string ⟨#[]⟩, .int .i64 0, .slice none 0 0, .slice none 0 0, .slice none 0 0] 57 (0, 0)) := by
  rw [hw1, hg]
  have h := heap_alloc_new (w.alloc (.cells #[.int .i64 k, .string s, .int .i64 n, .slice A ps.length c, .slice A' fs.length c', .slice A'' vs.length c''] 26)) (.cells #[.string ⟨#[]⟩, .int .i64 0, .int .i64 0, .string ⟨#[]⟩, .int .i64 0, .slice none 0 0, .slice none 0 0, .slice none 0 0] 57)
  rw [World.size_alloc] at h
  exact h
 have HB1 := Hd hb1
 have HS1 := Hd hs1
 have HX0 := Hd hx0
 have HX1 := Hd hx1
 have HW1 := Hd hw1
 have HG := Hd hg
 have HF := Hd hF
 have hlf := hF.shortF
 have e0 : Ty.fs (.mk k s n ps fs vs) = fs := rfl
 rw [e0]
 generalize hfd : fs.find? (fun f => decide (f.1 = name)) = fd
 have HFD := Hd hfd
 clear hr hb1 hs1 hx0 hx1 hw1 hg hF e0 hfd
 go_enter Tryz.func167, Tryz.ntmps167
 go_upto_region 1 with fail
 rw [← HW1.out, ← HG.out]
 obtain ⟨x0, x1, x2, x3, x4, x5⟩ := cz6 HX0.out
 clear x0 x1 x2 x3 x5
 go_wp2_with fail
 go_loopw [10] (fun v wr => ∃ (i : Nat), i ≤ fs.length ∧ v = .int .i64 i ∧ (∀ j (hj : j < fs.length), j < i → fs[j].1 ≠ name) ∧ Below w1.heap.size w1 wr) (fun v _ => fs.length - (intOf v).toNat)
 case atStart => exact ⟨0, by omega, rfl, fun j _ hj => absurd hj (by omega), Below.refl _ _⟩
 case round =>
  obtain ⟨i, hi, rfl, hne, hb⟩ := hrel
  have HB := Hd hb
  have HBE := Hd (HB1.out.trans (hb.mono HB1.out.size))
  have HNE := Hd hne
  clear hne
  have x4' := cell_stays hb x4
  clear x4
  by_cases hin : i < fs.length
  ·have t1 : decide ((i : Int) < (fs.length : Int)) = true := by simp; omega
   have wr2 : wrap64 ((i : Int) + 1) = ((i + 1 : Nat) : Int) := wrap_one (by omega)
   have HM := Hd (measI hin)
   obtain ⟨b, o, hA, _, hat⟩ := HF.out.at (by omega)
   subst hA
   obtain ⟨hc0, hc1, hsz, hAt⟩ := hat i hin
   have HFI : Hid (fs[i].1 = name → fd = some fs[i]) := Hd fun e => by rw [← HFD.out]; exact find_at hin e HNE.out
   have HIn : Hid (i + 1 ≤ fs.length) := Hd hin
   have HNX : Hid (fs[i].1 ≠ name → ∀ j (hj : j < fs.length), j < i + 1 → fs[j].1 ≠ name) := Hd fun e j hj hji => by
    rcases Nat.lt_or_ge j i with h1 | h1
    ·exact HNE.out j hj h1
    ·have : j = i := by omega
     subst this; exact e
   obtain ⟨ds, hds, hrep⟩ := hAt
   generalize hfi : fs[i] = f at hc0 hc1 hds hrep HFI HNX
   obtain ⟨nm, fl, t2⟩ := f
   obtain ⟨k2, s2, n2, ps2, fs2, vs2⟩ := t2
   obtain ⟨Aq, cq, Ag, cg, Ah, ch, rfl, -⟩ := hrep.inv
   have HRP := Hd hrep
   have z0 : wr.cell? ⟨b, o + i * 8, none⟩ = some (.string nm) := cell_stays HBE.out hc0
   have z1 : wr.cell? ⟨b, o + i * 8 + 1, none⟩ = some (.int .i64 fl) := cell_stays HBE.out hc1
   have z2 : wr.cell? ⟨b, o + i * 8 + 2, none⟩ = some (.int .i64 k2) := cell_stays HBE.out (hds 0 _ rfl)
   have z3 : wr.cell? ⟨b, o + i * 8 + 3, none⟩ = some (.string s2) := cell_stays HBE.out (hds 1 _ rfl)
   have z4 : wr.cell? ⟨b, o + i * 8 + 4, none⟩ = some (.int .i64 n2) := cell_stays HBE.out (hds 2 _ rfl)
   have z5 : wr.cell? ⟨b, o + i * 8 + 5, none⟩ = some (.slice Aq ps2.length cq) := cell_stays HBE.out (hds 3 _ rfl)
   have z6 : wr.cell? ⟨b, o + i * 8 + 6, none⟩ = some (.slice Ag fs2.length cg) := cell_stays HBE.out (hds 4 _ rfl)
   have z7 : wr.cell? ⟨b, o + i * 8 + 7, none⟩ = some (.slice Ah vs2.length ch) := cell_stays HBE.out (hds 5 _ rfl)
   clear hfi hi hat hc0 hc1 hds hrep hsz
   by_cases heq : nm = name
   ·have t2 : (nm.toList == name.toList) = true := by rw [bytesEq]; exact decide_eq_true heq
    have HF2 := Hd (HFI.out heq)
    have rb := box_up HB.out (by have := HG.out; have := HS1.out; omega) HX1.out
    have RBX := Hd rb
    have q0 := Ch rb 0
    have u0 := Lib.frozen_of_heap rb 0
    have q1 := Ch rb 1
    have u1 := Lib.frozen_of_heap rb 1
    have q2 := Ch rb 2
    have u2 := Lib.frozen_of_heap rb 2
    have q3 := Ch rb 3
    have u3 := Lib.frozen_of_heap rb 3
    have q4 := Ch rb 4
    have u4 := Lib.frozen_of_heap rb 4
    have q5 := Ch rb 5
    have u5 := Lib.frozen_of_heap rb 5
    have q6 := Ch rb 6
    have u6 := Lib.frozen_of_heap rb 6
    have q7 := Ch rb 7
    have u7 := Lib.frozen_of_heap rb 7
    simp only [List.getElem?_toArray, List.getElem?_cons_zero, List.getElem?_cons_succ] at q0 q1 q2 q3 q4 q5 q6 q7
    clear heq rb hb
    go_wp2_with fail
    have rs := eight_set RBX.out (.string nm) (.int .i64 fl) (.int .i64 k2) (.string s2) (.int .i64 n2) (.slice Aq ps2.length cq) (.slice Ag fs2.length cg) (.slice Ah vs2.length ch)
    obtain ⟨r0, r1, r2, r3, r4, r5, r6, r7⟩ := cz8 rs
    clear rs RBX q0 u0 z0 q1 u1 z1 q2 u2 z2 q3 u3 z3 q4 u4 z4 q5 u5 z5 q6 u6 z6 q7 u7 z7
    refine bodyPost_ret (v := .tuple #[.agg #[.string nm, .int .i64 fl, .int .i64 k2, .string s2, .int .i64 n2, .slice Aq ps2.length cq, .slice Ag fs2.length cg, .slice Ah vs2.length ch], .bool true]) (by simp [results, Tryz.results167, go_sem, r0, r1, r2, r3, r4, r5, r6, r7]) rfl ?_
    clear r0 r1 r2 r3 r4 r5 r6 r7
    rw [HF2.out]
    exact ⟨⟨[.int .i64 k2, .string s2, .int .i64 n2, .slice Aq ps2.length cq, .slice Ag fs2.length cg, .slice Ah vs2.length ch], rfl, HRP.out⟩, set_eight_below HBE.out (by have := HG.out; omega) _ _ _ _ _ _ _ _⟩
   ·have t2 : (nm.toList == name.toList) = false := by rw [bytesEq]; exact decide_eq_false heq
    have HN2 := Hd (HNX.out heq)
    clear heq hb
    go_wp2_with fail
    refine ⟨⟨i + 1, HIn.out, by first | rfl | rw [wr2], HN2.out, HB.out⟩, ?_⟩
    first | exact HM.out | (rw [wr2]; exact HM.out)
  ·have t1 : decide ((i : Int) < (fs.length : Int)) = false := by simp; omega
   have HF2 : Hid (fd = none) := Hd (by rw [← HFD.out]; exact find_none fun j hj => HNE.out j hj (by omega))
   have rb := box_up HB.out (by have := HG.out; have := HS1.out; omega) HX1.out
   have RBX := Hd rb
   have q0 := Ch rb 0
   have u0 := Lib.frozen_of_heap rb 0
   have q1 := Ch rb 1
   have u1 := Lib.frozen_of_heap rb 1
   have q2 := Ch rb 2
   have u2 := Lib.frozen_of_heap rb 2
   have q3 := Ch rb 3
   have u3 := Lib.frozen_of_heap rb 3
   have q4 := Ch rb 4
   have u4 := Lib.frozen_of_heap rb 4
   have q5 := Ch rb 5
   have u5 := Lib.frozen_of_heap rb 5
   have q6 := Ch rb 6
   have u6 := Lib.frozen_of_heap rb 6
   have q7 := Ch rb 7
   have u7 := Lib.frozen_of_heap rb 7
   simp only [List.getElem?_toArray, List.getElem?_cons_zero, List.getElem?_cons_succ] at q0 q1 q2 q3 q4 q5 q6 q7
   clear rb hi hb
   go_wp2_with fail
   have rs := eight_set RBX.out (.string ⟨#[]⟩) (.int .i64 0) (.int .i64 0) (.string ⟨#[]⟩) (.int .i64 0) (.slice none 0 0) (.slice none 0 0) (.slice none 0 0)
   obtain ⟨r0, r1, r2, r3, r4, r5, r6, r7⟩ := cz8 rs
   clear rs RBX q0 u0 q1 u1 q2 u2 q3 u3 q4 u4 q5 u5 q6 u6 q7 u7
   refine bodyPost_ret (v := .tuple #[.agg #[.string ⟨#[]⟩, .int .i64 0, .int .i64 0, .string ⟨#[]⟩, .int .i64 0, .slice none 0 0, .slice none 0 0, .slice none 0 0], .bool false]) (by simp [results, Tryz.results167, go_sem, r0, r1, r2, r3, r4, r5, r6, r7]) rfl ?_
   clear r0 r1 r2 r3 r4 r5 r6 r7
   rw [HF2.out]
   exact ⟨rfl, set_eight_below HBE.out (by have := HG.out; omega) _ _ _ _ _ _ _ _⟩
theorem attach_val {α : Type} (l : List α) : l.attach.map (fun a => a.1) = l := by simp
theorem all_attach {α : Type} (p : α → Bool) (l : List α) : (l.attach.all fun a => p a.1) = l.all p := by
 have h : (l.attach.map (fun a => a.1)).all p = l.all p := by rw [attach_val]
 rw [List.all_map] at h
 exact h
theorem InT.sixAt {K : Nat → Prop} {w0 w : World} {g c : Nat} {s : List Ty} (h : InT K w0 w g c s) {i : Nat} {t : Ty} (hi : s[i]? = some t) : ∃ x0 x1 x2 x3 x4 x5 x6 x7 x8 x9 xa xb, (w.cell? ⟨g, i * 6, none⟩ = some (.int .i64 x0) ∧ w.cell? ⟨g, i * 6 + 1, none⟩ = some (.string x1) ∧ w.cell? ⟨g, i * 6 + 2, none⟩ = some (.int .i64 x2) ∧ w.cell? ⟨g, i * 6 + 3, none⟩ = some (.slice x3 x4 x5) ∧ w.cell? ⟨g, i * 6 + 4, none⟩ = some (.slice x6 x7 x8) ∧ w.cell? ⟨g, i * 6 + 5, none⟩ = some (.slice x9 xa xb)) ∧ RepT K w0 t [.int .i64 x0, .string x1, .int .i64 x2, .slice x3 x4 x5, .slice x6 x7 x8, .slice x9 xa xb] := by
 obtain ⟨cs, h1, h2⟩ := h.reps i t hi
 obtain ⟨k, z, n, ps, fs, vs⟩ := t
 obtain ⟨A, c, A', c', A'', c'', rfl, _⟩ := h1.inv
 exact ⟨_, _, _, _, _, _, _, _, _, _, _, _, ⟨h2 0 _ rfl, h2 1 _ rfl, h2 2 _ rfl, h2 3 _ rfl, h2 4 _ rfl, h2 5 _ rfl⟩, h1⟩
theorem InT.six {K : Nat → Prop} {w0 w : World} {g c : Nat} {s : List Ty} (h : InT K w0 w g c s) {i : Nat} (hi : i < s.length) : ∃ x0 x1 x2 x3 x4 x5 x6 x7 x8 x9 xa xb, (w.cell? ⟨g, i * 6, none⟩ = some (.int .i64 x0) ∧ w.cell? ⟨g, i * 6 + 1, none⟩ = some (.string x1) ∧ w.cell? ⟨g, i * 6 + 2, none⟩ = some (.int .i64 x2) ∧ w.cell? ⟨g, i * 6 + 3, none⟩ = some (.slice x3 x4 x5) ∧ w.cell? ⟨g, i * 6 + 4, none⟩ = some (.slice x6 x7 x8) ∧ w.cell? ⟨g, i * 6 + 5, none⟩ = some (.slice x9 xa xb)) ∧ RepT K w0 s[i] [.int .i64 x0, .string x1, .int .i64 x2, .slice x3 x4 x5, .slice x6 x7 x8, .slice x9 xa xb] := h.sixAt (List.getElem?_eq_getElem hi)
def RunI (b : Nat) (fuel lo : Int) (m1 m2 : Option Nat) (asked : Value) (rows : Int) (w0 w : World) : Prop := ∃ st', lo ≤ st' ∧ st' ≤ fuel ∧ w.heap[b]? = some (runC fuel st' m1 m2 asked rows) ∧ ButG (fun x => x = b) w0 w
def FitPost (b : Nat) (fuel lo : Int) (m1 m2 : Option Nat) (asked : Value) (rows : Int) (w0 : World) (c p : Prop) : Ending → World → Prop := fun e w' =>
 (∃ r : Bool, e = .returned (.bool r) ∧ (r = true ↔ p) ∧ RunI b fuel lo m1 m2 asked rows w0 w') ∨ (e = .panicked [{ v := stopV, recovered := false }] ∧ c ∧ ButG (fun x => x = b) w0 w')
theorem ButG.same {b : Nat} {w0 w1 w2 : World} (h : ButG (fun x => x = b) w0 w1) (h' : ButG (fun x => x = b) w1 w2) : ButG (fun x => x = b) w0 w2 := h.trans h' fun _ h => .inl h
theorem RunI.trans {b : Nat} {fuel lo lo' : Int} {m1 m2 : Option Nat} {asked : Value} {rows : Int} {w0 w1 w2 : World} (h : ButG (fun x => x = b) w0 w1) (h' : RunI b fuel lo' m1 m2 asked rows w1 w2) (hl : lo ≤ lo') : RunI b fuel lo m1 m2 asked rows w0 w2 := by
 obtain ⟨st, h1, h2, h3, h4⟩ := h'
 exact ⟨st, by omega, h2, h3, h.same h4⟩
theorem RunI.below {b : Nat} {fuel lo : Int} {m1 m2 : Option Nat} {asked : Value} {rows : Int} {w0 w1 w2 : World} (h : RunI b fuel lo m1 m2 asked rows w0 w1) (h' : Below w1.heap.size w1 w2) : RunI b fuel lo m1 m2 asked rows w0 w2 := by
 obtain ⟨st, h1, h2, h3, h4⟩ := h
 have hb : b < w1.heap.size := by
  rcases Nat.lt_or_ge b w1.heap.size with h | h
  ·exact h
  ·rw [Array.getElem?_eq_none h] at h3
   cases h3
 exact ⟨st, h1, h2, (h'.block b hb).trans h3, h4.same (ButG.of_below h')⟩
theorem FitPost.trans {b : Nat} {fuel lo lo' : Int} {m1 m2 : Option Nat} {asked : Value} {rows : Int} {w0 w1 : World} {c c' p p' : Prop} (h : ButG (fun x => x = b) w0 w1) (hl : lo ≤ lo') (hc : c' → c) (hp : p' ↔ p) {e : Ending} {w2 : World} (h' : FitPost b fuel lo' m1 m2 asked rows w1 c' p' e w2) : FitPost b fuel lo m1 m2 asked rows w0 c p e w2 := by
 rcases h' with ⟨r, he, hr, hi⟩ | ⟨he, hc2, hb⟩
 ·exact .inl ⟨r, he, hr.trans hp, RunI.trans h hi hl⟩
 ·exact .inr ⟨he, hc hc2, h.same hb⟩
theorem put_there {F : List Ty} {t : Ty} (hA : Asc F) {j : Nat} (hj : j < F.length) (h0 : ordT F[j] t = 0) : insT t F = F := by
 have e := ordT_zero.1 h0
 refine asc_unique (asc_insT t hA) hA fun x => ?_
 rw [mem_insT]
 constructor
 ·rintro (rfl | h)
  ·rw [← e]; exact List.getElem_mem hj
  ·exact h
 ·exact .inr
theorem lt_put {F : List Ty} {t : Ty} {k : Nat} (hA : Asc F) (hlt : ∀ j (h : j < F.length), j + 1 = k → ordT F[j] t = -1) {i : Nat} (hi : i < F.length) (hik : i < k) (hk : k ≤ F.length) : ordT F[i] t = -1 := by
 rcases Nat.lt_or_ge (i + 1) k with h | h
 ·have h1 := hlt (k - 1) (by omega) (by omega)
  have h2 := List.pairwise_iff_getElem.1 hA i (k - 1) hi (by omega) (by omega)
  exact ordT_trans h2 h1
 ·exact hlt i hi (by omega)
theorem put_new {F : List Ty} {t : Ty} {k : Nat} (hA : Asc F) (hk : k ≤ F.length) (hgt : ∀ j (h : j < F.length), k ≤ j → ordT F[j] t = 1) (hlt : ∀ j (h : j < F.length), j + 1 = k → ordT F[j] t = -1) : insT t F = F.take k ++ t :: F.drop k := by
 refine asc_unique (asc_insT t hA) ?_ fun x => ?_
 ·have hA2 := hA
  unfold Asc at hA2
  rw [← List.take_append_drop k F, List.pairwise_append] at hA2
  obtain ⟨h1, h2, h3⟩ := hA2
  refine List.pairwise_append.2 ⟨h1, List.pairwise_cons.2 ⟨fun b hb => ?_, h2⟩, fun a ha b hb => ?_⟩
  ·obtain ⟨j, hj, rfl⟩ := List.getElem_of_mem hb
   rw [List.getElem_drop]
   exact ordT_gt (hgt _ (by simp at hj; omega) (by omega))
  ·rcases List.mem_cons.1 hb with rfl | hb
   ·obtain ⟨j, hj, rfl⟩ := List.getElem_of_mem ha
    rw [List.getElem_take]
    exact lt_put hA hlt (by simp at hj; omega) (by simp at hj; omega) hk
   ·exact h3 a ha b hb
 ·rw [mem_insT, List.mem_append, List.mem_cons]
  constructor
  ·rintro (h | h)
   ·exact .inr (.inl h)
   ·rw [← List.take_append_drop k F] at h
    rcases List.mem_append.1 h with h | h
    ·exact .inl h
    ·exact .inr (.inr h)
  ·rintro (h | h | h)
   ·exact .inr (List.mem_of_mem_take h)
   ·exact .inl h
   ·exact .inr (List.mem_of_mem_drop h)
theorem InT.set {K : Nat → Prop} {w0 w : World} {g c : Nat} {a b : List Ty} {x t : Ty} {cs : List Value} (h : InT K w0 w g c (a ++ x :: b)) (ht : RepT K w0 t cs) : InT K w0 (w.setCells g (a.length * 6) cs) g c (a ++ t :: b) := by
 have e : (a ++ x :: b).drop a.length = x :: b := List.drop_left
 have h1 : InT K w0 w g c (a ++ (a ++ x :: b).drop a.length) := by rw [e]; exact h
 have h2 := h1.put (by simp) ht
 have e2 : (a ++ x :: b).drop (a ++ [t]).length = b := by
  rw [List.length_append, List.length_singleton, ← List.drop_drop, e]; rfl
 rw [e2, List.append_assoc] at h2
 exact h2
theorem InT.out {K : Nat → Prop} {w0 w : World} {g c : Nat} {ts : List Ty} (h : InT K w0 w g c ts) (hg : w0.heap.size ≤ g) : OutT K w0 w (.slice (some ⟨g, 0, none⟩) ts.length c) ts := by
 obtain ⟨cur, h1, h2⟩ := h.blk
 have hle := h.le
 refine ⟨cur.toList.take (ts.length * 6), ⟨by simp; omega, .inr ⟨g, c, cur, rfl, hg, h1, hle, h.mx, h2, rfl⟩⟩, fun i hi => ?_⟩
 obtain ⟨cs, h3, h4⟩ := h.reps i ts[i] (List.getElem?_eq_getElem hi)
 refine ⟨cs, h3, fun j u hj => ?_⟩
 have h5 := h4 j u hj
 have hj6 := (List.getElem?_eq_some_iff.1 hj).1
 rw [h3.six] at hj6
 rw [cell_of_row _ _ _ _ _ _ h1] at h5
 rw [List.getElem?_take, if_pos (by omega)]
 simpa using h5
theorem fields_ref (l l' : FsT) (h : ∀ f ∈ l, OrdR f.2.2) {K K' : Nat → Prop} {w : World} {A A' : Option Addr} {c c' : Nat} (h1 : ListF K w l A c) (h2 : ListF K' w l' A' c') :
  Calls Tryz.prog 43 #[.slice A l.length c, .slice A' l'.length c'] w fun e w' => e = .returned (.int .i64 (lexC (rowE (fun f : ByteArray × Int × Ty => [Tok.s f.1, .i f.2.1] ++ flat f.2.2) l) (rowE (fun f : ByteArray × Int × Ty => [Tok.s f.1, .i f.2.1] ++ flat f.2.2) l'))) ∧ Gw w w' := by
 have H1 := Hd h1
 have H2 := Hd h2
 have HI := Hd h
 have hl1 : l.length ≤ 1000000000000000 := by obtain ⟨_, _, hr, _⟩ := h1; exact hr.big
 have hl2 : l'.length ≤ 1000000000000000 := by obtain ⟨_, _, hr, _⟩ := h2; exact hr.big
 clear h h1 h2
 by_cases heq : l.length = l'.length
 ·rw [row_same (fun f : ByteArray × Int × Ty => [Tok.s f.1, .i f.2.1] ++ flat f.2.2) heq]
  generalize hres : restC (fun f : ByteArray × Int × Ty => [Tok.s f.1, .i f.2.1] ++ flat f.2.2) l l' 0 = res
  have HRES := Hd hres
  have HEQ := Hd heq
  rw [← heq]
  have hirr : ¬ l.length < l.length := Nat.lt_irrefl _
  clear hres heq hl2
  go_enter Tryz.func43, Tryz.ntmps43
  go_wp2_with fail
  refine (sign_any _ _ _).mono ?_
  rintro e w1 ⟨rfl, rfl⟩
  simp only [sgn]
  go_wp2_with fail
  go_loopw [5, 6] (fun vc vi wr => ∃ (cc : Int) (i : Nat), i ≤ l.length ∧ vc = .int .i64 cc ∧ vi = .int .i64 i ∧ or2 cc (restC (fun f : ByteArray × Int × Ty => [Tok.s f.1, .i f.2.1] ++ flat f.2.2) l l' i) = res ∧ Gw w1 wr) (fun _ vi _ => l.length - (intOf vi).toNat)
  case atStart => exact ⟨0, 0, by omega, by first | rfl | simp, rfl, by rw [or2_zero]; exact HRES.out, Gw.refl _⟩
  case round =>
   obtain ⟨cc, i, hi, rfl, rfl, ho, hb⟩ := hrel
   have HO := Hd ho
   have HB := Hd hb
   clear ho
   by_cases hcc : cc = 0
   ·subst hcc
    by_cases hin : i < l.length
    ·have t1 : decide ((i : Int) < (l.length : Int)) = true := by simp; omega
     have wr2 : wrap64 ((i : Int) + 1) = ((i + 1 : Nat) : Int) := wrap_one (by omega)
     have HM := Hd (measI hin)
     have hin' : i < l'.length := by rw [← HEQ.out]; exact hin
     have hstep := rest_step (fun f : ByteArray × Int × Ty => [Tok.s f.1, .i f.2.1] ++ flat f.2.2) cleanFd HEQ.out hin hin'
     have hval : or2 (lexC ((fun f : ByteArray × Int × Ty => [Tok.s f.1, .i f.2.1] ++ flat f.2.2) l[i]) ((fun f : ByteArray × Int × Ty => [Tok.s f.1, .i f.2.1] ++ flat f.2.2) l'[i])) (restC (fun f : ByteArray × Int × Ty => [Tok.s f.1, .i f.2.1] ++ flat f.2.2) l l' (i + 1)) = res := by rw [← hstep, ← or2_zero (restC (fun f : ByteArray × Int × Ty => [Tok.s f.1, .i f.2.1] ++ flat f.2.2) l l' i)]; exact HO.out
     obtain ⟨b, o, hA, _, hat⟩ := H1.out.at (by omega)
     obtain ⟨b', o', hA', _, hat'⟩ := H2.out.at (by omega)
     subst hA hA'
     have i0 : (0 : Int) ≤ (i : Int) := by omega
     have i1 : (i : Int) < (l.length : Int) := by omega
     clear hstep
     have HLE : Hid (i + 1 ≤ l.length) := Hd hin
     obtain ⟨hn, hf, -, hT⟩ := hat i hin
     obtain ⟨hn', hf', -, hT'⟩ := hat' i hin'
     obtain ⟨p0, p1, p2, p3, p4, p5, p6, p7, p8, p9, pa, pb, hp, hrp⟩ := (hT.later hb.below).six2
     obtain ⟨q0, q1, q2, q3, q4, q5, q6, q7, q8, q9, qa, qb, hq, hrq⟩ := (hT'.later hb.below).six2
     replace hn := cell_stays (w := w1) (w' := wr) hb.below hn
     replace hn' := cell_stays (w := w1) (w' := wr) hb.below hn'
     replace hf := cell_stays (w := w1) (w' := wr) hb.below hf
     replace hf' := cell_stays (w := w1) (w' := wr) hb.below hf'
     have KO : Hid (∀ wx, Below wr.heap.size wr wx → Calls Tryz.prog 21 #[.agg #[.int .i64 p0, .string p1, .int .i64 p2, .slice p3 p4 p5, .slice p6 p7 p8, .slice p9 pa pb], .agg #[.int .i64 q0, .string q1, .int .i64 q2, .slice q3 q4 q5, .slice q6 q7 q8, .slice q9 qa qb]] wx fun e w' => e = .returned (.int .i64 (ordT (l[i]'hin).2.2 (l'[i]'hin').2.2)) ∧ Gw wx w') := Hd fun wx hx => HI.out _ (List.getElem_mem hin) K K' (l'[i]'hin').2.2 wx _ _ (hrp.later hx) (hrq.later hx)
     have hval2 : or2 (or2 (cmpB (l[i]'hin).1 (l'[i]'hin').1) (or2 (cmpZ (l[i]'hin).2.1 (l'[i]'hin').2.1) (ordT (l[i]'hin).2.2 (l'[i]'hin').2.2))) (restC (fun f : ByteArray × Int × Ty => [Tok.s f.1, .i f.2.1] ++ flat f.2.2) l l' (i + 1)) = res := by rw [← field_steps]; exact hval
     generalize ordT (l[i]'hin).2.2 (l'[i]'hin').2.2 = oo at KO hval2
     generalize hnm : (l[i]'hin).1 = nm at hn hval2
     generalize hnm' : (l'[i]'hin').1 = nm' at hn' hval2
     generalize hfl : (l[i]'hin).2.1 = fl at hf hval2
     generalize hfl' : (l'[i]'hin').2.1 = fl' at hf' hval2
     have HC : Hid (∀ wx, Below wr.heap.size wr wx → (wx.cell? ⟨b, o + i * 8, none⟩ = some (.string nm) ∧ wx.cell? ⟨b', o' + i * 8, none⟩ = some (.string nm')) ∧ (wx.cell? ⟨b, o + i * 8 + 1, none⟩ = some (.int .i64 fl) ∧ wx.cell? ⟨b', o' + i * 8 + 1, none⟩ = some (.int .i64 fl')) ∧ (wx.cell? ⟨b, o + i * 8 + 2, none⟩ = some (.int .i64 p0) ∧ wx.cell? ⟨b, o + i * 8 + 2 + 1, none⟩ = some (.string p1) ∧ wx.cell? ⟨b, o + i * 8 + 2 + 2, none⟩ = some (.int .i64 p2) ∧ wx.cell? ⟨b, o + i * 8 + 2 + 3, none⟩ = some (.slice p3 p4 p5) ∧ wx.cell? ⟨b, o + i * 8 + 2 + 4, none⟩ = some (.slice p6 p7 p8) ∧ wx.cell? ⟨b, o + i * 8 + 2 + 5, none⟩ = some (.slice p9 pa pb)) ∧ wx.cell? ⟨b', o' + i * 8 + 2, none⟩ = some (.int .i64 q0) ∧ wx.cell? ⟨b', o' + i * 8 + 2 + 1, none⟩ = some (.string q1) ∧ wx.cell? ⟨b', o' + i * 8 + 2 + 2, none⟩ = some (.int .i64 q2) ∧ wx.cell? ⟨b', o' + i * 8 + 2 + 3, none⟩ = some (.slice q3 q4 q5) ∧ wx.cell? ⟨b', o' + i * 8 + 2 + 4, none⟩ = some (.slice q6 q7 q8) ∧ wx.cell? ⟨b', o' + i * 8 + 2 + 5, none⟩ = some (.slice q9 qa qb)) := Hd fun wx hx => ⟨⟨cell_stays hx hn, cell_stays hx hn'⟩, ⟨cell_stays hx hf, cell_stays hx hf'⟩, ⟨cell_stays hx hp.1, cell_stays hx hp.2.1, cell_stays hx hp.2.2.1, cell_stays hx hp.2.2.2.1, cell_stays hx hp.2.2.2.2.1, cell_stays hx hp.2.2.2.2.2⟩, ⟨cell_stays hx hq.1, cell_stays hx hq.2.1, cell_stays hx hq.2.2.1, cell_stays hx hq.2.2.2.1, cell_stays hx hq.2.2.2.2.1, cell_stays hx hq.2.2.2.2.2⟩⟩
     have HV := Hd hval2
     clear hat hat' hp hq hrp hrq hval hval2 hi hb hn hn' hf hf' hnm hnm' hfl hfl' hT hT'
     rcases cmpB_cases nm nm' with ⟨ga, gb, ge⟩ | ⟨ga, gb, ge⟩ | ⟨ga, gb, ge⟩
     ·have HV2 : Hid (or2 (-1) (restC (fun f : ByteArray × Int × Ty => [Tok.s f.1, .i f.2.1] ++ flat f.2.2) l l' (i + 1)) = res) := Hd (by have h := HV.out; rw [ge, or2_ne (a := -1) (by decide)] at h; exact h)
      clear ge
      go_wp2_with fail
      refine wp_region_held_drew (S := (fun w' => (w'.cell? ⟨b, o + i * 8, none⟩ = some (.string nm) ∧ w'.cell? ⟨b', o' + i * 8, none⟩ = some (.string nm')) ∧ (w'.cell? ⟨b, o + i * 8 + 1, none⟩ = some (.int .i64 fl) ∧ w'.cell? ⟨b', o' + i * 8 + 1, none⟩ = some (.int .i64 fl')) ∧ (w'.cell? ⟨b, o + i * 8 + 2, none⟩ = some (.int .i64 p0) ∧ w'.cell? ⟨b, o + i * 8 + 2 + 1, none⟩ = some (.string p1) ∧ w'.cell? ⟨b, o + i * 8 + 2 + 2, none⟩ = some (.int .i64 p2) ∧ w'.cell? ⟨b, o + i * 8 + 2 + 3, none⟩ = some (.slice p3 p4 p5) ∧ w'.cell? ⟨b, o + i * 8 + 2 + 4, none⟩ = some (.slice p6 p7 p8) ∧ w'.cell? ⟨b, o + i * 8 + 2 + 5, none⟩ = some (.slice p9 pa pb)) ∧ w'.cell? ⟨b', o' + i * 8 + 2, none⟩ = some (.int .i64 q0) ∧ w'.cell? ⟨b', o' + i * 8 + 2 + 1, none⟩ = some (.string q1) ∧ w'.cell? ⟨b', o' + i * 8 + 2 + 2, none⟩ = some (.int .i64 q2) ∧ w'.cell? ⟨b', o' + i * 8 + 2 + 3, none⟩ = some (.slice q3 q4 q5) ∧ w'.cell? ⟨b', o' + i * 8 + 2 + 4, none⟩ = some (.slice q6 q7 q8) ∧ w'.cell? ⟨b', o' + i * 8 + 2 + 5, none⟩ = some (.slice q9 qa qb))) (by kernel_rfl) (HC.out _ (Below.refl wr.heap.size wr).drew) (fun hHeld => ?_)
      refine Plan.start [0, 1, 2, 3, 4, 5, 6, 7, 8, 9, 10, 11, 12, 13, 14, 15, 16, 17, 18, 19, 20, 21] ?_
      iterate 22 (refine Plan.tk (so rfl) hHeld ?_; try simp only [Act.put, pz1, pz2, pz3])
      refine Plan.done ?_
      refine wpAnyH_ready (rs := [22]) (by kernel_rfl) (by simp) ?_
      refine AllReadyH.cons (sd (some 50) rfl) (fun K hK => ?_) AllReadyH.nil
      go_simp
      refine (sign_any _ _ _).mono ?_
      rintro e w2 ⟨rfl, rfl⟩
      simp only [sgn]
      go_wp2_with fail
      refine hK.out _ _ (HC.out _ (Below.refl wr.heap.size wr).drew) (fun hHeld => ?_)
      clear hK K
      try simp only [Act.put, pz1, pz2, pz3]
      refine Plan.start [23] ?_
      refine Plan.tk (so rfl) hHeld ?_
      try simp only [Act.put, pz1, pz2, pz3]
      refine Plan.done ?_
      refine wpAnyH_done (by kernel_rfl) ?_ _
      clear hHeld
      clear i0 i1 t1 ga gb
      go_wp2_with fail
      refine ⟨⟨(-1), i + 1, HLE.out, by first | rfl | trivial, by first | rfl | rw [wr2], HV2.out, HB.out.drew⟩, ?_⟩
      first | exact HM.out | (rw [wr2]; exact HM.out)
     ·have HV2 : Hid (or2 1 (restC (fun f : ByteArray × Int × Ty => [Tok.s f.1, .i f.2.1] ++ flat f.2.2) l l' (i + 1)) = res) := Hd (by have h := HV.out; rw [ge, or2_ne (a := 1) (by decide)] at h; exact h)
      clear ge
      go_wp2_with fail
      refine wp_region_held_drew (S := (fun w' => (w'.cell? ⟨b, o + i * 8, none⟩ = some (.string nm) ∧ w'.cell? ⟨b', o' + i * 8, none⟩ = some (.string nm')) ∧ (w'.cell? ⟨b, o + i * 8 + 1, none⟩ = some (.int .i64 fl) ∧ w'.cell? ⟨b', o' + i * 8 + 1, none⟩ = some (.int .i64 fl')) ∧ (w'.cell? ⟨b, o + i * 8 + 2, none⟩ = some (.int .i64 p0) ∧ w'.cell? ⟨b, o + i * 8 + 2 + 1, none⟩ = some (.string p1) ∧ w'.cell? ⟨b, o + i * 8 + 2 + 2, none⟩ = some (.int .i64 p2) ∧ w'.cell? ⟨b, o + i * 8 + 2 + 3, none⟩ = some (.slice p3 p4 p5) ∧ w'.cell? ⟨b, o + i * 8 + 2 + 4, none⟩ = some (.slice p6 p7 p8) ∧ w'.cell? ⟨b, o + i * 8 + 2 + 5, none⟩ = some (.slice p9 pa pb)) ∧ w'.cell? ⟨b', o' + i * 8 + 2, none⟩ = some (.int .i64 q0) ∧ w'.cell? ⟨b', o' + i * 8 + 2 + 1, none⟩ = some (.string q1) ∧ w'.cell? ⟨b', o' + i * 8 + 2 + 2, none⟩ = some (.int .i64 q2) ∧ w'.cell? ⟨b', o' + i * 8 + 2 + 3, none⟩ = some (.slice q3 q4 q5) ∧ w'.cell? ⟨b', o' + i * 8 + 2 + 4, none⟩ = some (.slice q6 q7 q8) ∧ w'.cell? ⟨b', o' + i * 8 + 2 + 5, none⟩ = some (.slice q9 qa qb))) (by kernel_rfl) (HC.out _ (Below.refl wr.heap.size wr).drew) (fun hHeld => ?_)
      refine Plan.start [0, 1, 2, 3, 4, 5, 6, 7, 8, 9, 10, 11, 12, 13, 14, 15, 16, 17, 18, 19, 20, 21] ?_
      iterate 22 (refine Plan.tk (so rfl) hHeld ?_; try simp only [Act.put, pz1, pz2, pz3])
      refine Plan.done ?_
      refine wpAnyH_ready (rs := [22]) (by kernel_rfl) (by simp) ?_
      refine AllReadyH.cons (sd (some 50) rfl) (fun K hK => ?_) AllReadyH.nil
      go_simp
      refine (sign_any _ _ _).mono ?_
      rintro e w2 ⟨rfl, rfl⟩
      simp only [sgn]
      go_wp2_with fail
      refine hK.out _ _ (HC.out _ (Below.refl wr.heap.size wr).drew) (fun hHeld => ?_)
      clear hK K
      try simp only [Act.put, pz1, pz2, pz3]
      refine Plan.start [23] ?_
      refine Plan.tk (so rfl) hHeld ?_
      try simp only [Act.put, pz1, pz2, pz3]
      refine Plan.done ?_
      refine wpAnyH_done (by kernel_rfl) ?_ _
      clear hHeld
      clear i0 i1 t1 ga gb
      go_wp2_with fail
      refine ⟨⟨1, i + 1, HLE.out, by first | rfl | trivial, by first | rfl | rw [wr2], HV2.out, HB.out.drew⟩, ?_⟩
      first | exact HM.out | (rw [wr2]; exact HM.out)
     ·have HV1 : Hid (or2 (or2 (cmpZ fl fl') oo) (restC (fun f : ByteArray × Int × Ty => [Tok.s f.1, .i f.2.1] ++ flat f.2.2) l l' (i + 1)) = res) := Hd (by have h := HV.out; rw [ge, or2_zero] at h; exact h)
      clear ge
      go_wp2_with fail
      refine wp_region_held_drew (S := (fun w' => (w'.cell? ⟨b, o + i * 8, none⟩ = some (.string nm) ∧ w'.cell? ⟨b', o' + i * 8, none⟩ = some (.string nm')) ∧ (w'.cell? ⟨b, o + i * 8 + 1, none⟩ = some (.int .i64 fl) ∧ w'.cell? ⟨b', o' + i * 8 + 1, none⟩ = some (.int .i64 fl')) ∧ (w'.cell? ⟨b, o + i * 8 + 2, none⟩ = some (.int .i64 p0) ∧ w'.cell? ⟨b, o + i * 8 + 2 + 1, none⟩ = some (.string p1) ∧ w'.cell? ⟨b, o + i * 8 + 2 + 2, none⟩ = some (.int .i64 p2) ∧ w'.cell? ⟨b, o + i * 8 + 2 + 3, none⟩ = some (.slice p3 p4 p5) ∧ w'.cell? ⟨b, o + i * 8 + 2 + 4, none⟩ = some (.slice p6 p7 p8) ∧ w'.cell? ⟨b, o + i * 8 + 2 + 5, none⟩ = some (.slice p9 pa pb)) ∧ w'.cell? ⟨b', o' + i * 8 + 2, none⟩ = some (.int .i64 q0) ∧ w'.cell? ⟨b', o' + i * 8 + 2 + 1, none⟩ = some (.string q1) ∧ w'.cell? ⟨b', o' + i * 8 + 2 + 2, none⟩ = some (.int .i64 q2) ∧ w'.cell? ⟨b', o' + i * 8 + 2 + 3, none⟩ = some (.slice q3 q4 q5) ∧ w'.cell? ⟨b', o' + i * 8 + 2 + 4, none⟩ = some (.slice q6 q7 q8) ∧ w'.cell? ⟨b', o' + i * 8 + 2 + 5, none⟩ = some (.slice q9 qa qb))) (by kernel_rfl) (HC.out _ (Below.refl wr.heap.size wr).drew) (fun hHeld => ?_)
      refine Plan.start [0, 1, 2, 3, 4, 5, 6, 7, 8, 9, 10, 11, 12, 13, 14, 15, 16, 17, 18, 19, 20, 21] ?_
      iterate 22 (refine Plan.tk (so rfl) hHeld ?_; try simp only [Act.put, pz1, pz2, pz3])
      refine Plan.done ?_
      refine wpAnyH_ready (rs := [22]) (by kernel_rfl) (by simp) ?_
      refine AllReadyH.cons (sd (some 50) rfl) (fun K hK => ?_) AllReadyH.nil
      go_simp
      refine (sign_any _ _ _).mono ?_
      rintro e w2 ⟨rfl, rfl⟩
      simp only [sgn]
      go_wp2_with fail
      refine hK.out _ _ (HC.out _ (Below.refl wr.heap.size wr).drew) (fun hHeld => ?_)
      clear hK K
      try simp only [Act.put, pz1, pz2, pz3]
      refine Plan.start [23] ?_
      refine Plan.tk (so rfl) hHeld ?_
      try simp only [Act.put, pz1, pz2, pz3]
      refine Plan.done ?_
      refine wpAnyH_done (by kernel_rfl) ?_ _
      clear hHeld
      clear ga gb
      go_wp2_with fail
      rcases cmpZ_cases fl fl' with ⟨ga, gb, ge⟩ | ⟨ga, gb, ge⟩ | ⟨ga, gb, ge⟩
      ·have HV2 : Hid (or2 (-1) (restC (fun f : ByteArray × Int × Ty => [Tok.s f.1, .i f.2.1] ++ flat f.2.2) l l' (i + 1)) = res) := Hd (by have h := HV1.out; rw [ge, or2_ne (a := -1) (by decide)] at h; exact h)
       have g1 : decide (fl < fl') = true := by simpa using ga
       have g2 : decide (fl' < fl) = false := by simpa using gb
       clear ge
       go_wp2_with fail
       refine wp_region_held_drew (S := (fun w' => (w'.cell? ⟨b, o + i * 8, none⟩ = some (.string nm) ∧ w'.cell? ⟨b', o' + i * 8, none⟩ = some (.string nm')) ∧ (w'.cell? ⟨b, o + i * 8 + 1, none⟩ = some (.int .i64 fl) ∧ w'.cell? ⟨b', o' + i * 8 + 1, none⟩ = some (.int .i64 fl')) ∧ (w'.cell? ⟨b, o + i * 8 + 2, none⟩ = some (.int .i64 p0) ∧ w'.cell? ⟨b, o + i * 8 + 2 + 1, none⟩ = some (.string p1) ∧ w'.cell? ⟨b, o + i * 8 + 2 + 2, none⟩ = some (.int .i64 p2) ∧ w'.cell? ⟨b, o + i * 8 + 2 + 3, none⟩ = some (.slice p3 p4 p5) ∧ w'.cell? ⟨b, o + i * 8 + 2 + 4, none⟩ = some (.slice p6 p7 p8) ∧ w'.cell? ⟨b, o + i * 8 + 2 + 5, none⟩ = some (.slice p9 pa pb)) ∧ w'.cell? ⟨b', o' + i * 8 + 2, none⟩ = some (.int .i64 q0) ∧ w'.cell? ⟨b', o' + i * 8 + 2 + 1, none⟩ = some (.string q1) ∧ w'.cell? ⟨b', o' + i * 8 + 2 + 2, none⟩ = some (.int .i64 q2) ∧ w'.cell? ⟨b', o' + i * 8 + 2 + 3, none⟩ = some (.slice q3 q4 q5) ∧ w'.cell? ⟨b', o' + i * 8 + 2 + 4, none⟩ = some (.slice q6 q7 q8) ∧ w'.cell? ⟨b', o' + i * 8 + 2 + 5, none⟩ = some (.slice q9 qa qb))) (by kernel_rfl) (HC.out _ (Below.refl wr.heap.size wr).drew.drew) (fun hHeld => ?_)
       refine Plan.start [0, 1, 2, 3, 4, 5, 6, 7, 8, 9, 10, 11, 12, 13, 14, 15, 16, 17, 18, 19, 20, 21] ?_
       iterate 22 (refine Plan.tk (so rfl) hHeld ?_; try simp only [Act.put, pz1, pz2, pz3])
       refine Plan.done ?_
       refine wpAnyH_ready (rs := [22]) (by kernel_rfl) (by simp) ?_
       refine AllReadyH.cons (sd (some 75) rfl) (fun K hK => ?_) AllReadyH.nil
       go_simp
       refine (sign_any _ _ _).mono ?_
       rintro e w2 ⟨rfl, rfl⟩
       simp only [sgn]
       go_wp2_with fail
       refine hK.out _ _ (HC.out _ (Below.refl wr.heap.size wr).drew.drew) (fun hHeld => ?_)
       clear hK K
       try simp only [Act.put, pz1, pz2, pz3]
       refine Plan.start [23] ?_
       refine Plan.tk (so rfl) hHeld ?_
       try simp only [Act.put, pz1, pz2, pz3]
       refine Plan.done ?_
       refine wpAnyH_done (by kernel_rfl) ?_ _
       clear hHeld
       clear i0 i1 t1
       go_wp2_with fail
       refine ⟨⟨(-1), i + 1, HLE.out, by first | rfl | trivial, by first | rfl | rw [wr2], HV2.out, HB.out.drew.drew⟩, ?_⟩
       first | exact HM.out | (rw [wr2]; exact HM.out)
      ·have HV2 : Hid (or2 1 (restC (fun f : ByteArray × Int × Ty => [Tok.s f.1, .i f.2.1] ++ flat f.2.2) l l' (i + 1)) = res) := Hd (by have h := HV1.out; rw [ge, or2_ne (a := 1) (by decide)] at h; exact h)
       have g1 : decide (fl < fl') = false := by simpa using ga
       have g2 : decide (fl' < fl) = true := by simpa using gb
       clear ge
       go_wp2_with fail
       refine wp_region_held_drew (S := (fun w' => (w'.cell? ⟨b, o + i * 8, none⟩ = some (.string nm) ∧ w'.cell? ⟨b', o' + i * 8, none⟩ = some (.string nm')) ∧ (w'.cell? ⟨b, o + i * 8 + 1, none⟩ = some (.int .i64 fl) ∧ w'.cell? ⟨b', o' + i * 8 + 1, none⟩ = some (.int .i64 fl')) ∧ (w'.cell? ⟨b, o + i * 8 + 2, none⟩ = some (.int .i64 p0) ∧ w'.cell? ⟨b, o + i * 8 + 2 + 1, none⟩ = some (.string p1) ∧ w'.cell? ⟨b, o + i * 8 + 2 + 2, none⟩ = some (.int .i64 p2) ∧ w'.cell? ⟨b, o + i * 8 + 2 + 3, none⟩ = some (.slice p3 p4 p5) ∧ w'.cell? ⟨b, o + i * 8 + 2 + 4, none⟩ = some (.slice p6 p7 p8) ∧ w'.cell? ⟨b, o + i * 8 + 2 + 5, none⟩ = some (.slice p9 pa pb)) ∧ w'.cell? ⟨b', o' + i * 8 + 2, none⟩ = some (.int .i64 q0) ∧ w'.cell? ⟨b', o' + i * 8 + 2 + 1, none⟩ = some (.string q1) ∧ w'.cell? ⟨b', o' + i * 8 + 2 + 2, none⟩ = some (.int .i64 q2) ∧ w'.cell? ⟨b', o' + i * 8 + 2 + 3, none⟩ = some (.slice q3 q4 q5) ∧ w'.cell? ⟨b', o' + i * 8 + 2 + 4, none⟩ = some (.slice q6 q7 q8) ∧ w'.cell? ⟨b', o' + i * 8 + 2 + 5, none⟩ = some (.slice q9 qa qb))) (by kernel_rfl) (HC.out _ (Below.refl wr.heap.size wr).drew.drew) (fun hHeld => ?_)
       refine Plan.start [0, 1, 2, 3, 4, 5, 6, 7, 8, 9, 10, 11, 12, 13, 14, 15, 16, 17, 18, 19, 20, 21] ?_
       iterate 22 (refine Plan.tk (so rfl) hHeld ?_; try simp only [Act.put, pz1, pz2, pz3])
       refine Plan.done ?_
       refine wpAnyH_ready (rs := [22]) (by kernel_rfl) (by simp) ?_
       refine AllReadyH.cons (sd (some 75) rfl) (fun K hK => ?_) AllReadyH.nil
       go_simp
       refine (sign_any _ _ _).mono ?_
       rintro e w2 ⟨rfl, rfl⟩
       simp only [sgn]
       go_wp2_with fail
       refine hK.out _ _ (HC.out _ (Below.refl wr.heap.size wr).drew.drew) (fun hHeld => ?_)
       clear hK K
       try simp only [Act.put, pz1, pz2, pz3]
       refine Plan.start [23] ?_
       refine Plan.tk (so rfl) hHeld ?_
       try simp only [Act.put, pz1, pz2, pz3]
       refine Plan.done ?_
       refine wpAnyH_done (by kernel_rfl) ?_ _
       clear hHeld
       clear i0 i1 t1
       go_wp2_with fail
       refine ⟨⟨1, i + 1, HLE.out, by first | rfl | trivial, by first | rfl | rw [wr2], HV2.out, HB.out.drew.drew⟩, ?_⟩
       first | exact HM.out | (rw [wr2]; exact HM.out)
      ·have HV2 : Hid (or2 oo (restC (fun f : ByteArray × Int × Ty => [Tok.s f.1, .i f.2.1] ++ flat f.2.2) l l' (i + 1)) = res) := Hd (by have h := HV1.out; rw [ge, or2_zero] at h; exact h)
       have g1 : decide (fl < fl') = false := by simpa using ga
       have g2 : decide (fl' < fl) = false := by simpa using gb
       clear ge
       go_wp2_with fail
       refine wp_region_held_drew (S := (fun w' => (w'.cell? ⟨b, o + i * 8, none⟩ = some (.string nm) ∧ w'.cell? ⟨b', o' + i * 8, none⟩ = some (.string nm')) ∧ (w'.cell? ⟨b, o + i * 8 + 1, none⟩ = some (.int .i64 fl) ∧ w'.cell? ⟨b', o' + i * 8 + 1, none⟩ = some (.int .i64 fl')) ∧ (w'.cell? ⟨b, o + i * 8 + 2, none⟩ = some (.int .i64 p0) ∧ w'.cell? ⟨b, o + i * 8 + 2 + 1, none⟩ = some (.string p1) ∧ w'.cell? ⟨b, o + i * 8 + 2 + 2, none⟩ = some (.int .i64 p2) ∧ w'.cell? ⟨b, o + i * 8 + 2 + 3, none⟩ = some (.slice p3 p4 p5) ∧ w'.cell? ⟨b, o + i * 8 + 2 + 4, none⟩ = some (.slice p6 p7 p8) ∧ w'.cell? ⟨b, o + i * 8 + 2 + 5, none⟩ = some (.slice p9 pa pb)) ∧ w'.cell? ⟨b', o' + i * 8 + 2, none⟩ = some (.int .i64 q0) ∧ w'.cell? ⟨b', o' + i * 8 + 2 + 1, none⟩ = some (.string q1) ∧ w'.cell? ⟨b', o' + i * 8 + 2 + 2, none⟩ = some (.int .i64 q2) ∧ w'.cell? ⟨b', o' + i * 8 + 2 + 3, none⟩ = some (.slice q3 q4 q5) ∧ w'.cell? ⟨b', o' + i * 8 + 2 + 4, none⟩ = some (.slice q6 q7 q8) ∧ w'.cell? ⟨b', o' + i * 8 + 2 + 5, none⟩ = some (.slice q9 qa qb))) (by kernel_rfl) (HC.out _ (Below.refl wr.heap.size wr).drew.drew) (fun hHeld => ?_)
       refine Plan.start [0, 1, 2, 3, 4, 5, 6, 7, 8, 9, 10, 11, 12, 13, 14, 15, 16, 17, 18, 19, 20, 21] ?_
       iterate 22 (refine Plan.tk (so rfl) hHeld ?_; try simp only [Act.put, pz1, pz2, pz3])
       refine Plan.done ?_
       refine wpAnyH_ready (rs := [22]) (by kernel_rfl) (by simp) ?_
       refine AllReadyH.cons (sd (some 75) rfl) (fun K hK => ?_) AllReadyH.nil
       go_simp
       refine (sign_any _ _ _).mono ?_
       rintro e w2 ⟨rfl, rfl⟩
       simp only [sgn]
       go_wp2_with fail
       refine hK.out _ _ (HC.out _ (Below.refl wr.heap.size wr).drew.drew) (fun hHeld => ?_)
       clear hK K
       try simp only [Act.put, pz1, pz2, pz3]
       refine Plan.start [23] ?_
       refine Plan.tk (so rfl) hHeld ?_
       try simp only [Act.put, pz1, pz2, pz3]
       refine Plan.done ?_
       refine wpAnyH_done (by kernel_rfl) ?_ _
       clear hHeld
       clear ga gb
       go_wp2_with fail
       refine wp_region_held_drew (S := (fun w' => (w'.cell? ⟨b, o + i * 8, none⟩ = some (.string nm) ∧ w'.cell? ⟨b', o' + i * 8, none⟩ = some (.string nm')) ∧ (w'.cell? ⟨b, o + i * 8 + 1, none⟩ = some (.int .i64 fl) ∧ w'.cell? ⟨b', o' + i * 8 + 1, none⟩ = some (.int .i64 fl')) ∧ (w'.cell? ⟨b, o + i * 8 + 2, none⟩ = some (.int .i64 p0) ∧ w'.cell? ⟨b, o + i * 8 + 2 + 1, none⟩ = some (.string p1) ∧ w'.cell? ⟨b, o + i * 8 + 2 + 2, none⟩ = some (.int .i64 p2) ∧ w'.cell? ⟨b, o + i * 8 + 2 + 3, none⟩ = some (.slice p3 p4 p5) ∧ w'.cell? ⟨b, o + i * 8 + 2 + 4, none⟩ = some (.slice p6 p7 p8) ∧ w'.cell? ⟨b, o + i * 8 + 2 + 5, none⟩ = some (.slice p9 pa pb)) ∧ w'.cell? ⟨b', o' + i * 8 + 2, none⟩ = some (.int .i64 q0) ∧ w'.cell? ⟨b', o' + i * 8 + 2 + 1, none⟩ = some (.string q1) ∧ w'.cell? ⟨b', o' + i * 8 + 2 + 2, none⟩ = some (.int .i64 q2) ∧ w'.cell? ⟨b', o' + i * 8 + 2 + 3, none⟩ = some (.slice q3 q4 q5) ∧ w'.cell? ⟨b', o' + i * 8 + 2 + 4, none⟩ = some (.slice q6 q7 q8) ∧ w'.cell? ⟨b', o' + i * 8 + 2 + 5, none⟩ = some (.slice q9 qa qb))) (by kernel_rfl) (HC.out _ (Below.refl wr.heap.size wr).drew.drew.drew) (fun hHeld => ?_)
       refine Plan.start [0, 1, 2, 3, 4, 5, 6, 7, 8, 9] ?_
       iterate 10 (refine Plan.tk (so rfl) hHeld ?_; try simp only [Act.put, pz1, pz2, pz3])
       refine Plan.done ?_
       refine wpAnyH_ready (rs := [10]) (by kernel_rfl) (by simp) ?_
       refine AllReadyH.cons (sd (some 88) rfl) (fun K hK => ?_) AllReadyH.nil
       go_simp
       refine (KO.out _ (Below.refl wr.heap.size wr).drew.drew.drew).mono ?_
       rintro e w2 ⟨rfl, hb2⟩
       have HB2 := Hd ((Below.refl wr.heap.size wr).drew.drew.drew.trans hb2.below)
       have HG2 := Hd ((HB.out.drew.drew.drew).trans hb2)
       clear hb2
       go_wp2_with fail
       refine hK.out _ _ (HC.out _ HB2.out) (fun hHeld => ?_)
       clear hK K
       try simp only [Act.put, pz1, pz2, pz3]
       refine Plan.start [11] ?_
       refine Plan.tk (so rfl) hHeld ?_
       try simp only [Act.put, pz1, pz2, pz3]
       refine Plan.done ?_
       refine wpAnyH_done (by kernel_rfl) ?_ _
       clear hHeld
       clear i0 i1 t1
       go_wp2_with fail
       refine ⟨⟨oo, i + 1, HLE.out, by first | rfl | trivial, by first | rfl | rw [wr2], HV2.out, HG2.out⟩, ?_⟩
       first | exact HM.out | (rw [wr2]; exact HM.out)
    ·have t1 : decide ((i : Int) < (l.length : Int)) = false := by simp; omega
     have HR : Hid (res = 0) := Hd (by
      have h := HO.out
      rw [show i = l.length from by omega, rest_end (fun f : ByteArray × Int × Ty => [Tok.s f.1, .i f.2.1] ++ flat f.2.2) HEQ.out, or2_zero] at h
      exact h.symm)
     clear hi hb
     go_wp2_with fail
     go_ret
     exact ⟨by rw [HR.out]; rfl, HB.out⟩
   ·have hc0 : (cc == 0) = false := by simpa using hcc
    have HR : Hid (res = cc) := Hd (by rw [← HO.out, or2_ne hcc])
    clear hi hb hcc
    go_wp2_with fail
    go_ret
    exact ⟨by rw [HR.out]; rfl, HB.out⟩
 ·rw [row_len (fun f : ByteArray × Int × Ty => [Tok.s f.1, .i f.2.1] ++ flat f.2.2) heq]
  rcases cmpZ_cases (l.length : Int) (l'.length : Int) with ⟨ha, hb, he⟩ | ⟨ha, hb, he⟩ | ⟨ha, hb, he⟩
  ·have HE := Hd he
   have n1 : l.length < l'.length := by omega
   have n2 : ¬ l'.length < l.length := by omega
   clear he heq ha hb
   go_enter Tryz.func43, Tryz.ntmps43
   go_wp2_with fail
   refine (sign_any _ _ _).mono ?_
   rintro e w1 ⟨rfl, rfl⟩
   simp only [sgn]
   go_wp2_with fail
   go_loopw [5, 6] (fun vc _ wr => vc = .int .i64 (-1) ∧ wr = w1) (fun _ _ _ => 0)
   case atStart => exact ⟨by first | rfl | simp, rfl⟩
   case round =>
    obtain ⟨rfl, rfl⟩ := hrel
    go_wp2_with fail
    go_ret
    exact ⟨by rw [HE.out]; rfl, Gw.refl _⟩
  ·have HE := Hd he
   have n1 : ¬ l.length < l'.length := by omega
   have n2 : l'.length < l.length := by omega
   clear he heq ha hb
   go_enter Tryz.func43, Tryz.ntmps43
   go_wp2_with fail
   refine (sign_any _ _ _).mono ?_
   rintro e w1 ⟨rfl, rfl⟩
   simp only [sgn]
   go_wp2_with fail
   go_loopw [5, 6] (fun vc _ wr => vc = .int .i64 (1) ∧ wr = w1) (fun _ _ _ => 0)
   case atStart => exact ⟨by first | rfl | simp, rfl⟩
   case round =>
    obtain ⟨rfl, rfl⟩ := hrel
    go_wp2_with fail
    go_ret
    exact ⟨by rw [HE.out]; rfl, Gw.refl _⟩
  ·exact absurd heq (by omega)
end Go.Proofs.YtgjblmlibhppiaaGreatDoor
