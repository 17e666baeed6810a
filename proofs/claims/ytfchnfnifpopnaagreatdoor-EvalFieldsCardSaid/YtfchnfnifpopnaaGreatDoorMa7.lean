import Derived.Test.YtfchnfnifpopnaaGreatDoorMa4
import Derived.Test.YtfchnfnifpopnaaGreatDoorMa5
import Derived.Test.YtfchnfnifpopnaaGreatDoorMa6
set_option maxRecDepth 100000
set_option maxHeartbeats 64000000
namespace Go.Proofs.YtfchnfnifpopnaaGreatDoor
open Go.RowKit
theorem seeL_is (h : Kinds) : ∀ l : List Ty, seeL h l = ⟨h.a || hasK 3 l, h.u || hasK 2 l, h.n || hasK 7 l, h.s || hasK 8 l⟩
 | [] => by simp [seeL, hasK]
 | t :: l => by
  show seeL (seeK h t.k) l = _
  rw [seeL_is (seeK h t.k) l]
  simp [seeK, hasK, Bool.or_assoc]
theorem seeL_kinds (l : List Ty) : seeL ⟨false, false, false, false⟩ l = kindsOf l := by
 rw [seeL_is]
 simp [kindsOf]
def SortP : Prop := ∀ (K : Nat → Prop) (w0 w : World) (g c : Nat) (l : List Ty), InT K w0 w g c l → Below w0.heap.size w0 w → w0.heap.size ≤ g → l.length ≤ 1099511627776 →
 Calls Tryz.prog 53 #[.slice (some ⟨g, 0, none⟩) l.length c, .func (.func 54) #[] #[]] w fun e w' => e = .returned (.tuple #[]) ∧ Below w0.heap.size w0 w' ∧ ∃ s, Wk s ∧ (∀ x, x ∈ s ↔ x ∈ l) ∧ s.length = l.length ∧ InT K w0 w' g c s
def SortN : Prop := ∀ (w : World), Calls Tryz.prog 53 #[.slice none 0 0, .func (.func 54) #[] #[]] w fun e w' => e = .returned (.tuple #[]) ∧ Below w.heap.size w w'
def CompP : Prop := ∀ (K : Nat → Prop) (w0 w : World) (g c : Nat) (s : List Ty), InT K w0 w g c s → Below w0.heap.size w0 w → w0.heap.size ≤ g → s.length ≤ 1099511627776 →
 Calls Tryz.prog 55 #[.slice (some ⟨g, 0, none⟩) s.length c, .func (.func 56) #[] #[]] w fun e w' => e = .returned (.slice (some ⟨g, 0, none⟩) (dedupT s).length c) ∧ Below w0.heap.size w0 w' ∧ InT K w0 w' g c (dedupT s)
def CompN : Prop := ∀ (w : World), Calls Tryz.prog 55 #[.slice none 0 0, .func (.func 56) #[] #[]] w fun e w' => e = .returned (.slice none 0 0) ∧ Below w.heap.size w w'
theorem clip_any (A : Option Addr) (n c : Nat) (w : World) (h : n ≤ c) : Calls Tryz.prog 58 #[.slice A n c] w fun e w' => e = .returned (.slice A n n) ∧ w' = w := by
 go_enter Tryz.func58, Tryz.ntmps58
 go_wp2_with fail
 go_ret
 exact ⟨rfl, rfl⟩
theorem filter_take {l : List Ty} {p : Ty → Bool} {i : Nat} (h : i < l.length) : (l.take (i + 1)).filter p = (l.take i).filter p ++ (if p l[i] then [l[i]] else []) := by
 rw [List.take_succ_eq_append_getElem h, List.filter_append]
 congr 1
 by_cases hp : p l[i] <;> simp [hp]
def UnionPost (K : Nat → Prop) (w : World) (l : List Ty) : Ending → World → Prop := fun e w' => ∃ cs, e = .returned (.agg cs.toArray) ∧ RepT (fun b => K b ∨ w.heap.size ≤ b) w' (unionT l) cs ∧ Below w.heap.size w w'
structure KeepR (K : Nat → Prop) (w1 wr : World) (gk g c : Nat) (h : Kinds) (ts : List Ty) (i : Nat) (F : List Ty) : Prop where
 le : i ≤ ts.length
 f : F = (ts.take i).filter (keepT h)
 kb : KB wr gk h
 below : Below w1.heap.size w1 wr
 row : InT K w1 wr g c (F ++ ts.drop F.length)
theorem KeepR.fle {K : Nat → Prop} {w1 wr : World} {gk g c : Nat} {h : Kinds} {ts : List Ty} {i : Nat} {F : List Ty} (r : KeepR K w1 wr gk g c h ts i F) : F.length ≤ i := by
 rw [r.f]
 exact Nat.le_trans (List.length_filter_le ..) (by simp; omega)
theorem KeepR.at {K : Nat → Prop} {w1 wr : World} {gk g c : Nat} {h : Kinds} {ts : List Ty} {i : Nat} {F : List Ty} (r : KeepR K w1 wr gk g c h ts i F) (hi : i < ts.length) : ∃ cs, RepT K w1 ts[i] cs ∧ ∀ (j : Nat) (u : Value), cs[j]? = some u → wr.cell? ⟨g, i * 6 + j, none⟩ = some u := by
 refine r.row.reps i _ ?_
 have := r.fle
 rw [List.getElem?_append_right this, List.getElem?_drop, show F.length + (i - F.length) = i from by omega]
 exact List.getElem?_eq_getElem hi
theorem wp_append_room {P : Program} {w : World} {o : Oper} {a : Act} {K : Act → World → Prop} {Q : Exit → Act → World → Prop} (s x : Operand) (t : TypeId)
  (ho : o.op = .call { callee := .builtin .append, args := #[s, x], argTypes := #[t, t] })
  (e : TypeId) (i : TypeInfo) (size : Nat) (ht : P.underlying t = some (.slice e)) (hi : P.info? e = some i) (hsize : i.size = size)
  (b off n cap : Nat) (hs : a.eval s = .slice (some ⟨b, off, none⟩) n cap)
  (ad : Addr) (m c : Nat) (news : List Value) (hx : a.eval x = .slice (some ad) m c) (hl : news.length = m * size) (hnews : ∀ j u, news[j]? = some u → w.cell? (ad.add j) = some u) (h1 : ∀ u ∈ news, u.oneCell' = true)
  (hroom : n + m ≤ cap) (oo : Nat) (hoo : oo = off + n * size) (hspare : ∀ j, j < news.length → (w.cell? ⟨b, oo + j, none⟩).isSome = true ∧ w.frozen? ⟨b, oo + j, none⟩ = false)
  (h : K (a.put o.dst (.slice (some ⟨b, off, none⟩) (n + m) cap)) (w.setCells b oo news)) :
  Oper.wp P o a w K Q := by
 subst hsize
 subst hoo
 have hrun := run_append_room_cells (P := P) w t o.type e i ht hi b off n cap ad m c news hl hnews h1 hroom (fun j hj => (hspare j hj).1) (fun j hj => (hspare j hj).2)
 unfold Oper.wp execOp
 simp only [ho, resolve, invoke, builtin, Sem.run_bind, Sem.run_pure, Result.andThen_ok, List.map_toArray, List.map_cons, List.map_nil, hs, hx, hrun]
 exact h
theorem six_set {W : World} {b : Nat} {T : TypeId} {x0 x1 x2 x3 x4 x5 : Value} (h : W.heap[b]? = some (.cells #[x0, x1, x2, x3, x4, x5] T (0, 0))) (y0 y1 y2 y3 y4 y5 : Value) :
  ((((((W.setCell ⟨b, 0, none⟩ y0).setCell ⟨b, 1, none⟩ y1).setCell ⟨b, 2, none⟩ y2).setCell ⟨b, 3, none⟩ y3).setCell ⟨b, 4, none⟩ y4).setCell ⟨b, 5, none⟩ y5).heap[b]? = some (.cells #[y0, y1, y2, y3, y4, y5] T (0, 0)) := by
 have h0 := Go.heap_setCell_same W b 0 _ _ y0 h
 have h1 := Go.heap_setCell_same _ b 1 _ _ y1 h0
 have h2 := Go.heap_setCell_same _ b 2 _ _ y2 h1
 have h3 := Go.heap_setCell_same _ b 3 _ _ y3 h2
 have h4 := Go.heap_setCell_same _ b 4 _ _ y4 h3
 exact Go.heap_setCell_same _ b 5 _ _ y5 h4
theorem sets_other {g b : Nat} (hb : b ≠ g) : ∀ (vs : List Value) (o : Nat) (w : World), (w.setCells g o vs).heap[b]? = w.heap[b]?
 | [], _, _ => rfl
 | v :: vs, o, w => by
  show ((w.setCell ⟨g, o, none⟩ v).setCells g (o + 1) vs).heap[b]? = _
  rw [sets_other hb vs (o + 1), Below.heap_setCell _ _ _ _ hb]
theorem sets_below {g B : Nat} {a : World} (hg : B ≤ g) : ∀ (vs : List Value) (o : Nat) (w : World), Below B a w → Below B a (w.setCells g o vs)
 | [], _, _, h => h
 | v :: vs, o, w, h => sets_below hg vs (o + 1) (w.setCell ⟨g, o, none⟩ v) (h.setCell hg v)
theorem KeepR.next {K : Nat → Prop} {w1 wr w' : World} {gk g c : Nat} {h : Kinds} {ts : List Ty} {i : Nat} {F : List Ty} (r : KeepR K w1 wr gk g c h ts i F) (hi : i < ts.length) (hk : keepT h ts[i] = false) (hb : Below wr.heap.size wr w') : KeepR K w1 w' gk g c h ts (i + 1) F := by
 have hgl : gk < wr.heap.size := (Array.getElem?_eq_some_iff.1 r.kb).1
 refine ⟨hi, ?_, ?_, r.below.trans (hb.mono r.below.size), r.row.later hb⟩
 ·rw [filter_take hi, hk, r.f]; simp
 ·unfold KB; rw [hb.block _ hgl]; exact r.kb
theorem KeepR.push {K : Nat → Prop} {w1 wr wy : World} {gk g c : Nat} {h : Kinds} {ts : List Ty} {i : Nat} {F : List Ty} {cs : List Value} (r : KeepR K w1 wr gk g c h ts i F) (hi : i < ts.length) (hk : keepT h ts[i] = true) (hb : Below wr.heap.size wr wy) (hg : w1.heap.size ≤ g) (ht : RepT K w1 ts[i] cs) :
  KeepR K w1 (wy.setCells g (F.length * 6) cs) gk g c h ts (i + 1) (F ++ [ts[i]]) := by
 have hgl : gk < wr.heap.size := (Array.getElem?_eq_some_iff.1 r.kb).1
 have hne : gk ≠ g := by
  rintro rfl
  obtain ⟨cur, h1, _⟩ := r.row.blk
  rw [r.kb] at h1
  injection h1 with h1
  injection h1 with _ h1
  exact absurd h1 (by decide)
 have hf := r.fle
 refine ⟨hi, ?_, ?_, sets_below hg cs _ _ (r.below.trans (hb.mono r.below.size)), (r.row.later hb).put (by omega) ht⟩
 ·rw [filter_take hi, hk, r.f]; simp
 ·unfold KB
  rw [sets_other hne, hb.block _ hgl]
  exact r.kb
theorem InT.pre {K : Nat → Prop} {w0 w : World} {g c : Nat} {F R : List Ty} (h : InT K w0 w g c (F ++ R)) : InT K w0 w g c F := by
 have := h.le
 rw [List.length_append] at this
 refine ⟨by omega, h.mx, h.blk, fun i t hi => h.reps i t ?_⟩
 rw [List.getElem?_append_left (List.getElem?_eq_some_iff.1 hi).1]
 exact hi
theorem rep_never (K : Nat → Prop) (w : World) : RepT K w (tyK 1) [.int .i64 1, .string ⟨#[]⟩, .int .i64 0, .slice none 0 0, .slice none 0 0, .slice none 0 0] :=
 RepT.of (by decide) ⟨⟨0, 0, ⟨by simp, by decide, fun _ => rfl, fun h => absurd h (by simp)⟩, fun i h => absurd h (by simp)⟩⟩ ⟨⟨0, 0, ⟨by simp, by decide, fun _ => rfl, fun h => absurd h (by simp)⟩, fun i h => absurd h (by simp)⟩⟩ ⟨⟨0, 0, ⟨by simp, by decide, fun _ => rfl, fun h => absurd h (by simp)⟩, fun i h => absurd h (by simp)⟩⟩
theorem six_other {b : Nat} (W : World) (y0 y1 y2 y3 y4 y5 : Value) {p : Addr} (h : p.block ≠ b) : ((((((W.setCell ⟨b, 0, none⟩ y0).setCell ⟨b, 1, none⟩ y1).setCell ⟨b, 2, none⟩ y2).setCell ⟨b, 3, none⟩ y3).setCell ⟨b, 4, none⟩ y4).setCell ⟨b, 5, none⟩ y5).cell? p = W.cell? p := by
 refine World.cell?_of_block ?_
 rw [Below.heap_setCell _ _ _ _ h, Below.heap_setCell _ _ _ _ h, Below.heap_setCell _ _ _ _ h, Below.heap_setCell _ _ _ _ h, Below.heap_setCell _ _ _ _ h, Below.heap_setCell _ _ _ _ h]
theorem dedup_len : ∀ l : List Ty, (dedupT l).length ≤ l.length
 | [] => Nat.le_refl _
 | [a] => Nat.le_refl _
 | a :: b :: l => by
  have ih := dedup_len (b :: l)
  rw [dedupT]
  split
  ·exact Nat.le_trans ih (Nat.le_succ _)
  ·simpa using ih
theorem rep_box {K : Nat → Prop} {w w1 W : World} {t : Ty} {cs : List Value} (h : RepT K w1 t cs) (hlo : ∀ b, K b → b < w.heap.size) (hb : Below w1.heap.size w1 W) (y0 y1 y2 y3 y4 y5 : Value) :
  RepT (fun b => K b ∨ w.heap.size ≤ b) ((((((W.setCell ⟨w.heap.size, 0, none⟩ y0).setCell ⟨w.heap.size, 1, none⟩ y1).setCell ⟨w.heap.size, 2, none⟩ y2).setCell ⟨w.heap.size, 3, none⟩ y3).setCell ⟨w.heap.size, 4, none⟩ y4).setCell ⟨w.heap.size, 5, none⟩ y5) t cs :=
 RepT.keep (fun _ h => .inl h) (fun b o v hk hc => by
  rw [six_other W y0 y1 y2 y3 y4 y5 (p := ⟨b, o, none⟩) (by have := hlo b hk; show b ≠ _; omega)]
  exact cell_stays hb hc) t cs h
theorem rep_many {K : Nat → Prop} {w w1 W : World} {g c : Nat} {dd : List Ty} (h : InT K w1 W g c dd) (hlo : ∀ b, K b → b < w.heap.size) (hb : Below w1.heap.size w1 W) (hg : w.heap.size < g) (hl : dd.length ≤ 1000000000000000) (y0 y1 y2 y3 y4 y5 : Value) :
  RepT (fun b => K b ∨ w.heap.size ≤ b) ((((((W.setCell ⟨w.heap.size, 0, none⟩ y0).setCell ⟨w.heap.size, 1, none⟩ y1).setCell ⟨w.heap.size, 2, none⟩ y2).setCell ⟨w.heap.size, 3, none⟩ y3).setCell ⟨w.heap.size, 4, none⟩ y4).setCell ⟨w.heap.size, 5, none⟩ y5) (.mk 15 emptyB 0 dd [] []) [.int .i64 15, .string ⟨#[]⟩, .int .i64 0, .slice (some ⟨g, 0, none⟩) dd.length dd.length, .slice none 0 0, .slice none 0 0] := by
 refine RepT.of (by decide) ⟨⟨g, 0, ⟨Nat.le_refl _, hl, (fun h => by cases h), fun _ => ⟨rfl, .inr (Nat.le_of_lt hg)⟩⟩, fun i hi => ?_⟩⟩ ⟨⟨0, 0, ⟨by simp, by decide, fun _ => rfl, fun h => absurd h (by simp)⟩, fun i h => absurd h (by simp)⟩⟩ ⟨⟨0, 0, ⟨by simp, by decide, fun _ => rfl, fun h => absurd h (by simp)⟩, fun i h => absurd h (by simp)⟩⟩
 obtain ⟨cs, h1, h2⟩ := h.reps i dd[i] (List.getElem?_eq_getElem hi)
 refine ⟨cs, fun j u hj => ?_, rep_box h1 hlo hb _ _ _ _ _ _⟩
 rw [six_other W y0 y1 y2 y3 y4 y5 (p := ⟨g, 0 + i * 6 + j, none⟩) (by show g ≠ _; omega), Nat.zero_add]
 exact h2 j u hj
theorem set_six_below {B b : Nat} {a W : World} (h : Below B a W) (hb : B ≤ b) (y0 y1 y2 y3 y4 y5 : Value) : Below B a ((((((W.setCell ⟨b, 0, none⟩ y0).setCell ⟨b, 1, none⟩ y1).setCell ⟨b, 2, none⟩ y2).setCell ⟨b, 3, none⟩ y3).setCell ⟨b, 4, none⟩ y4).setCell ⟨b, 5, none⟩ y5) :=
 (((((h.setCell hb y0).setCell hb y1).setCell hb y2).setCell hb y3).setCell hb y4).setCell hb y5
theorem union_any (hS : SortP) (hSN : SortN) (hC : CompP) (hCN : CompN) {K : Nat → Prop} {w : World} {l : List Ty} {A : Option Addr} {c : Nat} (hL : ListT K w l A c) (hbd : (flatU l).length ≤ 1099511627776) (hlo : ∀ b, K b → b < w.heap.size) :
  Calls Tryz.prog 34 #[.slice A l.length c] w (UnionPost K w l) := by
 have hb1 : Below w.heap.size w (w.alloc (.cells #[.int .i64 0, .string ⟨#[]⟩, .int .i64 0, .slice none 0 0, .slice none 0 0, .slice none 0 0] 26)) := (Below.refl _ _).alloc (Nat.le_refl _) _
 have KF := Lib.hid (flat_any l K (w.alloc (.cells #[.int .i64 0, .string ⟨#[]⟩, .int .i64 0, .slice none 0 0, .slice none 0 0, .slice none 0 0] 26)) ((w.alloc (.cells #[.int .i64 0, .string ⟨#[]⟩, .int .i64 0, .slice none 0 0, .slice none 0 0, .slice none 0 0] 26)).alloc (.cells #[.bool false, .bool false, .bool false, .bool false] 76)) A c (.slice none 0 0) [] (w.heap.size + 1) ⟨false, false, false, false⟩ (hL.later hb1) ((Below.refl _ _).alloc (Nat.le_refl _) _) (by simp) (by
  have h := heap_alloc_new (w.alloc (.cells #[.int .i64 0, .string ⟨#[]⟩, .int .i64 0, .slice none 0 0, .slice none 0 0, .slice none 0 0] 26)) (.cells #[.bool false, .bool false, .bool false, .bool false] 76)
  rw [World.size_alloc] at h
  exact h) ⟨⟨[], World.ownsRow_nil _ _ _ _, fun i h => absurd h (by simp)⟩⟩ (by simpa using hbd))
 have RB : Hid (∀ W, Below (w.alloc (.cells #[.int .i64 0, .string ⟨#[]⟩, .int .i64 0, .slice none 0 0, .slice none 0 0, .slice none 0 0] 26)).heap.size (w.alloc (.cells #[.int .i64 0, .string ⟨#[]⟩, .int .i64 0, .slice none 0 0, .slice none 0 0, .slice none 0 0] 26)) W → W.heap[w.heap.size]? = some (.cells #[.int .i64 0, .string ⟨#[]⟩, .int .i64 0, .slice none 0 0, .slice none 0 0, .slice none 0 0] 26 (0, 0))) := Lib.hid fun W hb => (hb.block w.heap.size (by simp)).trans (heap_alloc_new w _)
 have HB1 := Lib.hid hb1
 have HS := Lib.hid hS
 have HSN := Lib.hid hSN
 have HC := Lib.hid hC
 have HCN := Lib.hid hCN
 have HBD := Lib.hid hbd
 have HLO := Lib.hid hlo
 rw [seeL_kinds] at KF
 unfold UnionPost
 rw [show unionT l = shutU (sortT ((flatU l).filter (keepT (kindsOf (flatU l))))) from rfl]
 generalize kindsOf (flatU l) = hk at KF ⊢
 generalize flatU l = ts at KF HBD ⊢
 have hw1s : (w.alloc (.cells #[.int .i64 0, .string ⟨#[]⟩, .int .i64 0, .slice none 0 0, .slice none 0 0, .slice none 0 0] 26)).heap.size = w.heap.size + 1 := by simp
 have HW1 := Lib.hid hw1s
 clear hL hbd hlo hb1 hS hSN hC hCN hw1s
 obtain ⟨i0, hi0, hz0, hz1, hz2⟩ := partsT infoTy
 generalize hw1 : (w.alloc (.cells #[.int .i64 0, .string ⟨#[]⟩, .int .i64 0, .slice none 0 0, .slice none 0 0, .slice none 0 0] 26)) = w1 at KF RB HB1 HW1
 have HE1 := Lib.hid hw1
 clear hw1
 go_enter Tryz.func34, Tryz.ntmps34
 go_wp2_with fail
 rw [HE1.out]
 refine KF.out.mono ?_
 rintro e w3 ⟨v3, rfl, ho, hkb, hb3⟩
 rw [List.nil_append] at ho
 have HB3 := Lib.hid hb3
 have HKB := Lib.hid hkb
 rcases InT.of_out ho with ⟨rfl, rfl⟩ | ⟨g, cc, rfl, hg, hin⟩
 ·clear KF ho hkb hb3
  go_wp2_with fail
  go_loopw [5, 14] (fun kv v wr => kv = .slice none 0 0 ∧ v = .int .i64 0 ∧ Below w1.heap.size w1 wr) (fun _ _ _ => 0)
  case atStart => exact ⟨rfl, rfl, HB3.out⟩
  case round =>
   obtain ⟨rfl, rfl, hbr⟩ := hrel
   have HBr := Lib.hid hbr
   clear hbr
   go_wp2_with fail
   refine (HSN.out _).mono ?_
   rintro e w5 ⟨rfl, hb5⟩
   have HB5 := Lib.hid (HBr.out.trans (hb5.mono HBr.out.size))
   clear hb5
   go_wp2_with fail
   refine (HCN.out _).mono ?_
   rintro e w6 ⟨rfl, hb6⟩
   have HB6 := Lib.hid (HB5.out.trans (hb6.mono HB5.out.size))
   clear hb6
   have rb := RB.out _ HB6.out
   have q0 := Lib.cell_of_heap rb 0
   have q1 := Lib.cell_of_heap rb 1
   have q2 := Lib.cell_of_heap rb 2
   have q3 := Lib.cell_of_heap rb 3
   have q4 := Lib.cell_of_heap rb 4
   have q5 := Lib.cell_of_heap rb 5
   have z0 := Lib.frozen_of_heap rb 0
   have z1 := Lib.frozen_of_heap rb 1
   have z2 := Lib.frozen_of_heap rb 2
   have z3 := Lib.frozen_of_heap rb 3
   have z4 := Lib.frozen_of_heap rb 4
   have z5 := Lib.frozen_of_heap rb 5
   have rs := six_set rb (.int .i64 1) (.string ⟨#[]⟩) (.int .i64 0) (.slice none 0 0) (.slice none 0 0) (.slice none 0 0)
   have r0 := Lib.cell_of_heap rs 0
   have r1 := Lib.cell_of_heap rs 1
   have r2 := Lib.cell_of_heap rs 2
   have r3 := Lib.cell_of_heap rs 3
   have r4 := Lib.cell_of_heap rs 4
   have r5 := Lib.cell_of_heap rs 5
   clear rb rs
   go_wp2_with fail
   refine bodyPost_ret (v := .agg #[.int .i64 1, .string ⟨#[]⟩, .int .i64 0, .slice none 0 0, .slice none 0 0, .slice none 0 0]) (by simp [results, Tryz.results34, go_sem, r0, r1, r2, r3, r4, r5]) rfl ?_
   clear r0 r1 r2 r3 r4 r5 q0 q1 q2 q3 q4 q5 z0 z1 z2 z3 z4 z5
   exact ⟨[.int .i64 1, .string ⟨#[]⟩, .int .i64 0, .slice none 0 0, .slice none 0 0, .slice none 0 0], rfl, rep_never _ _, set_six_below (below_then HB1.out HB6.out) (Nat.le_refl _) _ _ _ _ _ _⟩
 ·have HIN := Lib.hid hin
  have HG := Lib.hid hg
  have hcap := hin.le
  have hmx := hin.mx
  unfold maxLen at hmx
  clear KF ho hkb hb3 hin hg
  go_wp2_with fail
  go_loopw [5, 14] (fun kv v wr => ∃ (i : Nat) (F : List Ty), v = .int .i64 i ∧ kv = .slice (some ⟨g, 0, none⟩) F.length cc ∧ KeepR K w1 wr (w.heap.size + 1) g cc hk ts i F) (fun _ v _ => ts.length - (intOf v).toNat)
  case atStart => exact ⟨0, [], rfl, rfl, by omega, by simp, HKB.out, HB3.out, by simpa using HIN.out⟩
  case round =>
   obtain ⟨i, F, rfl, rfl, hr⟩ := hrel
   have HR := Lib.hid hr
   by_cases hlt : i < ts.length
   ·obtain ⟨cs, hrep, hcs⟩ := hr.at hlt
    have hfl := hr.fle
    have hnx := fun (wy : World) hkf hb => hr.next (w' := wy) hlt hkf hb
    have hpu := fun (wy : World) hb hk => hr.push (wy := wy) (cs := cs) hlt hk hb HG.out hrep
    have HNX := Lib.hid hnx
    have HPU := Lib.hid hpu
    have ti : decide ((i : Int) < (ts.length : Int)) = true := by simp; omega
    have wr2 : wrap64 ((i : Int) + 1) = ((i + 1 : Nat) : Int) := wrap_one (by have := HBD.out; omega)
    have HL := Lib.hid hlt
    generalize ts[i] = t at hrep HNX HPU
    obtain ⟨k, s, n, ps, fs, ws⟩ := t
    obtain ⟨Ap, cp, Af, cf, Av, cv, rfl, -⟩ := hrep.inv
    simp only [cells6T] at hcs hrep HPU
    have x0 : wr.cell? ⟨g, i * 6, none⟩ = some (.int .i64 k) := hcs 0 _ rfl
    have x1 := hcs 1 _ rfl
    have x2 := hcs 2 _ rfl
    have x3 := hcs 3 _ rfl
    have x4 := hcs 4 _ rfl
    have x5 := hcs 5 _ rfl
    have hbx : Below wr.heap.size wr (wr.alloc (.cells #[.int .i64 k, .string s, .int .i64 n, .slice Ap ps.length cp, .slice Af fs.length cf, .slice Av ws.length cv] 26)) := (Below.refl _ _).alloc (Nat.le_refl _) _
    have KK := Lib.hid (keep_any (K := K) (w := wr.alloc (.cells #[.int .i64 k, .string s, .int .i64 n, .slice Ap ps.length cp, .slice Af fs.length cf, .slice Av ws.length cv] 26)) (g := w.heap.size + 1) (h := hk) (t := .mk k s n ps fs ws) (b := wr.heap.size) (o := 0) (by
     unfold KB
     rw [hbx.block _ (Array.getElem?_eq_some_iff.1 HR.out.kb).1]
     exact HR.out.kb) (AtT.box _ (hrep.later (HR.out.below))))
    have HBx := Lib.hid hbx
    generalize hkt : keepT hk (.mk k s n ps fs ws) = q at KK HNX HPU
    clear hr hrep hcs hnx hpu hbx hkt
    go_wp2_with fail
    refine KK.out.mono ?_
    rintro e w5 ⟨rfl, rfl⟩
    have b0 := World.cell?_alloc_new wr #[.int .i64 k, .string s, .int .i64 n, .slice Ap ps.length cp, .slice Af fs.length cf, .slice Av ws.length cv] 26
    cases q with
    | false =>
     go_wp2_with fail
     refine ⟨⟨i + 1, F, by first | rfl | rw [wr2], rfl, HNX.out _ (by trivial) HBx.out⟩, ?_⟩
     first | exact measI HL.out | exact measT HL.out | (rw [wr2]; exact measI HL.out)
    | true =>
     have HB6 := Lib.hid (HBx.out.alloc (by simp) (.cells #[.int .i64 k, .string s, .int .i64 n, .slice Ap ps.length cp, .slice Af fs.length cf, .slice Av ws.length cv] 26))
     have HFl : Hid (F.length + 1 ≤ cc) := Lib.hid (by omega)
     have HC6 := Lib.hid (cellsT_new (wr.alloc (.cells #[.int .i64 k, .string s, .int .i64 n, .slice Ap ps.length cp, .slice Af fs.length cf, .slice Av ws.length cv] 26)) [.int .i64 k, .string s, .int .i64 n, .slice Ap ps.length cp, .slice Af fs.length cf, .slice Av ws.length cv] 26)
     rw [World.size_alloc] at HC6
     clear hfl x0 x1 x2 x3 x4 x5
     go_wp2_with (at_builtin; refine wpList_plain rfl fun K hK => ?_; go_loud (refine wp_append_room _ _ 22 rfl 26 i0 6 Tryz.underlying22 hi0 hz1 g 0 F.length cc rfl ⟨wr.heap.size + 1, 0, none⟩ 1 1 [.int .i64 k, .string s, .int .i64 n, .slice Ap ps.length cp, .slice Af fs.length cf, .slice Av ws.length cv] rfl rfl ?a0 ?a1 ?a2 (F.length * 6) (by omega) ?a3 ?_))
     case a0 => exact HC6.out
     case a1 =>
      intro u hu
      simp only [List.mem_cons, List.not_mem_nil, or_false] at hu
      rcases hu with rfl | rfl | rfl | rfl | rfl | rfl <;> rfl
     case a2 => exact HFl.out
     case a3 =>
      intro j hj
      have hj6 : j < 6 := hj
      exact (HR.out.row.later HB6.out).there (by have := HFl.out; omega)
     refine ⟨⟨i + 1, _, by first | rfl | rw [wr2], ?p1, HPU.out _ HB6.out (by trivial)⟩, ?_⟩
     case p1 => simp
     first | exact measI HL.out | exact measT HL.out | (rw [wr2]; exact measI HL.out)
   ·have ti : decide ((i : Int) < (ts.length : Int)) = false := by simp; omega
    have HFf : Hid (F = ts.filter (keepT hk)) := Lib.hid (by rw [hr.f, List.take_of_length_le (by omega)])
    have HFl : Hid (F.length ≤ 1099511627776) := Lib.hid (by have h1 := hr.fle; have h2 := hr.le; have h3 := HBD.out; omega)
    have KS := Lib.hid (HS.out K w1 wr g cc F hr.row.pre hr.below HG.out HFl.out)
    clear hr
    go_wp2_with fail
    refine KS.out.mono ?_
    rintro e w5 ⟨rfl, hb5, s, hws, hmem, hlen, hin5⟩
    have KC := Lib.hid (HC.out K w1 w5 g cc s hin5 hb5 HG.out (by rw [hlen]; exact HFl.out))
    rw [hlen] at KC
    have HSD := Lib.hid (sort_dedup hws hmem)
    have HDl : Hid ((dedupT s).length ≤ 1099511627776) := Lib.hid (by have h1 := dedup_len s; have h2 := HFl.out; omega)
    clear hb5 hws hmem hlen hin5 KS
    go_wp2_with fail
    refine KC.out.mono ?_
    rintro e w6 ⟨rfl, hb6, hin6⟩
    have HB6 := Lib.hid hb6
    have HIN6 := Lib.hid hin6
    clear hb6 hin6 KC
    generalize dedupT s = d at HSD HDl HIN6
    cases d with
    | nil =>
     have rb := RB.out _ HB6.out
     have q0 := Lib.cell_of_heap rb 0
     have q1 := Lib.cell_of_heap rb 1
     have q2 := Lib.cell_of_heap rb 2
     have q3 := Lib.cell_of_heap rb 3
     have q4 := Lib.cell_of_heap rb 4
     have q5 := Lib.cell_of_heap rb 5
     have z0 := Lib.frozen_of_heap rb 0
     have z1 := Lib.frozen_of_heap rb 1
     have z2 := Lib.frozen_of_heap rb 2
     have z3 := Lib.frozen_of_heap rb 3
     have z4 := Lib.frozen_of_heap rb 4
     have z5 := Lib.frozen_of_heap rb 5
     have rs := six_set rb (.int .i64 1) (.string ⟨#[]⟩) (.int .i64 0) (.slice none 0 0) (.slice none 0 0) (.slice none 0 0)
     have r0 := Lib.cell_of_heap rs 0
     have r1 := Lib.cell_of_heap rs 1
     have r2 := Lib.cell_of_heap rs 2
     have r3 := Lib.cell_of_heap rs 3
     have r4 := Lib.cell_of_heap rs 4
     have r5 := Lib.cell_of_heap rs 5
     clear rb rs
     go_wp2_with fail
     refine bodyPost_ret (v := .agg #[.int .i64 1, .string ⟨#[]⟩, .int .i64 0, .slice none 0 0, .slice none 0 0, .slice none 0 0]) (by simp [results, Tryz.results34, go_sem, r0, r1, r2, r3, r4, r5]) rfl ?_
     clear r0 r1 r2 r3 r4 r5 q0 q1 q2 q3 q4 q5 z0 z1 z2 z3 z4 z5
     exact ⟨[.int .i64 1, .string ⟨#[]⟩, .int .i64 0, .slice none 0 0, .slice none 0 0, .slice none 0 0], rfl, by rw [← HFf.out, HSD.out]; exact rep_never _ _, set_six_below (below_then HB1.out HB6.out) (Nat.le_refl _) _ _ _ _ _ _⟩
    | cons x d =>
    cases d with
    | nil =>
     obtain ⟨cs, hrep, hcs⟩ := HIN6.out.reps 0 x rfl
     obtain ⟨k, s, n, ps, fs, ws⟩ := x
     obtain ⟨Ap, cp, Af, cf, Av, cv, rfl, -⟩ := hrep.inv
     simp only [cells6T] at hcs hrep
     have HREP := Lib.hid hrep
     have x0 : w6.cell? ⟨g, 0, none⟩ = some (.int .i64 k) := hcs 0 _ rfl
     have x1 : w6.cell? ⟨g, 1, none⟩ = some (.string s) := hcs 1 _ rfl
     have x2 : w6.cell? ⟨g, 2, none⟩ = some (.int .i64 n) := hcs 2 _ rfl
     have x3 : w6.cell? ⟨g, 3, none⟩ = some (.slice Ap ps.length cp) := hcs 3 _ rfl
     have x4 : w6.cell? ⟨g, 4, none⟩ = some (.slice Af fs.length cf) := hcs 4 _ rfl
     have x5 : w6.cell? ⟨g, 5, none⟩ = some (.slice Av ws.length cv) := hcs 5 _ rfl
     have hcap6 : 1 ≤ cc := HIN6.out.le
     clear hcs hrep
     have rb := RB.out _ HB6.out
     have q0 := Lib.cell_of_heap rb 0
     have q1 := Lib.cell_of_heap rb 1
     have q2 := Lib.cell_of_heap rb 2
     have q3 := Lib.cell_of_heap rb 3
     have q4 := Lib.cell_of_heap rb 4
     have q5 := Lib.cell_of_heap rb 5
     have z0 := Lib.frozen_of_heap rb 0
     have z1 := Lib.frozen_of_heap rb 1
     have z2 := Lib.frozen_of_heap rb 2
     have z3 := Lib.frozen_of_heap rb 3
     have z4 := Lib.frozen_of_heap rb 4
     have z5 := Lib.frozen_of_heap rb 5
     have rs := six_set rb (.int .i64 k) (.string s) (.int .i64 n) (.slice Ap ps.length cp) (.slice Af fs.length cf) (.slice Av ws.length cv)
     have r0 := Lib.cell_of_heap rs 0
     have r1 := Lib.cell_of_heap rs 1
     have r2 := Lib.cell_of_heap rs 2
     have r3 := Lib.cell_of_heap rs 3
     have r4 := Lib.cell_of_heap rs 4
     have r5 := Lib.cell_of_heap rs 5
     clear rb rs
     go_wp2_with fail
     refine bodyPost_ret (v := .agg #[.int .i64 k, .string s, .int .i64 n, .slice Ap ps.length cp, .slice Af fs.length cf, .slice Av ws.length cv]) (by simp [results, Tryz.results34, go_sem, r0, r1, r2, r3, r4, r5]) rfl ?_
     clear r0 r1 r2 r3 r4 r5 q0 q1 q2 q3 q4 q5 z0 z1 z2 z3 z4 z5
     exact ⟨[.int .i64 k, .string s, .int .i64 n, .slice Ap ps.length cp, .slice Af fs.length cf, .slice Av ws.length cv], rfl, by rw [← HFf.out, HSD.out]; exact rep_box HREP.out HLO.out HB6.out _ _ _ _ _ _, set_six_below (below_then HB1.out HB6.out) (Nat.le_refl _) _ _ _ _ _ _⟩
    | cons y d =>
     have hd0 : ((x :: y :: d).length : Int) ≠ 0 := by simp; omega
     have hd1 : ((x :: y :: d).length : Int) ≠ 1 := by simp; omega
     have te0 : (((x :: y :: d).length : Int) == 0) = false := by simpa using hd0
     have te1 : (((x :: y :: d).length : Int) == 1) = false := by simpa using hd1
     have KCl := Lib.hid (clip_any (some ⟨g, 0, none⟩) (x :: y :: d).length cc w6 HIN6.out.le)
     have HD2 : Hid (sortT F = x :: y :: d) := HSD
     have HDl2 : Hid ((x :: y :: d).length ≤ 1099511627776) := HDl
     have hun : shutU (x :: y :: d) = .mk 15 emptyB 0 (x :: y :: d) [] [] := rfl
     generalize x :: y :: d = dd at *
     have HUN := Lib.hid hun
     clear hd0 hd1 hun
     go_wp2_with fail
     refine KCl.out.mono ?_
     rintro e w7 ⟨rfl, rfl⟩
     clear KCl
     have rb := RB.out _ HB6.out
     have q0 := Lib.cell_of_heap rb 0
     have q1 := Lib.cell_of_heap rb 1
     have q2 := Lib.cell_of_heap rb 2
     have q3 := Lib.cell_of_heap rb 3
     have q4 := Lib.cell_of_heap rb 4
     have q5 := Lib.cell_of_heap rb 5
     have z0 := Lib.frozen_of_heap rb 0
     have z1 := Lib.frozen_of_heap rb 1
     have z2 := Lib.frozen_of_heap rb 2
     have z3 := Lib.frozen_of_heap rb 3
     have z4 := Lib.frozen_of_heap rb 4
     have z5 := Lib.frozen_of_heap rb 5
     have rs := six_set rb (.int .i64 15) (.string ⟨#[]⟩) (.int .i64 0) (.slice (some ⟨g, 0, none⟩) dd.length dd.length) (.slice none 0 0) (.slice none 0 0)
     have r0 := Lib.cell_of_heap rs 0
     have r1 := Lib.cell_of_heap rs 1
     have r2 := Lib.cell_of_heap rs 2
     have r3 := Lib.cell_of_heap rs 3
     have r4 := Lib.cell_of_heap rs 4
     have r5 := Lib.cell_of_heap rs 5
     clear rb rs
     go_wp2_with fail
     refine bodyPost_ret (v := .agg #[.int .i64 15, .string ⟨#[]⟩, .int .i64 0, .slice (some ⟨g, 0, none⟩) dd.length dd.length, .slice none 0 0, .slice none 0 0]) (by simp [results, Tryz.results34, go_sem, r0, r1, r2, r3, r4, r5]) rfl ?_
     clear r0 r1 r2 r3 r4 r5 q0 q1 q2 q3 q4 q5 z0 z1 z2 z3 z4 z5
     exact ⟨[.int .i64 15, .string ⟨#[]⟩, .int .i64 0, .slice (some ⟨g, 0, none⟩) dd.length dd.length, .slice none 0 0, .slice none 0 0], rfl, by rw [← HFf.out, HD2.out, HUN.out]; exact rep_many HIN6.out HLO.out HB6.out (by have h1 := HG.out; have h2 := HW1.out; omega) (by have := HDl2.out; omega) _ _ _ _ _ _, set_six_below (below_then HB1.out HB6.out) (Nat.le_refl _) _ _ _ _ _ _⟩
theorem RowAt.both {K : Nat → Prop} {w : World} {A : Option Addr} {l c b o : Nat} (h : RowAt K A l c b o) (hb : 0 < l → b < w.heap.size) : RowAt (fun b => K b ∧ b < w.heap.size) A l c b o := ⟨h.le, h.big, h.none, fun hl => ⟨(h.some hl).1, (h.some hl).2, hb hl⟩⟩
theorem RepT.both {K : Nat → Prop} {w : World} (t : Ty) : ∀ cs, RepT K w t cs → RepT (fun b => K b ∧ b < w.heap.size) w t cs := by
 refine Ty.ind (C := fun t => ∀ cs, RepT K w t cs → RepT (fun b => K b ∧ b < w.heap.size) w t cs) ?_ t
 intro k t n ps fs vs ihp ihf ihv cs h
 obtain ⟨A, c, A', c', A'', c'', rfl, ht, ⟨pb, po, hA, hp⟩, ⟨fb, fo, hA', hf⟩, ⟨vb, vo, hA'', hv⟩⟩ := h.inv
 refine RepT.of ht ⟨pb, po, hA.both (fun hl => ?_), fun i h => ?_⟩ ⟨fb, fo, hA'.both (fun hl => World.block_lt_of_cell? _ _ (hf 0 hl).1), fun i h => ?_⟩ ⟨vb, vo, hA''.both (fun hl => ?_), fun i h => ?_⟩
 ·obtain ⟨cs, h1, h2⟩ := hp 0 hl
  have h6 := h2.six
  exact World.block_lt_of_cell? _ _ (h1 0 _ (List.getElem?_eq_getElem (by omega)))
 ·obtain ⟨cs, h1, h2⟩ := hp i h
  exact ⟨cs, h1, ihp _ (List.getElem_mem h) cs h2⟩
 ·obtain ⟨h1, h2, h3, cs, h4, h5⟩ := hf i h
  exact ⟨h1, h2, h3, cs, h4, ihf _ (List.getElem_mem h) cs h5⟩
 ·obtain ⟨B, d, h1, _⟩ := hv 0 hl
  exact World.block_lt_of_cell? _ _ h1
 ·obtain ⟨B, d, h1, h2, h3, ⟨b, o, h4, h5⟩⟩ := hv i h
  refine ⟨B, d, h1, h2, h3, ⟨b, o, h4.both (fun hl => ?_), fun j h' => ?_⟩⟩
  ·obtain ⟨cs, h6, h7⟩ := h5 0 hl
   have h8 := h7.six
   exact World.block_lt_of_cell? _ _ (h6 0 _ (List.getElem?_eq_getElem (by omega)))
  ·obtain ⟨cs, h6, h7⟩ := h5 j h'
   exact ⟨cs, h6, ihv _ (List.getElem_mem h) _ (List.getElem_mem h') cs h7⟩
theorem ListT.both {K : Nat → Prop} {w : World} {l : List Ty} {A : Option Addr} {c : Nat} (h : ListT K w l A c) : ListT (fun b => K b ∧ b < w.heap.size) w l A c := by
 obtain ⟨b, o, h1, h2⟩ := h
 refine ⟨b, o, h1.both fun hl => ?_, fun i hi => ?_⟩
 ·obtain ⟨cs, h3, h4⟩ := h2 0 hl
  have h6 := h4.six
  exact World.block_lt_of_cell? _ _ (h3 0 _ (List.getElem?_eq_getElem (by omega)))
 ·obtain ⟨cs, h3, h4⟩ := h2 i hi
  exact ⟨cs, h3, RepT.both _ _ h4⟩
theorem RepT.weak {K K' : Nat → Prop} {w : World} {t : Ty} {cs : List Value} (h : RepT K w t cs) (hk : ∀ b, K b → K' b) : RepT K' w t cs := RepT.keep hk (fun _ _ _ _ h => h) t cs h
theorem ListT.weak {K K' : Nat → Prop} {w : World} {l : List Ty} {A : Option Addr} {c : Nat} (h : ListT K w l A c) (hk : ∀ b, K b → K' b) : ListT K' w l A c := by
 obtain ⟨b, o, h1, h2⟩ := h
 exact ⟨b, o, h1.weak hk, fun i hi => by obtain ⟨cs, h3, h4⟩ := h2 i hi; exact ⟨cs, h3, h4.weak hk⟩⟩
theorem ret_box {K : Nat → Prop} {B g : Nat} {W : World} {t : Ty} {cs : List Value} (h : RepT (fun b => K b ∨ g < b) W t cs) (hlo : ∀ b, K b → b < g) (hg : B ≤ g) (y0 y1 y2 y3 y4 y5 : Value) :
  RepT (fun b => K b ∨ B ≤ b) ((((((W.setCell ⟨g, 0, none⟩ y0).setCell ⟨g, 1, none⟩ y1).setCell ⟨g, 2, none⟩ y2).setCell ⟨g, 3, none⟩ y3).setCell ⟨g, 4, none⟩ y4).setCell ⟨g, 5, none⟩ y5) t cs :=
 RepT.keep (fun b hb => hb.imp id (fun h => Nat.le_trans hg (Nat.le_of_lt h))) (fun b o v hk hc => by
  rw [six_other W y0 y1 y2 y3 y4 y5 (p := ⟨b, o, none⟩) (by
   rcases hk with hk | hk
   ·have := hlo b hk; show b ≠ _; omega
   ·show b ≠ _; omega)]
  exact hc) t cs h
theorem rep_k (K : Nat → Prop) (w : World) (k : Int) : RepT K w (tyK k) [.int .i64 k, .string ⟨#[]⟩, .int .i64 0, .slice none 0 0, .slice none 0 0, .slice none 0 0] :=
 RepT.of (by decide) ⟨⟨0, 0, ⟨by simp, by decide, fun _ => rfl, fun h => absurd h (by simp)⟩, fun i h => absurd h (by simp)⟩⟩ ⟨⟨0, 0, ⟨by simp, by decide, fun _ => rfl, fun h => absurd h (by simp)⟩, fun i h => absurd h (by simp)⟩⟩ ⟨⟨0, 0, ⟨by simp, by decide, fun _ => rfl, fun h => absurd h (by simp)⟩, fun i h => absurd h (by simp)⟩⟩
def UnionP : Prop := ∀ (K : Nat → Prop) (w : World) (l : List Ty) (A : Option Addr) (c : Nat), ListT K w l A c → (flatU l).length ≤ 1099511627776 → (∀ b, K b → b < w.heap.size) → Calls Tryz.prog 34 #[.slice A l.length c] w (TyPost K w (unionT l))
theorem union_own (hU : UnionP) {K : Nat → Prop} {w0 w : World} {v : Value} {ts : List Ty} (h : OutT K w0 w v ts) (hlo : ∀ b, K b → b < w0.heap.size) (hb : Below w0.heap.size w0 w) (hn : (flatU ts).length ≤ 1099511627776) (hl : ts.length ≤ 1000000000000000) :
  Calls Tryz.prog 34 #[v] w fun e w' => ∃ rs, e = .returned (.agg rs.toArray) ∧ RepT (fun b => K b ∨ w0.heap.size ≤ b) w' (unionT ts) rs ∧ Below w.heap.size w w' := by
 obtain ⟨A, c, rfl, hL⟩ := h.list hlo hb hl
 refine (hU _ w ts A c hL.both hn fun b h => h.2).mono ?_
 rintro e w' ⟨rs, rfl, hr, hb'⟩
 refine ⟨rs, rfl, hr.weak fun b h => ?_, hb'⟩
 rcases h with h | h
 ·exact h.1
 ·exact .inr (Nat.le_trans hb.size h)
theorem box_up {w w' : World} {b : Nat} {o : Obj} (hb : Below w.heap.size w w') (hlt : b < w.heap.size) (h : w.heap[b]? = some o) : w'.heap[b]? = some o := (hb.block b hlt).trans h
end Go.Proofs.YtfchnfnifpopnaaGreatDoor
