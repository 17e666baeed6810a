import Derived.Test.YtnnjbgjhhbmfgaaGreatDoorTyR
namespace Go.Proofs.YtnnjbgjhhbmfgaaGreatDoor
open Go.RowKit
/-- An append to a slice that has room. -/
theorem wp_append_room {P : Program} {w : World} {o : Oper} {a : Act} {K : Act → World → Prop} {Q : Exit → Act → World → Prop} (s x : Operand) (t : TypeId)
    (ho : o.op = .call { callee := .builtin .append, args := #[s, x], argTypes := #[t, t] })
    (e : TypeId) (i : TypeInfo) (size : Nat) (ht : P.underlying t = some (.slice e)) (hi : P.info? e = some i) (hsize : i.size = size)
    (b off n cap : Nat) (hs : a.eval s = .slice (some ⟨b, off, none⟩) n cap)
    (ad : Addr) (m c : Nat) (news : List Value) (hx : a.eval x = .slice (some ad) m c) (hl : news.length = m * size) (hnews : ∀ j u, news[j]? = some u → w.cell? (ad.add j) = some u) (h1 : ∀ u ∈ news, u.oneCell' = true)
    (hroom : n + m ≤ cap) (oo : Nat) (hoo : oo = off + n * size) (hspare : ∀ j, j < news.length → (w.cell? ⟨b, oo + j, none⟩).isSome = true ∧ w.frozen? ⟨b, oo + j, none⟩ = false)
    (h : K (a.put o.dst (.slice (some ⟨b, off, none⟩) (n + m) cap)) (w.setCells b oo news)) :
    Oper.wp P o a w K Q := by
  subst hsize
  subst hoo
  have hrun := run_append_room_cells (P := P) w t o.type e i ht hi b off n cap ad m c news hl hnews h1 hroom (fun j hj => (hspare j hj).1) (fun j hj => (hspare j hj).2)
  unfold Oper.wp execOp
  simp only [ho, resolve, invoke, builtin, Sem.run_bind, Sem.run_pure, Result.andThen_ok, List.map_toArray, List.map_cons, List.map_nil, hs, hx, hrun]
  exact h
theorem six_set {W : World} {b : Nat} {T : TypeId} {x0 x1 x2 x3 x4 x5 : Value} (h : W.heap[b]? = some (.cells #[x0, x1, x2, x3, x4, x5] T (0, 0))) (y0 y1 y2 y3 y4 y5 : Value) :
    ((((((W.setCell ⟨b, 0, none⟩ y0).setCell ⟨b, 1, none⟩ y1).setCell ⟨b, 2, none⟩ y2).setCell ⟨b, 3, none⟩ y3).setCell ⟨b, 4, none⟩ y4).setCell ⟨b, 5, none⟩ y5).heap[b]? = some (.cells #[y0, y1, y2, y3, y4, y5] T (0, 0)) := by
  have h0 := Go.heap_setCell_same W b 0 _ _ y0 h
  have h1 := Go.heap_setCell_same _ b 1 _ _ y1 h0
  have h2 := Go.heap_setCell_same _ b 2 _ _ y2 h1
  have h3 := Go.heap_setCell_same _ b 3 _ _ y3 h2
  have h4 := Go.heap_setCell_same _ b 4 _ _ y4 h3
  exact Go.heap_setCell_same _ b 5 _ _ y5 h4
theorem sets_other {g b : Nat} (hb : b ≠ g) : ∀ (vs : List Value) (o : Nat) (w : World), (w.setCells g o vs).heap[b]? = w.heap[b]?
  | [], _, _ => rfl
  | v :: vs, o, w => by
    show ((w.setCell ⟨g, o, none⟩ v).setCells g (o + 1) vs).heap[b]? = _
    rw [sets_other hb vs (o + 1), Below.heap_setCell _ _ _ _ hb]
theorem sets_below {g B : Nat} {a : World} (hg : B ≤ g) : ∀ (vs : List Value) (o : Nat) (w : World), Below B a w → Below B a (w.setCells g o vs)
  | [], _, _, h => h
  | v :: vs, o, w, h => sets_below hg vs (o + 1) (w.setCell ⟨g, o, none⟩ v) (h.setCell hg v)
theorem KeepR.next {K : Nat → Prop} {w1 wr w' : World} {gk g c : Nat} {h : Kinds} {ts : List Ty} {i : Nat} {F : List Ty} (r : KeepR K w1 wr gk g c h ts i F) (hi : i < ts.length) (hk : keepT h ts[i] = false) (hb : Below wr.heap.size wr w') : KeepR K w1 w' gk g c h ts (i + 1) F := by
  have hgl : gk < wr.heap.size := (Array.getElem?_eq_some_iff.1 r.kb).1
  refine ⟨hi, ?_, ?_, r.below.trans (hb.mono r.below.size), r.row.later hb⟩
  · rw [filter_take hi, hk, r.f]; simp
  · unfold KB; rw [hb.block _ hgl]; exact r.kb
theorem KeepR.push {K : Nat → Prop} {w1 wr wy : World} {gk g c : Nat} {h : Kinds} {ts : List Ty} {i : Nat} {F : List Ty} {cs : List Value} (r : KeepR K w1 wr gk g c h ts i F) (hi : i < ts.length) (hk : keepT h ts[i] = true) (hb : Below wr.heap.size wr wy) (hg : w1.heap.size ≤ g) (ht : RepT K w1 ts[i] cs) :
    KeepR K w1 (wy.setCells g (F.length * 6) cs) gk g c h ts (i + 1) (F ++ [ts[i]]) := by
  have hgl : gk < wr.heap.size := (Array.getElem?_eq_some_iff.1 r.kb).1
  have hne : gk ≠ g := by
    rintro rfl
    obtain ⟨cur, h1, _⟩ := r.row.blk
    rw [r.kb] at h1
    injection h1 with h1
    injection h1 with _ h1
    exact absurd h1 (by decide)
  have hf := r.fle
  refine ⟨hi, ?_, ?_, sets_below hg cs _ _ (r.below.trans (hb.mono r.below.size)), (r.row.later hb).put (by omega) ht⟩
  · rw [filter_take hi, hk, r.f]; simp
  · unfold KB
    rw [sets_other hne, hb.block _ hgl]
    exact r.kb
theorem InT.pre {K : Nat → Prop} {w0 w : World} {g c : Nat} {F R : List Ty} (h : InT K w0 w g c (F ++ R)) : InT K w0 w g c F := by
  have := h.le
  rw [List.length_append] at this
  refine ⟨by omega, h.mx, h.blk, fun i t hi => h.reps i t ?_⟩
  rw [List.getElem?_append_left (List.getElem?_eq_some_iff.1 hi).1]
  exact hi
end Go.Proofs.YtnnjbgjhhbmfgaaGreatDoor
