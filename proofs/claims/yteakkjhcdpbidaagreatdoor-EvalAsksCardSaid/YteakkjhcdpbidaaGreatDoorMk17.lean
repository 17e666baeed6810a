import Derived.Test.YteakkjhcdpbidaaGreatDoorMk16
import Derived.Deep.CutBlock
namespace Go.Proofs.YteakkjhcdpbidaaGreatDoor
set_option maxRecDepth 100000
set_option maxHeartbeats 64000000
open Go.RowKit
structure MPre (w : World) (k : Int) (s : ByteArray) (n : Int) (ps : List Ty) (fs : FsT) (vs : VsT) (k3 : Int) (s3 : ByteArray) (n3 : Int) (ps3 : List Ty) (fs3 : FsT) (vs3 : VsT) (A : Option Addr) (c : Nat) (A' : Option Addr) (c' : Nat) (A'' : Option Addr) (c'' : Nat) (A3 : Option Addr) (c3 : Nat) (B3 : Option Addr) (d3 : Nat) (C3 : Option Addr) (e3 : Nat) (w1 : World) : Prop where
 HBX : Hid (∀ wx, Below w1.heap.size w1 wx → (wx.cell? ⟨w.heap.size, 0, none⟩ = some (.int .i64 k) ∧ wx.cell? ⟨w.heap.size, 1, none⟩ = some (.string s) ∧ wx.cell? ⟨w.heap.size, 2, none⟩ = some (.int .i64 n) ∧ wx.cell? ⟨w.heap.size, 3, none⟩ = some (.slice A ps.length c) ∧ wx.cell? ⟨w.heap.size, 4, none⟩ = some (.slice A' fs.length c') ∧ wx.cell? ⟨w.heap.size, 5, none⟩ = some (.slice A'' vs.length c'')) ∧ (wx.cell? ⟨w.heap.size + 1, 0, none⟩ = some (.int .i64 k3) ∧ wx.cell? ⟨w.heap.size + 1, 1, none⟩ = some (.string s3) ∧ wx.cell? ⟨w.heap.size + 1, 2, none⟩ = some (.int .i64 n3) ∧ wx.cell? ⟨w.heap.size + 1, 3, none⟩ = some (.slice A3 ps3.length c3) ∧ wx.cell? ⟨w.heap.size + 1, 4, none⟩ = some (.slice B3 fs3.length d3) ∧ wx.cell? ⟨w.heap.size + 1, 5, none⟩ = some (.slice C3 vs3.length e3)))
 HB1 : Hid (Below w.heap.size w w1)
 HW1 : Hid (w1 = ((w.alloc (.cells #[.int .i64 k, .string s, .int .i64 n, .slice A ps.length c, .slice A' fs.length c', .slice A'' vs.length c''] 26)).alloc (.cells #[.int .i64 k3, .string s3, .int .i64 n3, .slice A3 ps3.length c3, .slice B3 fs3.length d3, .slice C3 vs3.length e3] 26)))
 HR : Hid (RepT (fun b => b < w.heap.size) w (.mk k s n ps fs vs) [.int .i64 k, .string s, .int .i64 n, .slice A ps.length c, .slice A' fs.length c', .slice A'' vs.length c''])
 HP : Hid (RepT (fun b => b < w.heap.size) w (.mk k3 s3 n3 ps3 fs3 vs3) [.int .i64 k3, .string s3, .int .i64 n3, .slice A3 ps3.length c3, .slice B3 fs3.length d3, .slice C3 vs3.length e3])
theorem two_pre {K K2 : Nat → Prop} {w : World} {k : Int} {s : ByteArray} {n : Int} {ps : List Ty} {fs : FsT} {vs : VsT} {k3 : Int} {s3 : ByteArray} {n3 : Int} {ps3 : List Ty} {fs3 : FsT} {vs3 : VsT} {cs ds : List Value} {R : Prop} (hr : RepT K w (.mk k s n ps fs vs) cs) (hp : RepT K2 w (.mk k3 s3 n3 ps3 fs3 vs3) ds)
  (main : ∀ (A : Option Addr) (c : Nat) (A' : Option Addr) (c' : Nat) (A'' : Option Addr) (c'' : Nat) (A3 : Option Addr) (c3 : Nat) (B3 : Option Addr) (d3 : Nat) (C3 : Option Addr) (e3 : Nat) (w1 : World), MPre w k s n ps fs vs k3 s3 n3 ps3 fs3 vs3 A c A' c' A'' c'' A3 c3 B3 d3 C3 e3 w1 → cs = [.int .i64 k, .string s, .int .i64 n, .slice A ps.length c, .slice A' fs.length c', .slice A'' vs.length c''] → ds = [.int .i64 k3, .string s3, .int .i64 n3, .slice A3 ps3.length c3, .slice B3 fs3.length d3, .slice C3 vs3.length e3] → R) : R := by
 obtain ⟨A, c, A', c', A'', c'', hc, -⟩ := hr.inv
 obtain ⟨A3, c3, B3, d3, C3, e3, hd, -⟩ := hp.inv
 simp only [cells6T] at hc hd
 rw [hc] at hr
 rw [hd] at hp
 obtain ⟨w1, hw1⟩ : ∃ x, x = ((w.alloc (.cells #[.int .i64 k, .string s, .int .i64 n, .slice A ps.length c, .slice A' fs.length c', .slice A'' vs.length c''] 26)).alloc (.cells #[.int .i64 k3, .string s3, .int .i64 n3, .slice A3 ps3.length c3, .slice B3 fs3.length d3, .slice C3 vs3.length e3] 26)) := ⟨_, rfl⟩
 have hb1 : Below w.heap.size w w1 := by rw [hw1]; exact ((Below.refl _ _).alloc (Nat.le_refl _) _).alloc (by simp) _
 have hx0 : w1.heap[w.heap.size]? = some (.cells #[.int .i64 k, .string s, .int .i64 n, .slice A ps.length c, .slice A' fs.length c', .slice A'' vs.length c''] 26 (0, 0)) := by rw [hw1, Below.heap_alloc _ _ _ (by simp)]; exact heap_alloc_new w _
 have hy0 : w1.heap[w.heap.size + 1]? = some (.cells #[.int .i64 k3, .string s3, .int .i64 n3, .slice A3 ps3.length c3, .slice B3 fs3.length d3, .slice C3 vs3.length e3] 26 (0, 0)) := by
  rw [hw1]
  have h := heap_alloc_new (w.alloc (.cells #[.int .i64 k, .string s, .int .i64 n, .slice A ps.length c, .slice A' fs.length c', .slice A'' vs.length c''] 26)) (.cells #[.int .i64 k3, .string s3, .int .i64 n3, .slice A3 ps3.length c3, .slice B3 fs3.length d3, .slice C3 vs3.length e3] 26)
  rw [World.size_alloc] at h
  exact h
 refine main A c A' c' A'' c'' A3 c3 B3 d3 C3 e3 w1 ⟨Hd fun wx hx => ?_, Hd hb1, Hd hw1, Hd (RepT.low _ _ hr), Hd (RepT.low _ _ hp)⟩ hc hd
 have h1 := box_up hx (Array.getElem?_eq_some_iff.1 hx0).1 hx0
 have h2 := box_up hx (Array.getElem?_eq_some_iff.1 hy0).1 hy0
 exact ⟨⟨Ch h1 0, Ch h1 1, Ch h1 2, Ch h1 3, Ch h1 4, Ch h1 5⟩, Ch h2 0, Ch h2 1, Ch h2 2, Ch h2 3, Ch h2 4, Ch h2 5⟩
def KeepE {α : Type} (E : (Nat → Prop) → World → α → List Value → Prop) : Prop := ∀ (K K' : Nat → Prop) (w w' : World) (a : α) (cs : List Value), (∀ b, K b → K' b ∧ (b < w.heap.size → w'.heap[b]? = w.heap[b]?)) → E K w a cs → E K' w' a cs
structure OwnE {α : Type} (E : (Nat → Prop) → World → α → List Value → Prop) (T : TypeId) (z B : Nat) (w : World) (v : Value) (l : List α) : Prop where
 ex : ∃ vs, w.ownsRow B T z v l.length vs ∧ ∀ i (h : i < l.length), ∃ cs, E (fun b => b < w.heap.size ∧ v.ownBlock ≠ some b) w l[i] cs ∧ cs.length = z ∧ ∀ j u, cs[j]? = some u → vs[i * z + j]? = some u
theorem OwnE.nil {α : Type} {E : (Nat → Prop) → World → α → List Value → Prop} {T : TypeId} {z B : Nat} {w : World} : OwnE E T z B w (.slice none 0 0) [] :=
 ⟨[], ⟨by simp, .inl ⟨rfl, rfl⟩⟩, fun i h => absurd h (by simp)⟩
structure Gro (v : Value) (w : World) (v' : Value) (w' : World) : Prop where
 but : ButG (fun x => v.ownBlock = some x) w w'
 own : v'.ownBlock = v.ownBlock ∨ ∃ b, v'.ownBlock = some b ∧ w.heap.size ≤ b
theorem Gro.refl (v : Value) (w : World) : Gro v w v w := ⟨ButG.refl _ _, .inl rfl⟩
theorem Gro.below {v : Value} {w w' : World} (h : Below w.heap.size w w') : Gro v w v w' := ⟨ButG.of_below h, .inl rfl⟩
theorem Gro.trans {v v1 v2 : Value} {w w1 w2 : World} (h : Gro v w v1 w1) (h' : Gro v1 w1 v2 w2) : Gro v w v2 w2 := by
 have hs := h.but.size
 refine ⟨h.but.trans h'.but fun x hx => ?_, ?_⟩
 ·rcases h.own with e | ⟨c, e, hc⟩
  ·exact .inl (by rw [← e]; exact hx)
  ·rw [e] at hx
   injection hx with hx
   exact .inr (by omega)
 ·rcases h'.own with e | ⟨c, e, hc⟩
  ·rw [e]; exact h.own
  ·exact .inr ⟨c, e, by omega⟩
def Off (v : Value) (w : World) (K : Nat → Prop) : Prop := ∀ b, K b → b < w.heap.size ∧ v.ownBlock ≠ some b
theorem Gro.off {v v' : Value} {w w' : World} {K : Nat → Prop} (h : Gro v w v' w') (hk : Off v w K) : Off v' w' K := fun b hb => by
 obtain ⟨h1, h2⟩ := hk b hb
 refine ⟨Nat.lt_of_lt_of_le h1 h.but.size, ?_⟩
 rcases h.own with e | ⟨c, e, hc⟩
 ·rw [e]; exact h2
 ·rw [e]; intro e2; injection e2 with e2; omega
theorem Gro.cell {v v' : Value} {w w' : World} {b o : Nat} {u : Value} (h : Gro v w v' w') (hn : v.ownBlock ≠ some b) (hc : w.cell? ⟨b, o, none⟩ = some u) : w'.cell? ⟨b, o, none⟩ = some u := h.but.cell hn hc
theorem Gro.list {v v' : Value} {w w' : World} {K : Nat → Prop} {l : List Ty} {A : Option Addr} {c : Nat} (h : Gro v w v' w') (hk : Off v w K) (hL : ListT K w l A c) : ListT K w' l A c := by
 obtain ⟨b, o, h1, h2⟩ := hL
 refine ⟨b, o, h1, fun i hi => ?_⟩
 have hb := (h1.some (by omega)).2
 exact (h2 i hi).keep (fun _ h => h) (fun x _ _ hx hc => h.but.cell (hk x hx).2 hc) fun _ _ hc => h.but.cell (hk b hb).2 hc
theorem OwnE.lt {α : Type} {E : (Nat → Prop) → World → α → List Value → Prop} {T : TypeId} {z B : Nat} {w : World} {v : Value} {l : List α} (h : OwnE E T z B w v l) {b : Nat} (hb : v.ownBlock = some b) : B ≤ b ∧ b < w.heap.size := by
 obtain ⟨vs, h1, _⟩ := h
 exact h1.lt b hb
theorem ownsRow_keep {w w' : World} {B T z n : Nat} {v : Value} {xs : List Value} (h : w.ownsRow B T z v n xs) (hk : ∀ b, v.ownBlock = some b → w'.heap[b]? = w.heap[b]?) : w'.ownsRow B T z v n xs := by
 refine ⟨h.1, ?_⟩
 rcases h.2 with h3 | ⟨g, cap, cur, hv, hg, hh, r⟩
 ·exact .inl h3
 ·exact .inr ⟨g, cap, cur, hv, hg, by rw [hk g (by rw [hv]; rfl)]; exact hh, r⟩
theorem OwnE.later {α : Type} {E : (Nat → Prop) → World → α → List Value → Prop} (hE : KeepE E) {T : TypeId} {z B : Nat} {w w' : World} {v : Value} {l : List α} (h : OwnE E T z B w v l) (hb : Below w.heap.size w w') : OwnE E T z B w' v l := by
 have hlt := fun b (e : v.ownBlock = some b) => (h.lt e).2
 obtain ⟨vs, h1, h2⟩ := h
 refine ⟨vs, ownsRow_keep h1 fun b e => hb.block b (hlt b e), fun i hi => ?_⟩
 obtain ⟨cs, h3, h4, h5⟩ := h2 i hi
 exact ⟨cs, hE _ _ _ _ _ _ (fun b hx => ⟨⟨Nat.lt_of_lt_of_le hx.1 hb.size, hx.2⟩, fun hlt => hb.block b hlt⟩) h3, h4, h5⟩
theorem OwnE.push {α : Type} {E : (Nat → Prop) → World → α → List Value → Prop} (hE : KeepE E) {T : TypeId} {z B : Nat} {w wx w' : World} {v v' : Value} {l : List α} {a : α} {vs cs : List Value} (hown : w.ownsRow B T z v l.length vs)
  (hr : ∀ i (h : i < l.length), ∃ cs, E (fun b => b < w.heap.size ∧ v.ownBlock ≠ some b) w l[i] cs ∧ cs.length = z ∧ ∀ j u, cs[j]? = some u → vs[i * z + j]? = some u) (hb : Below w.heap.size w wx)
  (ha : E (fun b => b < wx.heap.size ∧ v.ownBlock ≠ some b) wx a cs) (hz : cs.length = z) (ho : w'.ownsRow B T z v' (l.length + 1) (vs ++ cs)) (hg : wx.grownBy w' v.ownBlock) (hob : v'.ownBlock = v.ownBlock ∨ v'.ownBlock = some wx.heap.size) :
  OwnE E T z B w' v' (l ++ [a]) ∧ Gro v w v' w' := by
 have hvl := hown.1
 have hs := hb.size
 have hkeep : ∀ b, b < wx.heap.size ∧ v.ownBlock ≠ some b → (b < w'.heap.size ∧ v'.ownBlock ≠ some b) ∧ w'.heap[b]? = wx.heap[b]? := fun b hx => by
  refine ⟨⟨Nat.lt_of_lt_of_le hx.1 hg.size, ?_⟩, hg.block b hx.1 fun e => hx.2 e.symm⟩
  rcases hob with e | e
  ·rw [e]; exact hx.2
  ·rw [e]; intro e2; injection e2 with e2; omega
 refine ⟨⟨vs ++ cs, by rw [List.length_append]; exact ho, fun i hi => ?_⟩, ⟨(ButG.of_below hb).grown hg fun k hk => .inl hk, ?_⟩⟩
 ·rw [List.length_append, List.length_singleton] at hi
  by_cases hlt : i < l.length
  ·obtain ⟨cs', h1, h2, h3⟩ := hr i hlt
   refine ⟨cs', ?_, h2, fun j u hj => ?_⟩
   ·rw [List.getElem_append_left hlt]
    refine hE _ _ _ _ _ _ (fun b hx => ?_) h1
    have h4 := hkeep b ⟨by omega, hx.2⟩
    exact ⟨h4.1, fun _ => h4.2.trans (hb.block b hx.1)⟩
   ·have h4 := h3 j u hj
    rw [List.getElem?_append_left (List.getElem?_eq_some_iff.1 h4).1]
    exact h4
  ·obtain rfl : i = l.length := by omega
   refine ⟨cs, ?_, hz, fun j u hj => ?_⟩
   ·rw [List.getElem_append_right (by omega)]
    simp only [Nat.sub_self, List.getElem_cons_zero]
    exact hE _ _ _ _ _ _ (fun b hx => ⟨(hkeep b hx).1, fun _ => (hkeep b hx).2⟩) ha
   ·rw [List.getElem?_append_right (by omega), show l.length * z + j - vs.length = j from by omega]
    exact hj
 ·rcases hob with e | e
  ·exact .inl e
  ·exact .inr ⟨_, e, hs⟩
theorem OwnE.slice {α : Type} {E : (Nat → Prop) → World → α → List Value → Prop} {T : TypeId} {z B : Nat} {w : World} {v : Value} {l : List α} (h : OwnE E T z B w v l) : ∃ A c, v = .slice A l.length c ∧ ((l = [] ∧ A = none ∧ c = 0) ∨ ∃ g, A = some ⟨g, 0, none⟩ ∧ B ≤ g ∧ g < w.heap.size) ∧ ∀ i (h : i < l.length), ∃ g cs, A = some ⟨g, 0, none⟩ ∧ E (fun b => b < w.heap.size ∧ b ≠ g) w l[i] cs ∧ cs.length = z ∧ ∀ j u, cs[j]? = some u → w.cell? ⟨g, i * z + j, none⟩ = some u := by
 obtain ⟨vs, h1, h2⟩ := h
 rcases h1.2 with ⟨hv, hn⟩ | ⟨g, cap, cur, hv, hg, hh, hle, hmax, hsz, htk⟩
 ·have hl := List.eq_nil_of_length_eq_zero hn
  subst hl
  exact ⟨none, 0, hv, .inl ⟨rfl, rfl, rfl⟩, fun i hi => absurd hi (by simp)⟩
 ·refine ⟨_, cap, hv, .inr ⟨g, rfl, hg, (Array.getElem?_eq_some_iff.1 hh).1⟩, fun i hi => ?_⟩
  obtain ⟨cs, h3, h4, h5⟩ := h2 i hi
  subst hv
  refine ⟨g, cs, rfl, ?_, h4, fun j u hj => ?_⟩
  ·have e : (fun b => b < w.heap.size ∧ (Value.slice (some ⟨g, 0, none⟩) l.length cap).ownBlock ≠ some b) = fun b => b < w.heap.size ∧ b ≠ g := by
    funext b
    simp only [Value.ownBlock, ne_eq, Option.some.injEq, eq_iff_iff, and_congr_right_iff]
    exact fun _ => ⟨fun h e => h e.symm, fun h e => h e.symm⟩
   rw [← e]; exact h3
  ·have h6 := h5 j u hj
   rw [← htk, List.getElem?_take] at h6
   split at h6
   ·rw [Ch hh]; simpa using h6
   ·cases h6
def TyE (K : Nat → Prop) (w : World) (t : Ty) (cs : List Value) : Prop := RepT K w t cs
theorem keepTy : KeepE TyE := fun K K' w w' a cs h h1 => by
 have h2 := RepT.both a cs h1
 exact RepT.keep (fun b hb => (h b hb.1).1) (fun b _ _ hb hc => (World.cell?_of_block ((h b hb.1).2 hb.2)).trans hc) _ _ h2
structure OutB (K : Nat → Prop) (w0 w : World) (B : Nat) (v : Value) (ts : List Ty) : Prop where
 ex : ∃ vs, w.ownsRow B 26 6 v ts.length vs ∧ ∀ i (h : i < ts.length), ∃ cs, RepT K w0 ts[i] cs ∧ ∀ j u, cs[j]? = some u → vs[i * 6 + j]? = some u
theorem OutB.nil (K : Nat → Prop) (w0 w : World) (B : Nat) : OutB K w0 w B (.slice none 0 0) [] := ⟨[], ⟨by simp, .inl ⟨rfl, rfl⟩⟩, fun i h => absurd h (by simp)⟩
theorem OutB.later {K : Nat → Prop} {w0 w w' : World} {B : Nat} {v : Value} {ts : List Ty} (h : OutB K w0 w B v ts) (hb : Below w.heap.size w w') : OutB K w0 w' B v ts := by
 obtain ⟨vs, h1, h2⟩ := h
 exact ⟨vs, ownsRow_keep h1 fun b e => hb.block b (h1.lt b e).2, h2⟩
theorem OutB.push {K : Nat → Prop} {w0 w' : World} {B : Nat} {v' : Value} {ts : List Ty} {t : Ty} {vs cs : List Value} (hl : vs.length = ts.length * 6) (h : ∀ i (h : i < ts.length), ∃ cs, RepT K w0 ts[i] cs ∧ ∀ j u, cs[j]? = some u → vs[i * 6 + j]? = some u)
  (ht : RepT K w0 t cs) (ho : w'.ownsRow B 26 6 v' (ts.length + 1) (vs ++ cs)) : OutB K w0 w' B v' (ts ++ [t]) := by
 refine ⟨⟨vs ++ cs, by rw [List.length_append]; exact ho, fun i hi => ?_⟩⟩
 rw [List.length_append, List.length_singleton] at hi
 by_cases hlt : i < ts.length
 ·obtain ⟨cs', h1, h2⟩ := h i hlt
  refine ⟨cs', by rw [List.getElem_append_left hlt]; exact h1, fun j u hj => ?_⟩
  have h3 := h2 j u hj
  rw [List.getElem?_append_left (List.getElem?_eq_some_iff.1 h3).1]
  exact h3
 ·obtain rfl : i = ts.length := by omega
  refine ⟨cs, by rw [List.getElem_append_right (by omega)]; simpa using ht, fun j u hj => ?_⟩
  rw [List.getElem?_append_right (by omega), show ts.length * 6 + j - vs.length = j from by omega]
  exact hj
theorem OutB.list {K : Nat → Prop} {w0 w : World} {B : Nat} {v : Value} {ts : List Ty} (h : OutB K w0 w B v ts) (hlo : ∀ b, K b → b < w0.heap.size) (hb : Below w0.heap.size w0 w) (hl : ts.length ≤ 1000000000000000) : ∃ A c, v = .slice A ts.length c ∧ ListT (fun b => K b ∨ B ≤ b) w ts A c := by
 obtain ⟨vs, h1, h2⟩ := h
 rcases h1.2 with ⟨hv, hn⟩ | ⟨g, cap, cur, hv, hg, hh, hle, hmax, hsz, htk⟩
 ·have hts := List.eq_nil_of_length_eq_zero hn
  subst hts
  exact ⟨none, 0, hv, ⟨0, 0, ⟨by simp, by simp, fun _ => rfl, fun h => absurd h (by simp)⟩, fun i h => absurd h (by simp)⟩⟩
 ·refine ⟨_, cap, hv, ⟨g, 0, ⟨hle, hl, (fun h => by cases h), fun _ => ⟨rfl, .inr hg⟩⟩, fun i hi => ?_⟩⟩
  obtain ⟨cs, h4, h5⟩ := h2 i hi
  refine ⟨cs, fun j u hj => ?_, RepT.keep (fun _ h => .inl h) (fun b o v hk hc => (World.cell?_of_block (hb.block b (hlo b hk))).trans hc) _ _ h4⟩
  have h6 := h5 j u hj
  rw [← htk, List.getElem?_take] at h6
  split at h6
  ·rw [Nat.zero_add, Ch hh]; simpa using h6
  ·cases h6
theorem OwnE.spread {α : Type} {E : (Nat → Prop) → World → α → List Value → Prop} {T : TypeId} {z B : Nat} {w : World} {v : Value} {l : List α} (h : OwnE E T z B w v l) : ∃ A c g o, v = .slice A l.length c ∧ (0 < l.length → A = some ⟨g, o, none⟩ ∧ B ≤ g ∧ g < w.heap.size) ∧ ∀ i (h : i < l.length), ∃ cs, E (fun b => b < w.heap.size ∧ b ≠ g) w l[i] cs ∧ cs.length = z ∧ ∀ j u, cs[j]? = some u → w.cell? ⟨g, o + i * z + j, none⟩ = some u := by
 obtain ⟨A, c, hv, hA, hat⟩ := h.slice
 rcases hA with ⟨hl, -, -⟩ | ⟨g, hg, hB, hlt⟩
 ·subst hl
  exact ⟨A, c, 0, 0, hv, fun h => absurd h (by simp), fun i h => absurd h (by simp)⟩
 ·refine ⟨A, c, g, 0, hv, fun _ => ⟨hg, hB, hlt⟩, fun i hi => ?_⟩
  obtain ⟨g', cs, h1, h2, h3, h4⟩ := hat i hi
  rw [hg] at h1
  injection h1 with h1
  injection h1 with h1
  subst h1
  exact ⟨cs, h2, h3, fun j u hj => by rw [Nat.zero_add]; exact h4 j u hj⟩
theorem OwnE.base {α : Type} {E : (Nat → Prop) → World → α → List Value → Prop} {T : TypeId} {z B B' : Nat} {w : World} {v : Value} {l : List α} (h : OwnE E T z B w v l) (hB : B' ≤ B) : OwnE E T z B' w v l := by
 obtain ⟨vs, h1, h2⟩ := h
 refine ⟨vs, ⟨h1.1, ?_⟩, h2⟩
 rcases h1.2 with h3 | ⟨g, cap, cur, hv, hg, r⟩
 ·exact .inl h3
 ·exact .inr ⟨g, cap, cur, hv, Nat.le_trans hB hg, r⟩
theorem ornull_any (hU : UnionP) {K : Nat → Prop} {w : World} {l : List Ty} {A : Option Addr} {c : Nat} (hL : ListT K w l A c) (hlo : ∀ b, K b → b < w.heap.size) (hn : (flatU (tyK 4 :: l)).length ≤ 1099511627776) (hl : 1 + l.length ≤ 1099511627776) :
  Calls Tryz.prog 36 #[.slice A l.length c] w (TyPost K w (unionT (tyK 4 :: l))) := by
 obtain ⟨w1, hw1⟩ : ∃ x, x = w.alloc (.cells #[.int .i64 0, .string ⟨#[]⟩, .int .i64 0, .slice none 0 0, .slice none 0 0, .slice none 0 0] 26) := ⟨_, rfl⟩
 have hb1 : Below w.heap.size w w1 := by rw [hw1]; exact (Below.refl _ _).alloc (Nat.le_refl _) _
 have hs1 : w1.heap.size = w.heap.size + 1 := by rw [hw1]; simp
 have hx1 : w1.heap[w.heap.size]? = some (.cells #[.int .i64 0, .string ⟨#[]⟩, .int .i64 0, .slice none 0 0, .slice none 0 0, .slice none 0 0] 26 (0, 0)) := by rw [hw1]; exact heap_alloc_new w _
 have HL := Hd (hL.later hb1)
 have HLO := Hd hlo
 have HN := Hd hn
 have HS := Hd hl
 have HB1 := Hd hb1
 have HS1 := Hd hs1
 have HX1 := Hd hx1
 have HU := Hd hU
 obtain ⟨w2, hw2⟩ : ∃ x, x = w1.alloc (.cells #[.int .i64 4, .string ⟨#[]⟩, .int .i64 0, .slice none 0 0, .slice none 0 0, .slice none 0 0] 26) := ⟨_, rfl⟩
 have HO2 : Hid (OutT K w1 w2 (.slice (some ⟨w.heap.size + 1, 0, none⟩) 1 1) [tyK 4] ∧ Below w1.heap.size w1 w2) := Hd (by
  rw [← hs1, hw2]
  exact ⟨OutT.lit (rep_k K w1 4) (Nat.le_refl _) (heap_alloc_new w1 _), (Below.refl _ _).alloc (Nat.le_refl _) _⟩)
 generalize hu : unionT (tyK 4 :: l) = u
 obtain ⟨k2, s2, n2, ps2, fs2, vs2⟩ := u
 have HUE := Hd hu
 unfold TyPost
 have HW1 := Hd hw1
 have HW2 := Hd hw2
 clear hL hlo hn hl hb1 hs1 hx1 hU hw1 hw2 hu
 go_enter Tryz.func36, Tryz.ntmps36
 go_wp2_with (at_builtin; refine wpList_plain rfl fun Kx hK => ?_; rw [← HW1.out, ← HW2.out]; go_loud (refine wp_append_many (w0 := w1) (ts := [tyK 4]) (l := l) _ _ rfl (by rfl) (by rfl) HO2.out.1 HL.out HO2.out.2 (by simpa using HS.out) ?_))
 intro v3 w3 ho3 hb3 _
 refine hK _ _ ?_
 have KU := Hd (union_own HU.out ho3 (fun b h => by have := HLO.out b h; have := HS1.out; omega) hb3 HN.out (by have := HS.out; simp only [List.length_cons]; omega))
 have HB3 := Hd hb3
 clear hK Kx HW1 HW2 HO2 ho3 hb3
 go_wp2_with fail
 refine KU.out.mono ?_
 rintro e w4 ⟨rs, rfl, hr, hb4⟩
 have HB4 := Hd (HB3.out.trans (hb4.mono HB3.out.size))
 have HBE := Hd (HB1.out.trans (HB4.out.mono HB1.out.size))
 have rb := (HB4.out.block w.heap.size (by have := HS1.out; omega)).trans HX1.out
 have hr' : RepT (fun b => K b ∨ w.heap.size < b) w4 (unionT (tyK 4 :: l)) rs := hr.weak fun b h => h.imp id fun h => by have := HS1.out; omega
 clear hr hb4 KU
 rw [HUE.out] at hr'
 obtain ⟨Aq, cq, Ag, cg, Ah, ch, rfl, -⟩ := hr'.inv
 have HR := Hd hr'
 simp only [cells6T] at HR ⊢
 clear hr'
 obtain ⟨q0, q1, q2, q3, q4, q5, z0, z1, z2, z3, z4, z5⟩ := qz6 rb
 have RBX := Hd rb
 clear rb
 go_wp2_with fail
 have rs := six_set RBX.out (.int .i64 k2) (.string s2) (.int .i64 n2) (.slice Aq ps2.length cq) (.slice Ag fs2.length cg) (.slice Ah vs2.length ch)
 obtain ⟨r0, r1, r2, r3, r4, r5⟩ := cz6 rs
 clear q0 q1 q2 q3 q4 q5 z0 z1 z2 z3 z4 z5 RBX rs
 refine bodyPost_ret (v := .agg #[.int .i64 k2, .string s2, .int .i64 n2, .slice Aq ps2.length cq, .slice Ag fs2.length cg, .slice Ah vs2.length ch]) (by simp [results, Tryz.results36, go_sem, r0, r1, r2, r3, r4, r5]) rfl ?_
 clear r0 r1 r2 r3 r4 r5
 exact ⟨[.int .i64 k2, .string s2, .int .i64 n2, .slice Aq ps2.length cq, .slice Ag fs2.length cg, .slice Ah vs2.length ch], rfl, ret_box HR.out HLO.out (Nat.le_refl _) _ _ _ _ _ _, set_six_below HBE.out (Nat.le_refl _) _ _ _ _ _ _⟩
theorem eight_set {W : World} {b : Nat} {T : TypeId} {x0 x1 x2 x3 x4 x5 x6 x7 : Value} (h : W.heap[b]? = some (.cells #[x0, x1, x2, x3, x4, x5, x6, x7] T (0, 0))) (y0 y1 y2 y3 y4 y5 y6 y7 : Value) :
  ((((((((W.setCell ⟨b, 0, none⟩ (y0)).setCell ⟨b, 1, none⟩ (y1)).setCell ⟨b, 2, none⟩ (y2)).setCell ⟨b, 3, none⟩ (y3)).setCell ⟨b, 4, none⟩ (y4)).setCell ⟨b, 5, none⟩ (y5)).setCell ⟨b, 6, none⟩ (y6)).setCell ⟨b, 7, none⟩ (y7)).heap[b]? = some (.cells #[y0, y1, y2, y3, y4, y5, y6, y7] T (0, 0)) := by
 have h0 := Go.heap_setCell_same W b 0 _ _ y0 h
 have h1 := Go.heap_setCell_same _ b 1 _ _ y1 h0
 have h2 := Go.heap_setCell_same _ b 2 _ _ y2 h1
 have h3 := Go.heap_setCell_same _ b 3 _ _ y3 h2
 have h4 := Go.heap_setCell_same _ b 4 _ _ y4 h3
 have h5 := Go.heap_setCell_same _ b 5 _ _ y5 h4
 have h6 := Go.heap_setCell_same _ b 6 _ _ y6 h5
 exact Go.heap_setCell_same _ b 7 _ _ y7 h6
theorem set_eight_below {B b : Nat} {a W : World} (h : Below B a W) (hb : B ≤ b) (y0 y1 y2 y3 y4 y5 y6 y7 : Value) : Below B a ((((((((W.setCell ⟨b, 0, none⟩ (y0)).setCell ⟨b, 1, none⟩ (y1)).setCell ⟨b, 2, none⟩ (y2)).setCell ⟨b, 3, none⟩ (y3)).setCell ⟨b, 4, none⟩ (y4)).setCell ⟨b, 5, none⟩ (y5)).setCell ⟨b, 6, none⟩ (y6)).setCell ⟨b, 7, none⟩ (y7)) :=
 (((((((h.setCell hb y0).setCell hb y1).setCell hb y2).setCell hb y3).setCell hb y4).setCell hb y5).setCell hb y6).setCell hb y7
def FindPost (K : Nat → Prop) (w : World) (fd : Option (ByteArray × Int × Ty)) : Ending → World → Prop := fun e w' =>
 (match fd with
  | none => e = .returned (.tuple #[.agg #[.string ⟨#[]⟩, .int .i64 0, .int .i64 0, .string ⟨#[]⟩, .int .i64 0, .slice none 0 0, .slice none 0 0, .slice none 0 0], .bool false])
  | some f => ∃ ds, e = .returned (.tuple #[.agg (.string f.1 :: .int .i64 f.2.1 :: ds).toArray, .bool true]) ∧ RepT K w f.2.2 ds) ∧ Below w.heap.size w w'
theorem find_none {l : FsT} {s : ByteArray} (h : ∀ j (hj : j < l.length), l[j].1 ≠ s) : l.find? (fun f => decide (f.1 = s)) = none := by
 rw [List.find?_eq_none]
 intro x hx
 obtain ⟨j, hj, rfl⟩ := List.getElem_of_mem hx
 simpa using h j hj
theorem find_at {l : FsT} {s : ByteArray} {i : Nat} (hi : i < l.length) (he : l[i].1 = s) (h : ∀ j (hj : j < l.length), j < i → l[j].1 ≠ s) : l.find? (fun f => decide (f.1 = s)) = some l[i] := by
 rw [List.find?_eq_some_iff_getElem]
 exact ⟨by simpa using he, i, hi, rfl, fun j hj => by simpa using h j (by omega) hj⟩
theorem bytesEq (a b : ByteArray) : (a.toList == b.toList) = decide (a = b) := by
 rw [Bool.eq_iff_iff, beq_iff_eq, decide_eq_true_eq, ByteArray.toList_eq, ByteArray.toList_eq]
 exact ⟨bytes_ext, fun h => by rw [h]⟩
theorem fieldof_any {K : Nat → Prop} {w : World} {t : Ty} {cs : List Value} (hr : RepT K w t cs) (name : ByteArray) :
  Calls Tryz.prog 67 #[.agg cs.toArray, .string name] w (FindPost K w (t.fs.find? fun f => decide (f.1 = name))) := by
 obtain ⟨k, s, n, ps, fs, vs⟩ := t
 obtain ⟨A, c, A', c', A'', c'', rfl, -, -, hF, -⟩ := hr.inv
 simp only [cells6T] at hr ⊢
 obtain ⟨w1, hw1⟩ : ∃ x, x = (w.alloc (.cells #[.int .i64 k, .string s, .int .i64 n, .slice A ps.length c, .slice A' fs.length c', .slice A'' vs.length c''] 26)).alloc (.cells #[.string ⟨#[]⟩, .int .i64 0, .int .i64 0, .string ⟨#[]⟩, .int .i64 0, .slice none 0 0, .slice none 0 0, .slice none 0 0] 37) := ⟨_, rfl⟩
 obtain ⟨g, hg⟩ : ∃ g, g = w.heap.size + 1 := ⟨_, rfl⟩
 have hb1 : Below w.heap.size w w1 := by rw [hw1]; exact ((Below.refl _ _).alloc (Nat.le_refl _) _).alloc (by simp) _
 have hs1 : w1.heap.size = w.heap.size + 2 := by rw [hw1]; simp
 have hx0 : w1.heap[w.heap.size]? = some (.cells #[.int .i64 k, .string s, .int .i64 n, .slice A ps.length c, .slice A' fs.length c', .slice A'' vs.length c''] 26 (0, 0)) := by rw [hw1, Below.heap_alloc _ _ _ (by simp)]; exact heap_alloc_new w _
 have hx1 : w1.heap[g]? = some (.cells #[.string ⟨#[]⟩, .int .i64 0, .int .i64 0, .string ⟨#[]⟩, .int .i64 0, .slice none 0 0, .slice none 0 0, .slice none 0 0] 37 (0, 0)) := by
  rw [hw1, hg]
  have h := heap_alloc_new (w.alloc (.cells #[.int .i64 k, .string s, .int .i64 n, .slice A ps.length c, .slice A' fs.length c', .slice A'' vs.length c''] 26)) (.cells #[.string ⟨#[]⟩, .int .i64 0, .int .i64 0, .string ⟨#[]⟩, .int .i64 0, .slice none 0 0, .slice none 0 0, .slice none 0 0] 37)
  rw [World.size_alloc] at h
  exact h
 have HB1 := Hd hb1
 have HS1 := Hd hs1
 have HX0 := Hd hx0
 have HX1 := Hd hx1
 have HW1 := Hd hw1
 have HG := Hd hg
 have HF := Hd hF
 have hlf := hF.shortF
 have e0 : Ty.fs (.mk k s n ps fs vs) = fs := rfl
 rw [e0]
 generalize hfd : fs.find? (fun f => decide (f.1 = name)) = fd
 have HFD := Hd hfd
 clear hr hb1 hs1 hx0 hx1 hw1 hg hF e0 hfd
 go_enter Tryz.func67, Tryz.ntmps67
 go_upto_region 1 with fail
 rw [← HW1.out, ← HG.out]
 obtain ⟨x0, x1, x2, x3, x4, x5⟩ := cz6 HX0.out
 clear x0 x1 x2 x3 x5
 go_wp2_with fail
 go_loopw [10] (fun v wr => ∃ (i : Nat), i ≤ fs.length ∧ v = .int .i64 i ∧ (∀ j (hj : j < fs.length), j < i → fs[j].1 ≠ name) ∧ Below w1.heap.size w1 wr) (fun v _ => fs.length - (intOf v).toNat)
 case atStart => exact ⟨0, by omega, rfl, fun j _ hj => absurd hj (by omega), Below.refl _ _⟩
 case round =>
  obtain ⟨i, hi, rfl, hne, hb⟩ := hrel
  have HB := Hd hb
  have HBE := Hd (HB1.out.trans (hb.mono HB1.out.size))
  have HNE := Hd hne
  clear hne
  have x4' := cell_stays hb x4
  clear x4
  by_cases hin : i < fs.length
  ·have t1 : decide ((i : Int) < (fs.length : Int)) = true := by simp; omega
   have wr2 : wrap64 ((i : Int) + 1) = ((i + 1 : Nat) : Int) := wrap_one (by omega)
   have HM := Hd (measI hin)
   obtain ⟨b, o, hA, _, hat⟩ := HF.out.at (by omega)
   subst hA
   obtain ⟨hc0, hc1, hsz, hAt⟩ := hat i hin
   have HFI : Hid (fs[i].1 = name → fd = some fs[i]) := Hd fun e => by rw [← HFD.out]; exact find_at hin e HNE.out
   have HIn : Hid (i + 1 ≤ fs.length) := Hd hin
   have HNX : Hid (fs[i].1 ≠ name → ∀ j (hj : j < fs.length), j < i + 1 → fs[j].1 ≠ name) := Hd fun e j hj hji => by
    rcases Nat.lt_or_ge j i with h1 | h1
    ·exact HNE.out j hj h1
    ·have : j = i := by omega
     subst this; exact e
   obtain ⟨ds, hds, hrep⟩ := hAt
   generalize hfi : fs[i] = f at hc0 hc1 hds hrep HFI HNX
   obtain ⟨nm, fl, t2⟩ := f
   obtain ⟨k2, s2, n2, ps2, fs2, vs2⟩ := t2
   obtain ⟨Aq, cq, Ag, cg, Ah, ch, rfl, -⟩ := hrep.inv
   have HRP := Hd hrep
   have z0 : wr.cell? ⟨b, o + i * 8, none⟩ = some (.string nm) := cell_stays HBE.out hc0
   have z1 : wr.cell? ⟨b, o + i * 8 + 1, none⟩ = some (.int .i64 fl) := cell_stays HBE.out hc1
   have z2 : wr.cell? ⟨b, o + i * 8 + 2, none⟩ = some (.int .i64 k2) := cell_stays HBE.out (hds 0 _ rfl)
   have z3 : wr.cell? ⟨b, o + i * 8 + 3, none⟩ = some (.string s2) := cell_stays HBE.out (hds 1 _ rfl)
   have z4 : wr.cell? ⟨b, o + i * 8 + 4, none⟩ = some (.int .i64 n2) := cell_stays HBE.out (hds 2 _ rfl)
   have z5 : wr.cell? ⟨b, o + i * 8 + 5, none⟩ = some (.slice Aq ps2.length cq) := cell_stays HBE.out (hds 3 _ rfl)
   have z6 : wr.cell? ⟨b, o + i * 8 + 6, none⟩ = some (.slice Ag fs2.length cg) := cell_stays HBE.out (hds 4 _ rfl)
   have z7 : wr.cell? ⟨b, o + i * 8 + 7, none⟩ = some (.slice Ah vs2.length ch) := cell_stays HBE.out (hds 5 _ rfl)
   clear hfi hi hat hc0 hc1 hds hrep hsz
   by_cases heq : nm = name
   ·have t2 : (nm.toList == name.toList) = true := by rw [bytesEq]; exact decide_eq_true heq
    have HF2 := Hd (HFI.out heq)
    have rb := box_up HB.out (by have := HG.out; have := HS1.out; omega) HX1.out
    have RBX := Hd rb
    have q0 := Ch rb 0
    have u0 := Lib.frozen_of_heap rb 0
    have q1 := Ch rb 1
    have u1 := Lib.frozen_of_heap rb 1
    have q2 := Ch rb 2
    have u2 := Lib.frozen_of_heap rb 2
    have q3 := Ch rb 3
    have u3 := Lib.frozen_of_heap rb 3
    have q4 := Ch rb 4
    have u4 := Lib.frozen_of_heap rb 4
    have q5 := Ch rb 5
    have u5 := Lib.frozen_of_heap rb 5
    have q6 := Ch rb 6
    have u6 := Lib.frozen_of_heap rb 6
    have q7 := Ch rb 7
    have u7 := Lib.frozen_of_heap rb 7
    simp only [List.getElem?_toArray, List.getElem?_cons_zero, List.getElem?_cons_succ] at q0 q1 q2 q3 q4 q5 q6 q7
    clear heq rb hb
    go_wp2_with fail
    have rs := eight_set RBX.out (.string nm) (.int .i64 fl) (.int .i64 k2) (.string s2) (.int .i64 n2) (.slice Aq ps2.length cq) (.slice Ag fs2.length cg) (.slice Ah vs2.length ch)
    obtain ⟨r0, r1, r2, r3, r4, r5, r6, r7⟩ := cz8 rs
    clear rs RBX q0 u0 z0 q1 u1 z1 q2 u2 z2 q3 u3 z3 q4 u4 z4 q5 u5 z5 q6 u6 z6 q7 u7 z7
    refine bodyPost_ret (v := .tuple #[.agg #[.string nm, .int .i64 fl, .int .i64 k2, .string s2, .int .i64 n2, .slice Aq ps2.length cq, .slice Ag fs2.length cg, .slice Ah vs2.length ch], .bool true]) (by simp [results, Tryz.results67, go_sem, r0, r1, r2, r3, r4, r5, r6, r7]) rfl ?_
    clear r0 r1 r2 r3 r4 r5 r6 r7
    rw [HF2.out]
    exact ⟨⟨[.int .i64 k2, .string s2, .int .i64 n2, .slice Aq ps2.length cq, .slice Ag fs2.length cg, .slice Ah vs2.length ch], rfl, HRP.out⟩, set_eight_below HBE.out (by have := HG.out; omega) _ _ _ _ _ _ _ _⟩
   ·have t2 : (nm.toList == name.toList) = false := by rw [bytesEq]; exact decide_eq_false heq
    have HN2 := Hd (HNX.out heq)
    clear heq hb
    go_wp2_with fail
    refine ⟨⟨i + 1, HIn.out, by first | rfl | rw [wr2], HN2.out, HB.out⟩, ?_⟩
    first | exact HM.out | (rw [wr2]; exact HM.out)
  ·have t1 : decide ((i : Int) < (fs.length : Int)) = false := by simp; omega
   have HF2 : Hid (fd = none) := Hd (by rw [← HFD.out]; exact find_none fun j hj => HNE.out j hj (by omega))
   have rb := box_up HB.out (by have := HG.out; have := HS1.out; omega) HX1.out
   have RBX := Hd rb
   have q0 := Ch rb 0
   have u0 := Lib.frozen_of_heap rb 0
   have q1 := Ch rb 1
   have u1 := Lib.frozen_of_heap rb 1
   have q2 := Ch rb 2
   have u2 := Lib.frozen_of_heap rb 2
   have q3 := Ch rb 3
   have u3 := Lib.frozen_of_heap rb 3
   have q4 := Ch rb 4
   have u4 := Lib.frozen_of_heap rb 4
   have q5 := Ch rb 5
   have u5 := Lib.frozen_of_heap rb 5
   have q6 := Ch rb 6
   have u6 := Lib.frozen_of_heap rb 6
   have q7 := Ch rb 7
   have u7 := Lib.frozen_of_heap rb 7
   simp only [List.getElem?_toArray, List.getElem?_cons_zero, List.getElem?_cons_succ] at q0 q1 q2 q3 q4 q5 q6 q7
   clear rb hi hb
   go_wp2_with fail
   have rs := eight_set RBX.out (.string ⟨#[]⟩) (.int .i64 0) (.int .i64 0) (.string ⟨#[]⟩) (.int .i64 0) (.slice none 0 0) (.slice none 0 0) (.slice none 0 0)
   obtain ⟨r0, r1, r2, r3, r4, r5, r6, r7⟩ := cz8 rs
   clear rs RBX q0 u0 q1 u1 q2 u2 q3 u3 q4 u4 q5 u5 q6 u6 q7 u7
   refine bodyPost_ret (v := .tuple #[.agg #[.string ⟨#[]⟩, .int .i64 0, .int .i64 0, .string ⟨#[]⟩, .int .i64 0, .slice none 0 0, .slice none 0 0, .slice none 0 0], .bool false]) (by simp [results, Tryz.results67, go_sem, r0, r1, r2, r3, r4, r5, r6, r7]) rfl ?_
   clear r0 r1 r2 r3 r4 r5 r6 r7
   rw [HF2.out]
   exact ⟨rfl, set_eight_below HBE.out (by have := HG.out; omega) _ _ _ _ _ _ _ _⟩
end Go.Proofs.YteakkjhcdpbidaaGreatDoor
