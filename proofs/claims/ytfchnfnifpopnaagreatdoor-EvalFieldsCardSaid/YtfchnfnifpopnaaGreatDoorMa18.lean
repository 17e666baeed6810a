import Derived.Test.YtfchnfnifpopnaaGreatDoorMa17
import Derived.Lib.SliceRun
namespace Go.Proofs.YtfchnfnifpopnaaGreatDoor
open Go.Shelf Go.RowKit Go.Lib Go.Sort
def TyC (K : Nat → Prop) (w0 : World) : Type := {p : Ty × List Value // RepT K w0 p.1 p.2}
instance (K : Nat → Prop) (w0 : World) : Inhabited (TyC K w0) := ⟨⟨(tyK 1, _), rep_never K w0⟩⟩
def encC {K : Nat → Prop} {w0 : World} (x : TyC K w0) : List Value := x.1.2
def cfC {K : Nat → Prop} {w0 : World} (x y : TyC K w0) : Int := ordT x.1.1 y.1.1
theorem encC_len {K : Nat → Prop} {w0 : World} (x : TyC K w0) : (encC x).length = 6 := x.2.six
theorem encC_one {K : Nat → Prop} {w0 : World} (x : TyC K w0) : ∀ v ∈ encC x, v.oneCell' = true := by
 obtain ⟨⟨⟨k, s, n, ps, fs, vs⟩, cs⟩, h⟩ := x
 obtain ⟨A, c, A', c', A'', c'', rfl, _⟩ := h.inv
 intro v hv
 simp only [encC, cells6T, List.mem_cons, List.not_mem_nil, or_false] at hv
 rcases hv with rfl | rfl | rfl | rfl | rfl | rfl <;> rfl
theorem ltC_t {K : Nat → Prop} {w0 : World} {x y : TyC K w0} : ltOf cfC x y = true ↔ ordT x.1.1 y.1.1 < 0 := by
 unfold ltOf
 exact decide_eq_true_iff
theorem ltC_f {K : Nat → Prop} {w0 : World} {x y : TyC K w0} : ltOf cfC x y = false ↔ 0 ≤ ordT x.1.1 y.1.1 := by
 unfold ltOf
 exact decide_eq_false_iff_not.trans Int.not_lt
theorem lt_trans {a b c : Ty} (h1 : ordT a b < 0) (h2 : ordT b c < 0) : ordT a c < 0 := by
 rcases ordT_bd a b with e | e | e
 ·rcases ordT_bd b c with e' | e' | e'
  ·rw [ordT_trans e e']; decide
  ·omega
  ·omega
 ·omega
 ·omega
theorem swoC (K : Nat → Prop) (w0 : World) : SWO (ltOf (cfC (K := K) (w0 := w0))) where
 irrefl x := ltC_f.2 (by rw [ordT_zero.2 rfl]; decide)
 trans x y z h1 h2 := ltC_t.2 (lt_trans (ltC_t.1 h1) (ltC_t.1 h2))
 ntrans x y z h1 h2 := ltC_f.2 (no_down (ltC_f.1 h1) (ltC_f.1 h2))
theorem cmpC {K : Nat → Prop} {w0 w : World} {g size : Nat} (hb : Below w0.heap.size w0 w) (hg : w0.heap.size ≤ g) : CmpLays Tryz.prog 54 #[] (encC (K := K) (w0 := w0)) 6 cfC g 0 size w := by
 intro m os dk _ x y
 have hk : ∀ b o v, K b → w0.cell? ⟨b, o, none⟩ = some v → (sortWorldK (encC (K := K) (w0 := w0)) 6 w g 0 m dk os).cell? ⟨b, o, none⟩ = some v := fun b o v _ hc => by
  have hlt : b < w0.heap.size := World.block_lt_of_cell? _ _ hc
  rw [cell?_sortWorldK_other _ _ _ _ _ _ _ _ ⟨b, o, none⟩ (by show b ≠ g; omega) (Nat.lt_of_lt_of_le hlt hb.size)]
  exact cell_stays hb hc
 exact Order_any (RepT.keep (fun _ h => h) hk _ _ x.2) (RepT.keep (fun _ h => h) hk _ _ y.2)
theorem heap_sort {α : Type} [Inhabited α] {enc : α → List Value} {w : World} {g m : Nat} {dk : Array α} {os : Array Obj} : (sortWorldK enc 6 w g 0 m dk os).heap = (w.heap.modify g (onCells (putCells id 0 (flatK enc 6 dk)))) ++ os := rfl
theorem blk_sort {α : Type} [Inhabited α] {enc : α → List Value} {w : World} {g m : Nat} {dk : Array α} {os : Array Obj} {cur : Array Value} {T : TypeId} (hb : w.heap[g]? = some (.cells cur T (0, 0))) : ∃ cur', (sortWorldK enc 6 w g 0 m dk os).heap[g]? = some (.cells cur' T (0, 0)) ∧ cur'.size = cur.size := by
 have hlt := (Array.getElem?_eq_some_iff.1 hb).1
 refine ⟨putCells id 0 (flatK enc 6 dk) cur, ?_, by simp [putCells]⟩
 rw [heap_sort, Array.getElem?_append_left (by simpa using hlt), Array.getElem?_modify, if_pos rfl, hb]
 rfl
theorem sort_below {α : Type} [Inhabited α] {enc : α → List Value} {w0 w : World} {g m : Nat} {dk : Array α} {os : Array Obj} (hb : RowKit.Below w0.heap.size w0 w) (hg : w0.heap.size ≤ g) : RowKit.Below w0.heap.size w0 (sortWorldK enc 6 w g 0 m dk os) := by
 have h1 := hb.size
 refine ⟨hb.os, hb.tape, hb.output, ?_, fun k hk => ?_⟩
 ·rw [heap_sort]
  simp
  omega
 ·rw [heap_sort, Array.getElem?_append_left (by simp; omega), Array.getElem?_modify, if_neg (by omega)]
  exact hb.block k hk
open Go.Shelf Go.RowKit Go.Lib Go.Sort
theorem isAggTy : ∀ w, (isAgg (sortTy_ren.t 24)).run Tryz.prog w = .ok true w := fun _ => by kernel_rfl
theorem sizeOfTy : ∀ w, (Go.sizeOf (sortTy_ren.t 24)).run Tryz.prog w = .ok 6 w := fun _ => by kernel_rfl
theorem enterTy : ∀ args w, (callFunc 54 args).run Tryz.prog w = .ok (.enter 54 args) w := enters_of Tryz.func54 (by kernel_rfl) rfl
theorem sort_any : SortP := by
 intro K w0 w g c l h hb hg hbd
 classical
 have hex : ∀ i : Fin l.length, ∃ x : TyC K w0, x.1.1 = l[i] ∧ ∀ (j : Nat) (u : Value), (encC x)[j]? = some u → w.cell? ⟨g, i.1 * 6 + j, none⟩ = some u := fun i => by
  obtain ⟨cs, h1, h2⟩ := h.reps i.1 l[i] (List.getElem?_eq_getElem i.2)
  exact ⟨⟨(l[i], cs), h1⟩, rfl, h2⟩
 obtain ⟨f, hf⟩ : ∃ f : Fin l.length → TyC K w0, ∀ i, (f i).1.1 = l[i] ∧ ∀ (j : Nat) (u : Value), (encC (f i))[j]? = some u → w.cell? ⟨g, i.1 * 6 + j, none⟩ = some u := ⟨fun i => (hex i).choose, fun i => (hex i).choose_spec⟩
 obtain ⟨d, hd⟩ : ∃ d : Array (TyC K w0), d = Array.ofFn f := ⟨_, rfl⟩
 have hds : d.size = l.length := by rw [hd]; simp
 have hdi : ∀ i (hi : i < l.length), d[i]! = f ⟨i, hi⟩ := fun i hi => by rw [getElem!_pos d i (by omega)]; simp [hd]
 have hdl : d.toList.map (fun x => x.1.1) = l := by
  refine List.ext_getElem (by simpa using hds) fun i h1 h2 => ?_
  rw [List.getElem_map, Array.getElem_toList]
  have := hdi i h2
  rw [getElem!_pos d i (by omega)] at this
  rw [this, (hf ⟨i, h2⟩).1]
  rfl
 have hH : HoldsK encC 6 w g 0 d := by
  intro t ht
  have ht' : t < d.size * 6 := by simpa using ht
  have hi : t / 6 < l.length := by omega
  have hj : t % 6 < 6 := by omega
  have hlen := encC_len (f ⟨t / 6, hi⟩)
  refine ⟨?_, (h.there (j := 0 + t) (by have := h.le; omega)).2⟩
  rw [get_flatK _ _ _ _ ht', hdi _ hi]
  have h3 := (hf ⟨t / 6, hi⟩).2 (t % 6) _ (List.getElem?_eq_getElem (by omega))
  rw [show (⟨t / 6, hi⟩ : Fin l.length).1 * 6 + t % 6 = 0 + t from by show t / 6 * 6 + t % 6 = _; omega] at h3
  rw [h3, getElem!_pos _ _ (by omega)]
  rfl
 have main := AnyQ.slices_SortFunc sortTy 6 isAggTy sizeOfTy encC encC_len encC_one cfC (swoC K w0) 54 #[] g 0 c d w enterTy (cmpC hb hg) hH h.lt (by omega)
 rw [hds] at main
 refine main.mono ?_
 rintro e w' ⟨rfl, d', n, os, hp, hs, rfl⟩
 have hsz : d'.size = l.length := hp.1.trans hds
 have hperm : d'.toList.Perm d.toList := by
  have h3 := hp.2.2
  have e1 : (d'.extract 0 l.length).toList = d'.toList := by rw [← hsz]; simp
  have e2 : (d.extract 0 l.length).toList = d.toList := by rw [← hds]; simp
  rwa [e1, e2] at h3
 refine ⟨rfl, sort_below hb hg, d'.toList.map (fun x => x.1.1), ?_, ?_, by simpa using hsz, ?_⟩
 ·refine List.pairwise_map.2 (List.pairwise_iff_getElem.2 fun i j hi hj hij => ?_)
  have hi' : i < d'.size := by simpa using hi
  have hj' : j < d'.size := by simpa using hj
  have h4 := ltC_f.1 (hs i j (Nat.zero_le _) hij (by omega))
  rw [getElem!_pos d' i hi', getElem!_pos d' j hj', ordT_flip] at h4
  simp only [Array.getElem_toList]
  omega
 ·intro x
  rw [← hdl]
  exact (hperm.map _).mem_iff
 ·have hH' := holdsK_sortWorldK (encC (K := K) (w0 := w0)) 6 w g 0 n d d' os h.lt hH (hsz.trans hds.symm)
  obtain ⟨cur, hc1, hc2⟩ := h.blk
  obtain ⟨cur', hc3, hc4⟩ := blk_sort (enc := encC (K := K) (w0 := w0)) (m := n) (dk := d') (os := os) hc1
  refine ⟨by rw [List.length_map, Array.length_toList, hsz]; exact h.le, h.mx, ⟨cur', hc3, hc4.trans hc2⟩, fun i t hi => ?_⟩
  obtain ⟨hlt, rfl⟩ := List.getElem?_eq_some_iff.1 hi
  have hlt' : i < d'.size := by simpa using hlt
  refine ⟨encC d'[i], by rw [List.getElem_map, Array.getElem_toList]; exact d'[i].2, fun j u hj => ?_⟩
  obtain ⟨hj1, hj2⟩ := List.getElem?_eq_some_iff.1 hj
  have h6 := encC_len d'[i]
  have h7 := (hH'.cell (i := i) (c := j) hlt' (by omega)).1
  rw [Nat.zero_add, getElem!_pos d' i hlt', getElem!_pos _ j hj1, hj2] at h7
  exact h7
set_option maxRecDepth 100000 in
set_option maxHeartbeats 2000000 in
theorem eqf_any {K K' : Nat → Prop} {w : World} {t t' : Ty} {cs cs' : List Value} (h : RepT K w t cs) (h' : RepT K' w t' cs') :
  Calls Tryz.prog 56 #[.agg cs.toArray, .agg cs'.toArray] w fun e w' => e = .returned (.bool (ordT t t' == 0)) ∧ Gw w w' := by
 have hb1 : Gw w (w.alloc (.cells cs.toArray 26)) := (Gw.refl w).alloc _
 have hb2 : Gw w ((w.alloc (.cells cs.toArray 26)).alloc (.cells cs'.toArray 26)) := hb1.alloc _
 have a1 : AtT K ((w.alloc (.cells cs.toArray 26)).alloc (.cells cs'.toArray 26)) t w.heap.size 0 := (AtT.box _ h).later ((Below.refl _ _).alloc (Nat.le_refl _) _)
 have a2 : AtT K' ((w.alloc (.cells cs.toArray 26)).alloc (.cells cs'.toArray 26)) t' (w.heap.size + 1) 0 := by
  have := AtT.box (w := w.alloc (.cells cs.toArray 26)) 26 (h'.later hb1.below)
  rw [World.size_alloc] at this
  exact this
 have KO := Lib.hid ((order_any t K K' t').ok _ _ _ _ _ a1 a2)
 have HB := Lib.hid hb2
 obtain ⟨k, s, n, ps, fs, vs⟩ := t
 obtain ⟨k', s', n', ps', fs', vs'⟩ := t'
 obtain ⟨A, c, A', c', A'', c'', rfl, _⟩ := h.inv
 obtain ⟨B, d, B', d', B'', d'', rfl, _⟩ := h'.inv
 clear a1 a2 hb1 hb2 h h'
 generalize ordT (.mk k s n ps fs vs) (.mk k' s' n' ps' fs' vs') = r at KO ⊢
 simp only [cells6T] at KO HB ⊢
 go_enter Tryz.func56, Tryz.ntmps56
 go_wp2_with fail
 refine KO.out.mono ?_
 rintro e w1 ⟨rfl, hb⟩
 have HB1 := Lib.hid (HB.out.trans hb)
 clear hb
 go_wp2_with fail
 go_ret
 exact ⟨rfl, HB1.out⟩
theorem comp_nil : CompN := by
 intro w
 go_enter Tryz.func55, Tryz.ntmps55
 go_wp2_with fail
 go_ret
 exact ⟨rfl, Below.refl _ _⟩
theorem comp_short {K : Nat → Prop} {w0 w : World} {g c : Nat} {s : List Ty} (h : InT K w0 w g c s) (hb : Below w0.heap.size w0 w) (hs : s.length < 2) :
  Calls Tryz.prog 55 #[.slice (some ⟨g, 0, none⟩) s.length c, .func (.func 56) #[] #[]] w fun e w' => e = .returned (.slice (some ⟨g, 0, none⟩) (dedupT s).length c) ∧ Below w0.heap.size w0 w' ∧ InT K w0 w' g c (dedupT s) := by
 have hd : dedupT s = s := by
  match s, hs with
  | [], _ => rfl
  | [_], _ => rfl
  | _ :: _ :: _, hs => exact absurd hs (by simp)
 rw [hd]
 have H := Lib.hid (And.intro h hb)
 clear h hb hd
 have t2 : decide ((s.length : Int) < 2) = true := by simp; omega
 go_enter Tryz.func55, Tryz.ntmps55
 go_wp2_with fail
 go_ret
 exact ⟨rfl, H.out.2, H.out.1⟩
theorem dedup_cons2 (a b : Ty) (l : List Ty) : dedupT (a :: b :: l) = if ordT a b = 0 then dedupT (b :: l) else a :: dedupT (b :: l) := by rw [dedupT]
theorem dedup_snoc (a b : Ty) : ∀ l : List Ty, dedupT (l ++ [a, b]) = if ordT a b = 0 then dedupT (l ++ [a]) else dedupT (l ++ [a]) ++ [b]
 | [] => by
  simp only [List.nil_append]
  rw [dedup_cons2]
  by_cases h : ordT a b = 0
  ·rw [if_pos h, if_pos h, ordT_zero.1 h]
  ·rw [if_neg h, if_neg h]; rfl
 | [x] => by
  show dedupT (x :: a :: [b]) = if ordT a b = 0 then dedupT [x, a] else dedupT [x, a] ++ [b]
  have ih := dedup_snoc a b []
  simp only [List.nil_append] at ih
  rw [dedup_cons2, ih, dedup_cons2]
  by_cases h1 : ordT a b = 0
  ·simp only [if_pos h1]
  ·simp only [if_neg h1]
   split <;> rfl
 | x :: y :: l => by
  have ih := dedup_snoc a b (y :: l)
  show dedupT (x :: y :: (l ++ [a, b])) = if ordT a b = 0 then dedupT (x :: y :: (l ++ [a])) else dedupT (x :: y :: (l ++ [a])) ++ [b]
  have ih' : dedupT (y :: (l ++ [a, b])) = if ordT a b = 0 then dedupT (y :: (l ++ [a])) else dedupT (y :: (l ++ [a])) ++ [b] := ih
  rw [dedup_cons2, ih', dedup_cons2]
  by_cases h1 : ordT a b = 0
  ·simp only [if_pos h1]
  ·simp only [if_neg h1]
   split <;> rfl
theorem dedup_take {s : List Ty} {n : Nat} (h0 : 0 < n) (h : n < s.length) : dedupT (s.take (n + 1)) = if ordT s[n - 1] s[n] = 0 then dedupT (s.take n) else dedupT (s.take n) ++ [s[n]] := by
 obtain ⟨m, rfl⟩ : ∃ m, n = m + 1 := ⟨n - 1, by omega⟩
 have e1 : s.take (m + 1) = s.take m ++ [s[m]] := List.take_succ_eq_append_getElem (by omega)
 have e2 : s.take (m + 1 + 1) = s.take m ++ [s[m], s[m + 1]] := by rw [List.take_succ_eq_append_getElem h, e1, List.append_assoc]; rfl
 rw [e2, e1, dedup_snoc]
 rfl
theorem InT.sixAt {K : Nat → Prop} {w0 w : World} {g c : Nat} {s : List Ty} (h : InT K w0 w g c s) {i : Nat} {t : Ty} (hi : s[i]? = some t) : ∃ x0 x1 x2 x3 x4 x5 x6 x7 x8 x9 xa xb, (w.cell? ⟨g, i * 6, none⟩ = some (.int .i64 x0) ∧ w.cell? ⟨g, i * 6 + 1, none⟩ = some (.string x1) ∧ w.cell? ⟨g, i * 6 + 2, none⟩ = some (.int .i64 x2) ∧ w.cell? ⟨g, i * 6 + 3, none⟩ = some (.slice x3 x4 x5) ∧ w.cell? ⟨g, i * 6 + 4, none⟩ = some (.slice x6 x7 x8) ∧ w.cell? ⟨g, i * 6 + 5, none⟩ = some (.slice x9 xa xb)) ∧ RepT K w0 t [.int .i64 x0, .string x1, .int .i64 x2, .slice x3 x4 x5, .slice x6 x7 x8, .slice x9 xa xb] := by
 obtain ⟨cs, h1, h2⟩ := h.reps i t hi
 obtain ⟨k, z, n, ps, fs, vs⟩ := t
 obtain ⟨A, c, A', c', A'', c'', rfl, _⟩ := h1.inv
 exact ⟨_, _, _, _, _, _, _, _, _, _, _, _, ⟨h2 0 _ rfl, h2 1 _ rfl, h2 2 _ rfl, h2 3 _ rfl, h2 4 _ rfl, h2 5 _ rfl⟩, h1⟩
theorem InT.six {K : Nat → Prop} {w0 w : World} {g c : Nat} {s : List Ty} (h : InT K w0 w g c s) {i : Nat} (hi : i < s.length) : ∃ x0 x1 x2 x3 x4 x5 x6 x7 x8 x9 xa xb, (w.cell? ⟨g, i * 6, none⟩ = some (.int .i64 x0) ∧ w.cell? ⟨g, i * 6 + 1, none⟩ = some (.string x1) ∧ w.cell? ⟨g, i * 6 + 2, none⟩ = some (.int .i64 x2) ∧ w.cell? ⟨g, i * 6 + 3, none⟩ = some (.slice x3 x4 x5) ∧ w.cell? ⟨g, i * 6 + 4, none⟩ = some (.slice x6 x7 x8) ∧ w.cell? ⟨g, i * 6 + 5, none⟩ = some (.slice x9 xa xb)) ∧ RepT K w0 s[i] [.int .i64 x0, .string x1, .int .i64 x2, .slice x3 x4 x5, .slice x6 x7 x8, .slice x9 xa xb] := h.sixAt (List.getElem?_eq_getElem hi)
theorem run_clear_types (w : World) (ty : TypeId) (b o n c : Nat) (hn : 0 < n)
  (hc : ∀ j, j < n * 6 → (w.cell? ⟨b, o + j, none⟩).isSome = true ∧ w.frozen? ⟨b, o + j, none⟩ = false) :
  (Builtin.clear_ #[22] ty #[.slice (some ⟨b, o, none⟩) n c]).run Tryz.prog w = .ok (.tuple #[]) (w.setCells b o (Builtin.zeroCells #[.int .i64 0, .string ⟨#[]⟩, .int .i64 0, .slice none 0 0, .slice none 0 0, .slice none 0 0] n).toList) := by
 have hlen : (Builtin.zeroCells #[.int .i64 0, .string ⟨#[]⟩, .int .i64 0, .slice none 0 0, .slice none 0 0, .slice none 0 0] n).toList.length = n * 6 := by simp [Builtin.zeroCells]
 have hst := run_storeCells_cells (P := Tryz.prog) b o (Builtin.zeroCells #[.int .i64 0, .string ⟨#[]⟩, .int .i64 0, .slice none 0 0, .slice none 0 0, .slice none 0 0] n).toList 0 w (by rw [hlen]; simpa using fun j hj => (hc j hj).1) (by rw [hlen]; simpa using fun j hj => (hc j hj).2) (by
  intro v hv
  simp only [Builtin.zeroCells, Array.toList_map, List.mem_map] at hv
  obtain ⟨i, _, rfl⟩ := hv
  have h6 : i % 6 < 6 := Nat.mod_lt _ (by decide)
  generalize hr : i % 6 = r at h6
  match r, h6 with
  | 0, _ => rfl
  | 1, _ => rfl
  | 2, _ => rfl
  | 3, _ => rfl
  | 4, _ => rfl
  | 5, _ => rfl)
 simp only [Nat.add_zero] at hst
 obtain ⟨m, rfl⟩ : ∃ m, n = m + 1 := ⟨n - 1, by omega⟩
 have hz : (Value.agg #[.int .i64 0, .string ⟨#[]⟩, .int .i64 0, .slice none 0 0, .slice none 0 0, .slice none 0 0]).cells = #[.int .i64 0, .string ⟨#[]⟩, .int .i64 0, .slice none 0 0, .slice none 0 0, .slice none 0 0] := by rfl
 simp [Builtin.clear_, run_underlying Tryz.underlying22, Tryz.zeroValue26, hz, hst]
structure CompR (K : Nat → Prop) (w0 wr : World) (g c : Nat) (s : List Ty) (m : Nat) (D : List Ty) (i : Nat) : Prop where
 le : m + 2 + i ≤ s.length
 d : D = dedupT (s.take (m + 2 + i))
 dl : D.length ≤ m + 1 + i
 row : InT K w0 wr g c (D ++ s.drop D.length)
 below : Below w0.heap.size w0 wr
theorem CompR.at {K : Nat → Prop} {w0 wr : World} {g c : Nat} {s : List Ty} {m : Nat} {D : List Ty} {i : Nat} (h : CompR K w0 wr g c s m D i) {j : Nat} (h1 : m + 1 + i ≤ j) (h2 : j < s.length) : (D ++ s.drop D.length)[j]? = some s[j] := by
 have := h.dl
 rw [List.getElem?_append_right (by omega), List.getElem?_drop, show D.length + (j - D.length) = j from by omega]
 exact List.getElem?_eq_getElem h2
theorem CompR.start {K : Nat → Prop} {w0 wr : World} {g c : Nat} {s : List Ty} {m : Nat} (hm : m + 1 < s.length) (hd : dedupT (s.take (m + 1)) = s.take (m + 1)) (he : ordT s[m] s[m + 1] = 0) (hr : InT K w0 wr g c s) (hb : Below w0.heap.size w0 wr) : CompR K w0 wr g c s m (s.take (m + 1)) 0 := by
 have hl : (s.take (m + 1)).length = m + 1 := by simp; omega
 refine ⟨by omega, ?_, by omega, by rw [hl, List.take_append_drop]; exact hr, hb⟩
 have := dedup_take (s := s) (n := m + 1) (by omega) hm
 have he' : ordT s[m + 1 - 1] s[m + 1] = 0 := he
 rw [if_pos he', hd] at this
 exact this.symm
theorem CompR.same {K : Nat → Prop} {w0 wr w' : World} {g c : Nat} {s : List Ty} {m : Nat} {D : List Ty} {i : Nat} (h : CompR K w0 wr g c s m D i) (hi : m + 2 + i < s.length) (he : ordT s[m + 1 + i] s[m + 2 + i] = 0) (hb : Below wr.heap.size wr w') : CompR K w0 w' g c s m D (i + 1) := by
 refine ⟨by omega, ?_, by have := h.dl; omega, h.row.later hb, h.below.trans (hb.mono h.below.size)⟩
 have := dedup_take (s := s) (n := m + 2 + i) (by omega) hi
 rw [if_pos (by simpa only [show m + 2 + i - 1 = m + 1 + i from by omega] using he), ← h.d] at this
 exact this.symm
theorem CompR.put {K : Nat → Prop} {w0 wr wy : World} {g c : Nat} {s : List Ty} {m : Nat} {D : List Ty} {i : Nat} {cs : List Value} (h : CompR K w0 wr g c s m D i) (hi : m + 2 + i < s.length) (hn : ordT s[m + 1 + i] s[m + 2 + i] ≠ 0) (hg : w0.heap.size ≤ g) (hb : Below wr.heap.size wr wy) (ht : RepT K w0 s[m + 2 + i] cs) : CompR K w0 (wy.setCells g (D.length * 6) cs) g c s m (D ++ [s[m + 2 + i]]) (i + 1) := by
 have hdl := h.dl
 refine ⟨by omega, ?_, by simp; omega, (h.row.later hb).put (by omega) ht, sets_below hg cs _ _ (h.below.trans (hb.mono h.below.size))⟩
 have := dedup_take (s := s) (n := m + 2 + i) (by omega) hi
 rw [if_neg (by simpa only [show m + 2 + i - 1 = m + 1 + i from by omega] using hn), ← h.d] at this
 exact this.symm
theorem CompR.fin {K : Nat → Prop} {w0 wr : World} {g c : Nat} {s : List Ty} {m : Nat} {D : List Ty} {i : Nat} (h : CompR K w0 wr g c s m D i) (hi : ¬ m + 2 + i < s.length) (hg : w0.heap.size ≤ g) (L : List Value) : D = dedupT s ∧ InT K w0 (wr.setCells g (D.length * 6) L) g c D ∧ Below w0.heap.size w0 (wr.setCells g (D.length * 6) L) := by
 have hle := h.le
 refine ⟨by rw [h.d, List.take_of_length_le (by omega)], ?_, sets_below hg L _ _ h.below⟩
 have hp := h.row.pre
 obtain ⟨cur, hc1, hc2⟩ := hp.blk
 refine ⟨hp.le, hp.mx, row_set g L _ wr ⟨_, _, hc1, rfl⟩ _ ⟨_, hc1, hc2⟩, fun a t ha => ?_⟩
 obtain ⟨cs, h1, h2⟩ := hp.reps a t ha
 have hal := (List.getElem?_eq_some_iff.1 ha).1
 refine ⟨cs, h1, fun j u hj => ?_⟩
 have hj6 := (List.getElem?_eq_some_iff.1 hj).1
 rw [h1.six] at hj6
 rw [World.cell?_setCells_out g L _ wr ⟨g, a * 6 + j, none⟩ (fun _ _ => by show a * 6 + j < _ ∨ _ ≤ a * 6 + j; omega)]
 exact h2 j u hj
theorem put_there {F : List Ty} {t : Ty} (hA : Asc F) {j : Nat} (hj : j < F.length) (h0 : ordT F[j] t = 0) : insT t F = F := by
 have e := ordT_zero.1 h0
 refine asc_unique (asc_insT t hA) hA fun x => ?_
 rw [mem_insT]
 constructor
 ·rintro (rfl | h)
  ·rw [← e]; exact List.getElem_mem hj
  ·exact h
 ·exact .inr
theorem lt_put {F : List Ty} {t : Ty} {k : Nat} (hA : Asc F) (hlt : ∀ j (h : j < F.length), j + 1 = k → ordT F[j] t = -1) {i : Nat} (hi : i < F.length) (hik : i < k) (hk : k ≤ F.length) : ordT F[i] t = -1 := by
 rcases Nat.lt_or_ge (i + 1) k with h | h
 ·have h1 := hlt (k - 1) (by omega) (by omega)
  have h2 := List.pairwise_iff_getElem.1 hA i (k - 1) hi (by omega) (by omega)
  exact ordT_trans h2 h1
 ·exact hlt i hi (by omega)
theorem put_new {F : List Ty} {t : Ty} {k : Nat} (hA : Asc F) (hk : k ≤ F.length) (hgt : ∀ j (h : j < F.length), k ≤ j → ordT F[j] t = 1) (hlt : ∀ j (h : j < F.length), j + 1 = k → ordT F[j] t = -1) : insT t F = F.take k ++ t :: F.drop k := by
 refine asc_unique (asc_insT t hA) ?_ fun x => ?_
 ·have hA2 := hA
  unfold Asc at hA2
  rw [← List.take_append_drop k F, List.pairwise_append] at hA2
  obtain ⟨h1, h2, h3⟩ := hA2
  refine List.pairwise_append.2 ⟨h1, List.pairwise_cons.2 ⟨fun b hb => ?_, h2⟩, fun a ha b hb => ?_⟩
  ·obtain ⟨j, hj, rfl⟩ := List.getElem_of_mem hb
   rw [List.getElem_drop]
   exact ordT_gt (hgt _ (by simp at hj; omega) (by omega))
  ·rcases List.mem_cons.1 hb with rfl | hb
   ·obtain ⟨j, hj, rfl⟩ := List.getElem_of_mem ha
    rw [List.getElem_take]
    exact lt_put hA hlt (by simp at hj; omega) (by simp at hj; omega) hk
   ·exact h3 a ha b hb
 ·rw [mem_insT, List.mem_append, List.mem_cons]
  constructor
  ·rintro (h | h)
   ·exact .inr (.inl h)
   ·rw [← List.take_append_drop k F] at h
    rcases List.mem_append.1 h with h | h
    ·exact .inl h
    ·exact .inr (.inr h)
  ·rintro (h | h | h)
   ·exact .inr (List.mem_of_mem_take h)
   ·exact .inl h
   ·exact .inr (List.mem_of_mem_drop h)
theorem InT.set {K : Nat → Prop} {w0 w : World} {g c : Nat} {a b : List Ty} {x t : Ty} {cs : List Value} (h : InT K w0 w g c (a ++ x :: b)) (ht : RepT K w0 t cs) : InT K w0 (w.setCells g (a.length * 6) cs) g c (a ++ t :: b) := by
 have e : (a ++ x :: b).drop a.length = x :: b := List.drop_left
 have h1 : InT K w0 w g c (a ++ (a ++ x :: b).drop a.length) := by rw [e]; exact h
 have h2 := h1.put (by simp) ht
 have e2 : (a ++ x :: b).drop (a ++ [t]).length = b := by
  rw [List.length_append, List.length_singleton, ← List.drop_drop, e]; rfl
 rw [e2, List.append_assoc] at h2
 exact h2
theorem InT.out {K : Nat → Prop} {w0 w : World} {g c : Nat} {ts : List Ty} (h : InT K w0 w g c ts) (hg : w0.heap.size ≤ g) : OutT K w0 w (.slice (some ⟨g, 0, none⟩) ts.length c) ts := by
 obtain ⟨cur, h1, h2⟩ := h.blk
 have hle := h.le
 refine ⟨cur.toList.take (ts.length * 6), ⟨by simp; omega, .inr ⟨g, c, cur, rfl, hg, h1, hle, h.mx, h2, rfl⟩⟩, fun i hi => ?_⟩
 obtain ⟨cs, h3, h4⟩ := h.reps i ts[i] (List.getElem?_eq_getElem hi)
 refine ⟨cs, h3, fun j u hj => ?_⟩
 have h5 := h4 j u hj
 have hj6 := (List.getElem?_eq_some_iff.1 hj).1
 rw [h3.six] at hj6
 rw [cell_of_row _ _ _ _ _ _ h1] at h5
 rw [List.getElem?_take, if_pos (by omega)]
 simpa using h5
end Go.Proofs.YtfchnfnifpopnaaGreatDoor
