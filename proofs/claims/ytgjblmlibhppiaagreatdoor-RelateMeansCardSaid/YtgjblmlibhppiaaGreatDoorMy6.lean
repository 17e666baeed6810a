import Derived.Test.YtgjblmlibhppiaaGreatDoorMy5
namespace Go.Proofs.YtgjblmlibhppiaaGreatDoor
set_option maxRecDepth 100000
set_option maxHeartbeats 64000000
open Go.RowKit
def KB (w : World) (g : Nat) (h : Kinds) : Prop := w.heap[g]? = some (.cells #[.bool h.a, .bool h.u, .bool h.n, .bool h.s] 106 (0, 0))
def seeK (h : Kinds) (k : Int) : Kinds := ⟨h.a || k == 3, h.u || k == 2, h.n || k == 7, h.s || k == 8⟩
def SetAt (g : Nat) (w w' : World) : Prop := w' = w ∨ ∃ j v, w' = w.setCell ⟨g, j, none⟩ v
theorem SetAt.below {g B : Nat} {a w w' : World} (h : SetAt g w w') (hb : Below B a w) (hg : B ≤ g) : Below B a w' := by
 rcases h with rfl | ⟨j, v, rfl⟩
 ·exact hb
 ·exact hb.setCell hg _
theorem kb_cells {w : World} {g : Nat} {h : Kinds} (hk : KB w g h) : w.cell? ⟨g, 0, none⟩ = some (.bool h.a) ∧ w.cell? ⟨g, 1, none⟩ = some (.bool h.u) ∧ w.cell? ⟨g, 2, none⟩ = some (.bool h.n) ∧ w.cell? ⟨g, 3, none⟩ = some (.bool h.s) :=
 ⟨cell_of_row _ _ 0 _ _ _ hk, cell_of_row _ _ 1 _ _ _ hk, cell_of_row _ _ 2 _ _ _ hk, cell_of_row _ _ 3 _ _ _ hk⟩
theorem kb_set {w : World} {g : Nat} {h : Kinds} (hk : KB w g h) (j : Nat) (v : Value) : (w.setCell ⟨g, j, none⟩ v).heap[g]? = some (.cells (#[.bool h.a, .bool h.u, .bool h.n, .bool h.s].setIfInBounds j v) 106 (0, 0)) :=
 Go.heap_setCell_same w g j _ _ v hk
theorem kb_free {w : World} {g : Nat} {h : Kinds} (hk : KB w g h) (o : Nat) : w.frozen? ⟨g, o, none⟩ = false := Lib.frozen_of_heap hk o
theorem see_any {w : World} {g : Nat} {h : Kinds} {b o : Nat} {k : Int} (hk : KB w g h) (hc : w.cell? ⟨b, o, none⟩ = some (.int .i64 k)) :
  Calls Tryz.prog 100 #[.pointer (some ⟨g, 0, none⟩), .pointer (some ⟨b, o, none⟩)] w fun e w' => e = .returned (.tuple #[]) ∧ KB w' g (seeK h k) ∧ SetAt g w w' := by
 obtain ⟨c0, c1, c2, c3⟩ := kb_cells hk
 have f0 := kb_free hk 0
 have f1 := kb_free hk 1
 have f2 := kb_free hk 2
 have f3 := kb_free hk 3
 have HK := Hd hk
 clear hk
 by_cases h3 : k = 3
 ·subst h3
  go_enter Tryz.func100, Tryz.ntmps100
  go_wp2_with fail
  exact bodyPost_end (v := .tuple #[]) (by simp [results, Tryz.results100, go_sem]) rfl ⟨rfl, by unfold KB; rw [kb_set HK.out]; simp [seeK], .inr ⟨_, _, rfl⟩⟩
 by_cases h2 : k = 2
 ·subst h2
  go_enter Tryz.func100, Tryz.ntmps100
  go_wp2_with fail
  exact bodyPost_end (v := .tuple #[]) (by simp [results, Tryz.results100, go_sem]) rfl ⟨rfl, by unfold KB; rw [kb_set HK.out]; simp [seeK], .inr ⟨_, _, rfl⟩⟩
 by_cases h7 : k = 7
 ·subst h7
  go_enter Tryz.func100, Tryz.ntmps100
  go_wp2_with fail
  exact bodyPost_end (v := .tuple #[]) (by simp [results, Tryz.results100, go_sem]) rfl ⟨rfl, by unfold KB; rw [kb_set HK.out]; simp [seeK], .inr ⟨_, _, rfl⟩⟩
 by_cases h8 : k = 8
 ·subst h8
  go_enter Tryz.func100, Tryz.ntmps100
  go_wp2_with fail
  exact bodyPost_end (v := .tuple #[]) (by simp [results, Tryz.results100, go_sem]) rfl ⟨rfl, by unfold KB; rw [kb_set HK.out]; simp [seeK], .inr ⟨_, _, rfl⟩⟩
 have t3 : (k == 3) = false := by simpa using h3
 have t2 : (k == 2) = false := by simpa using h2
 have t7 : (k == 7) = false := by simpa using h7
 have t8 : (k == 8) = false := by simpa using h8
 have hs : seeK h k = h := by unfold seeK; rw [t3, t2, t7, t8]; simp
 have HS := Hd hs
 clear h2 h3 h7 h8 hs
 go_enter Tryz.func100, Tryz.ntmps100
 go_wp2_with fail
 exact bodyPost_end (v := .tuple #[]) (by simp [results, Tryz.results100, go_sem]) rfl ⟨rfl, by rw [HS.out]; exact HK.out, .inl rfl⟩
theorem keep_any {K : Nat → Prop} {w : World} {g : Nat} {h : Kinds} {t : Ty} {b o : Nat} (hk : KB w g h) (ht : AtT K w t b o) :
  Calls Tryz.prog 72 #[.pointer (some ⟨g, 0, none⟩), .pointer (some ⟨b, o, none⟩)] w fun e w' => e = .returned (.bool (keepT h t)) ∧ w' = w := by
 obtain ⟨c0, c1, c2, c3⟩ := kb_cells hk
 have KI := Hd (inf_any t K w b o ht)
 obtain ⟨k, s, n, ps, fs, vs⟩ := t
 obtain ⟨A, c, A2, d2, A3, d3, ⟨x0, -, -, -, -, -⟩, -⟩ := ht.six
 generalize hi : infT (.mk k s n ps fs vs) = q at KI
 have hkp : keepT h (.mk k s n ps fs vs) = if k = 1 then false else if k = 3 then true else if k = 2 ∧ h.a = false then true else if h.a = true ∨ h.u = true then q else if k = 9 then !h.n else if k = 10 then !h.s else true := by unfold keepT; rw [hi]; rfl
 rw [hkp]
 obtain ⟨ha, hu, hn, hs⟩ := h
 simp only at c0 c1 c2 c3 ⊢
 clear hk ht hi hkp
 by_cases h1 : k = 1
 ·subst h1
  go_enter Tryz.func72, Tryz.ntmps72
  go_wp2_with fail
  go_ret
  exact ⟨rfl, rfl⟩
 have t1 : (k == 1) = false := by simpa using h1
 rw [if_neg h1]
 clear h1
 by_cases h3 : k = 3
 ·subst h3
  go_enter Tryz.func72, Tryz.ntmps72
  go_wp2_with fail
  go_ret
  exact ⟨rfl, rfl⟩
 have t3 : (k == 3) = false := by simpa using h3
 rw [if_neg h3]
 clear h3
 by_cases h2 : k = 2
 ·subst h2
  cases ha with
  | false =>
   go_enter Tryz.func72, Tryz.ntmps72
   go_wp2_with fail
   go_ret
   exact ⟨rfl, rfl⟩
  | true =>
   rw [if_neg (by decide), if_pos (.inl rfl)]
   go_enter Tryz.func72, Tryz.ntmps72
   go_wp2_with fail
   refine KI.out.mono ?_
   rintro e w2 ⟨rfl, rfl⟩
   go_wp2_with fail
   go_ret
   exact ⟨rfl, rfl⟩
 have t2 : (k == 2) = false := by simpa using h2
 rw [if_neg (fun h => h2 h.1)]
 clear h2
 cases ha with
 | true =>
  rw [if_pos (by simp)]
  go_enter Tryz.func72, Tryz.ntmps72
  go_wp2_with fail
  refine KI.out.mono ?_
  rintro e w2 ⟨rfl, rfl⟩
  go_wp2_with fail
  go_ret
  exact ⟨rfl, rfl⟩
 | false =>
 cases hu with
 | true =>
  rw [if_pos (by simp)]
  go_enter Tryz.func72, Tryz.ntmps72
  go_wp2_with fail
  refine KI.out.mono ?_
  rintro e w2 ⟨rfl, rfl⟩
  go_wp2_with fail
  go_ret
  exact ⟨rfl, rfl⟩
 | false =>
 rw [if_neg (by decide)]
 by_cases h9 : k = 9
 ·subst h9
  go_enter Tryz.func72, Tryz.ntmps72
  go_wp2_with fail
  go_ret
  exact ⟨rfl, rfl⟩
 have t9 : (k == 9) = false := by simpa using h9
 rw [if_neg h9]
 clear h9
 by_cases h10 : k = 10
 ·subst h10
  go_enter Tryz.func72, Tryz.ntmps72
  go_wp2_with fail
  go_ret
  exact ⟨rfl, rfl⟩
 have t10 : (k == 10) = false := by simpa using h10
 rw [if_neg h10]
 clear h10
 go_enter Tryz.func72, Tryz.ntmps72
 go_wp2_with fail
 go_ret
 exact ⟨rfl, rfl⟩
theorem partsT {P : Program} {t : TypeId} {z : Option Value} {s b : Nat} (h : (P.info? t).map (fun i => (i.zero, i.size, i.bytes)) = some (z, s, b)) : ∃ i, P.info? t = some i ∧ i.zero = z ∧ i.size = s ∧ i.bytes = b := by
 cases hi : P.info? t with
 | none => rw [hi] at h; cases h
 | some i => rw [hi] at h; simp at h; exact ⟨i, rfl, h.1, h.2.1, h.2.2⟩
theorem infoTy : (Tryz.prog.info? 26).map (fun i => (i.zero, i.size, i.bytes)) = some (some (.agg #[.int .i64 0, .string ⟨#[]⟩, .int .i64 0, .slice none 0 0, .slice none 0 0, .slice none 0 0]), 6, 104) := by kernel_rfl
theorem sliceT {w : World} {base : Nat} {e : TypeId} {size n : Nat} {v : Value} {xs : List Value} (h : w.ownsRow base e size v n xs) : ∃ A c, v = .slice A n c ∧ (A = none → n = 0 ∧ c = 0) := by
 rcases h.2 with ⟨hv, hn⟩ | ⟨g, cap, cur, hv, _⟩
 ·exact ⟨none, 0, by rw [hv, hn], fun _ => ⟨hn, rfl⟩⟩
 ·exact ⟨_, cap, hv, fun h => by cases h⟩
theorem cellsT_new (w : World) (cs : List Value) (T : TypeId) : ∀ j u, cs[j]? = some u → (w.alloc (.cells cs.toArray T)).cell? ((⟨w.heap.size, 0, none⟩ : Addr).add j) = some u := by
 intro j u hj
 have e : ((⟨w.heap.size, 0, none⟩ : Addr).add j) = ⟨w.heap.size, j, none⟩ := by
  unfold Addr.add
  by_cases h2 : j = 0 <;> simp [h2]
 rw [e, Ch (heap_alloc_new w _)]
 simpa using hj
structure OutT (K : Nat → Prop) (w0 w : World) (v : Value) (ts : List Ty) : Prop where
 ex : ∃ vs, w.ownsRow w0.heap.size 26 6 v ts.length vs ∧ ∀ i (h : i < ts.length), ∃ cs, RepT K w0 ts[i] cs ∧ ∀ j u, cs[j]? = some u → vs[i * 6 + j]? = some u
theorem RepT.six {K : Nat → Prop} {w : World} {t : Ty} {cs : List Value} (h : RepT K w t cs) : cs.length = 6 := by
 obtain ⟨k, s, n, ps, fs, vs⟩ := t
 obtain ⟨A, c, A', c', A'', c'', rfl, _⟩ := h.inv
 rfl
theorem OutT.snoc {K : Nat → Prop} {w0 w' : World} {v' : Value} {ts : List Ty} {t : Ty} {vs cs : List Value} (hl : vs.length = ts.length * 6) (h : ∀ i (h : i < ts.length), ∃ cs, RepT K w0 ts[i] cs ∧ ∀ j u, cs[j]? = some u → vs[i * 6 + j]? = some u)
  (ht : RepT K w0 t cs) (ho : w'.ownsRow w0.heap.size 26 6 v' (ts.length + 1) (vs ++ cs)) : OutT K w0 w' v' (ts ++ [t]) := by
 refine ⟨⟨vs ++ cs, by rw [List.length_append]; exact ho, fun i hi => ?_⟩⟩
 rw [List.length_append, List.length_singleton] at hi
 by_cases hlt : i < ts.length
 ·obtain ⟨cs', h1, h2⟩ := h i hlt
  refine ⟨cs', by rw [List.getElem_append_left hlt]; exact h1, fun j u hj => ?_⟩
  have h3 := h2 j u hj
  rw [List.getElem?_append_left (List.getElem?_eq_some_iff.1 h3).1]
  exact h3
 ·obtain rfl : i = ts.length := by omega
  refine ⟨cs, by rw [List.getElem_append_right (by omega)]; simpa using ht, fun j u hj => ?_⟩
  rw [List.getElem?_append_right (by omega), show ts.length * 6 + j - vs.length = j from by omega]
  exact hj
theorem OutT.keep {K : Nat → Prop} {w0 w w' : World} {v : Value} {ts : List Ty} (h : OutT K w0 w v ts) (hk : ∀ b, v.ownBlock = some b → w'.heap[b]? = w.heap[b]?) : OutT K w0 w' v ts := by
 obtain ⟨vs, h1, h2⟩ := h
 refine ⟨vs, ⟨h1.1, ?_⟩, h2⟩
 rcases h1.2 with h3 | ⟨g, cap, cur, hv, hg, hh, r⟩
 ·exact .inl h3
 ·exact .inr ⟨g, cap, cur, hv, hg, by rw [hk g (by rw [hv]; rfl)]; exact hh, r⟩
def seeL (h : Kinds) (l : List Ty) : Kinds := l.foldl (fun h t => seeK h t.k) h
theorem seeL_app (h : Kinds) (l l' : List Ty) : seeL h (l ++ l') = seeL (seeL h l) l' := by unfold seeL; rw [List.foldl_append]
theorem flatU_take {l : List Ty} {i : Nat} (h : i < l.length) : flatU (l.take (i + 1)) = flatU (l.take i) ++ parts1 l[i] := by
 rw [List.take_succ_eq_append_getElem h, flatU_app]
 simp [flatU]
theorem flatU_split (l : List Ty) (i : Nat) : flatU l = flatU (l.take i) ++ flatU (l.drop i) := by
 rw [← flatU_app, List.take_append_drop]
open Go.RowKit Go.ChangeShapes Go.WideShapes Go.Deep
theorem weights_all {H : Type} {P : Program} {e : TypeId} {x : Nat} : ∀ {l : List (DataW H)} {d : DataW H}, d ∈ l → x ∈ d.weights P e → x ∈ DataW.weightsAll P e l := by
 intro l
 induction l with
 | nil => intro d h; cases h
 | cons a l ih =>
  intro d h hx
  unfold DataW.weightsAll
  rcases List.mem_cons.1 h with rfl | h
  ·exact List.mem_append_left _ hx
  ·exact List.mem_append_right _ (ih h hx)
theorem build_list {α : Type} {C : Nat → α → Prop} {n : Nat} (h : ∀ j, j < n → ∃ x, C j x) : ∃ l : List α, l.length = n ∧ ∀ i (hi : i < l.length), C i l[i] :=
 ⟨List.ofFn fun (i : Fin n) => (h i i.2).choose, by simp, fun i hi => by
  simp only [List.getElem_ofFn]
  exact (h i (by simpa using hi)).choose_spec⟩
theorem add_addT (a : Addr) (x y : Nat) : (a.add x).add y = a.add (x + y) := by
 unfold Addr.add
 by_cases hx : x = 0 <;> by_cases hy : y = 0 <;> simp [hx, hy, Nat.add_assoc] <;> omega
theorem add_none (b o n : Nat) : (⟨b, o, none⟩ : Addr).add n = ⟨b, o + n, none⟩ := by
 unfold Addr.add
 split
 ·rename_i h; subst h; rfl
 ·rfl
set_option maxRecDepth 100000
theorem cells26 : Tryz.prog.cellsOf 26 = 6 := by kernel_rfl
theorem cells58 : Tryz.prog.cellsOf 57 = 8 := by kernel_rfl
theorem cells60 : Tryz.prog.cellsOf 59 = 2 := by kernel_rfl
theorem bytes26 : Tryz.prog.bytesOf 26 = 104 := by kernel_rfl
theorem bytes58 : Tryz.prog.bytesOf 57 = 128 := by kernel_rfl
theorem bytes60 : Tryz.prog.bytesOf 59 = 40 := by kernel_rfl
theorem c1int : Tryz.prog.cellsOf 3 = 1 := by kernel_rfl
theorem c1int64 : Tryz.prog.cellsOf 2 = 1 := by kernel_rfl
theorem c1str : Tryz.prog.cellsOf 9 = 1 := by kernel_rfl
theorem c1sl : Tryz.prog.cellsOf 22 = 1 := by kernel_rfl
theorem c1slF : Tryz.prog.cellsOf 23 = 1 := by kernel_rfl
theorem c1slV : Tryz.prog.cellsOf 24 = 1 := by kernel_rfl
theorem reach_leT : reachBytes ≤ 1000000000000000 := by decide
def OpenP {H : Type} (enc : TypeId × Value → H) (W : World) (base : Nat) (held : Bool) (d : DataW H) : Prop := ∀ (fuel : Nat) (cs : List Value) (p : List MemPlace),
 DataW.trod enc Tryz.prog W base (fun _ => true) held fuel 26 cs = some (d, p) → (∀ x ∈ d.weights Tryz.prog 26, x ≤ reachBytes) → ∃ t, RepT (fun _ => True) W t cs
theorem row_of {ad : Addr} {W : World} {len cap n0 : Nat} (hl : len ≤ cap) (hc : cap ≤ 1000000000000000) (h0 : 0 < len → (W.cell? (ad.add n0)).isSome = true ∧ n0 = 0) : ∃ b o, RowAt (fun _ => True) (some ad) len cap b o ∧ (0 < len → ad = ⟨b, o, none⟩) := by
 rcases Nat.eq_zero_or_pos len with h | h
 ·subst h
  exact ⟨0, 0, ⟨hl, Nat.le_trans hl hc, (fun h => by cases h), fun h => absurd h (by omega)⟩, fun h => absurd h (by omega)⟩
 ·obtain ⟨h1, rfl⟩ := h0 h
  obtain ⟨v, hv⟩ := Option.isSome_iff_exists.1 h1
  have hs := World.cell?_spot hv
  obtain ⟨b, o, sp⟩ := ad
  have : sp = none := by simpa [Addr.add] using hs
  subst this
  exact ⟨b, o, ⟨hl, Nat.le_trans hl hc, (fun h => by cases h), fun _ => ⟨rfl, trivial⟩⟩, fun _ => rfl⟩
theorem open_types {H : Type} {enc : TypeId × Value → H} {W : World} {base : Nat} {held : Bool} {fuel : Nat} {v : Value} {d : DataW H} {p : List MemPlace}
  (h : DataW.trod enc Tryz.prog W base (fun _ => true) held fuel 22 [v] = some (d, p)) (hz : ∀ x ∈ d.weights Tryz.prog 22, x ≤ reachBytes) (ih : ∀ d', SizeOf.sizeOf d' < SizeOf.sizeOf d → OpenP enc W base held d') :
  ∃ (l : List Ty) (A : Option Addr) (c : Nat), v = .slice A l.length c ∧ ListT (fun _ => True) W l A c := by
 rcases open_slice Tryz.underlying22 h with ⟨e5, q5⟩ | ⟨ad, len, cap, m, nf, D, Pl, e5, hb, hl, hm, hmm, q5, hi⟩
 ·obtain rfl : v = .slice none 0 0 := by simpa using e5
  exact ⟨[], none, 0, rfl, ⟨0, 0, ⟨Nat.le_refl _, by decide, fun _ => rfl, fun h => absurd h (by simp)⟩, fun i h => absurd h (by simp)⟩⟩
 ·obtain rfl : v = .slice (some ad) len cap := by simpa using e5
  have hmc : m = cap := by rw [hmm]; simp
  subst hmc
  obtain ⟨rfl, -⟩ : d = _ ∧ p = _ := by simpa only [Prod.mk.injEq] using q5
  have hcap : m * 104 ≤ reachBytes := by
   have := hz ((len + (m - len)) * 104) (by simp [DataW.weights, Tryz.underlying22, bytes26])
   rwa [show len + (m - len) = m by omega] at this
  have hcap2 : m ≤ 1000000000000000 := by have := reach_leT; omega
  have hel : ∀ j, j < len → ∃ t, ∃ cs, RepT (fun _ => True) W t cs ∧ ∀ i, i < 6 → W.cell? ((ad.add (j * 6)).add i) = cs[i]? := fun j hj => by
   obtain ⟨cs', hcs, htr⟩ := hi j (by omega)
   rw [cells26] at hcs
   obtain ⟨_, hlen', hat⟩ := World.cells?_some hcs
   have hmem : D j ∈ (List.range len).map D := List.mem_map.2 ⟨j, List.mem_range.2 hj, rfl⟩
   obtain ⟨t, ht⟩ := ih (D j) (by
    have h1 := List.sizeOf_lt_of_mem hmem
    simp
    omega) nf cs' (Pl j) htr (fun x hx => hz x (by
    simp only [DataW.weights, Tryz.underlying22]
    exact List.mem_cons_of_mem _ (List.mem_append_left _ (weights_all hmem hx))))
   exact ⟨t, cs', ht, hat⟩
  obtain ⟨b, o, hrow, had⟩ := row_of (W := W) (ad := ad) (n0 := 0) hl hcap2 (fun h0 => by
   obtain ⟨t, cs, hr, hat⟩ := hel 0 h0
   have h6 := hr.six
   have := hat 0 (by omega)
   rw [add_addT, Nat.zero_mul, List.getElem?_eq_getElem (by omega)] at this
   exact ⟨by rw [this]; rfl, rfl⟩)
  obtain ⟨l, hll, hlp⟩ := build_list (C := fun j t => ∃ cs, RepT (fun _ => True) W t cs ∧ ∀ i, i < 6 → W.cell? ((ad.add (j * 6)).add i) = cs[i]?) hel
  subst hll
  refine ⟨l, some ad, m, rfl, ⟨b, o, hrow, fun i hi2 => ?_⟩⟩
  have ha := had (by omega)
  subst ha
  obtain ⟨cs, hr, hat⟩ := hlp i hi2
  refine ⟨cs, fun j u hj => ?_, hr⟩
  have hj6 := (List.getElem?_eq_some_iff.1 hj).1
  rw [hr.six] at hj6
  have := hat j hj6
  rw [add_addT, add_none, ← Nat.add_assoc] at this
  rw [this, hj]
theorem open_fields {H : Type} {enc : TypeId × Value → H} {W : World} {base : Nat} {held : Bool} {fuel : Nat} {v : Value} {d : DataW H} {p : List MemPlace}
  (h : DataW.trod enc Tryz.prog W base (fun _ => true) held fuel 23 [v] = some (d, p)) (hz : ∀ x ∈ d.weights Tryz.prog 23, x ≤ reachBytes) (ih : ∀ d', SizeOf.sizeOf d' < SizeOf.sizeOf d → OpenP enc W base held d') :
  ∃ (l : FsT) (A : Option Addr) (c : Nat), v = .slice A l.length c ∧ ListF (fun _ => True) W l A c := by
 rcases open_slice Tryz.underlying23 h with ⟨e5, q5⟩ | ⟨ad, len, cap, m, nf, D, Pl, e5, hb, hl, hm, hmm, q5, hi⟩
 ·obtain rfl : v = .slice none 0 0 := by simpa using e5
  exact ⟨[], none, 0, rfl, ⟨0, 0, ⟨Nat.le_refl _, by decide, fun _ => rfl, fun h => absurd h (by simp)⟩, fun i h => absurd h (by simp)⟩⟩
 ·obtain rfl : v = .slice (some ad) len cap := by simpa using e5
  have hmc : m = cap := by rw [hmm]; simp
  subst hmc
  obtain ⟨rfl, -⟩ : d = _ ∧ p = _ := by simpa only [Prod.mk.injEq] using q5
  have hcap : m * 128 ≤ reachBytes := by
   have := hz ((len + (m - len)) * 128) (by simp [DataW.weights, Tryz.underlying23, bytes58])
   rwa [show len + (m - len) = m by omega] at this
  have hcap2 : m ≤ 1000000000000000 := by have := reach_leT; omega
  have hel : ∀ j, j < len → ∃ f : ByteArray × Int × Ty, W.cell? (ad.add (j * 8)) = some (.string f.1) ∧ W.cell? (ad.add (j * 8 + 1)) = some (.int .i64 f.2.1) ∧ f.1.size ≤ 1000000000000000 ∧ ∃ cs, RepT (fun _ => True) W f.2.2 cs ∧ ∀ i, i < 6 → W.cell? (ad.add (j * 8 + 2 + i)) = cs[i]? := fun j hj => by
   obtain ⟨cs', hcs, htr⟩ := hi j (by omega)
   rw [cells58] at hcs
   obtain ⟨_, hlen', hat⟩ := World.cells?_some hcs
   have hmem : D j ∈ (List.range len).map D := List.mem_map.2 ⟨j, List.mem_range.2 hj, rfl⟩
   have hzD : ∀ x ∈ (D j).weights Tryz.prog 57, x ≤ reachBytes := fun x hx => hz x (by
    simp only [DataW.weights, Tryz.underlying23]
    exact List.mem_cons_of_mem _ (List.mem_append_left _ (weights_all hmem hx)))
   have hsz := List.sizeOf_lt_of_mem hmem
   obtain ⟨xs, n', hfu, hx, _, hxl, hf⟩ := DataW.trod_struct Tryz.underlying57 htr
   match cs', hlen' with
   | [v0, v1, v2, v3, v4, v5, v6, v7], _ =>
    match xs, hxl with
    | [y0, y1, y2], _ =>
     have h0 : DataW.trod enc Tryz.prog W base (fun _ => true) held n' 9 (([v0, v1, v2, v3, v4, v5, v6, v7].drop 0).take (Tryz.prog.cellsOf 9)) = some y0 := hf 0 _ rfl
     have h1 : DataW.trod enc Tryz.prog W base (fun _ => true) held n' 3 (([v0, v1, v2, v3, v4, v5, v6, v7].drop 1).take (Tryz.prog.cellsOf 3)) = some y1 := hf 1 _ rfl
     have h2 : DataW.trod enc Tryz.prog W base (fun _ => true) held n' 26 (([v0, v1, v2, v3, v4, v5, v6, v7].drop 2).take (Tryz.prog.cellsOf 26)) = some y2 := hf 2 _ rfl
     rw [c1str] at h0
     rw [c1int] at h1
     rw [cells26] at h2
     obtain ⟨s, e0, q0, _⟩ := DataW.trod_string Tryz.underlying9 h0
     obtain ⟨g, e1, q1, _⟩ := DataW.trod_int Tryz.underlying3 h1
     obtain rfl : v0 = .string s := by have h : [v0] = [.string s] := e0; simpa using h
     obtain rfl : v1 = .int .i64 g := by have h : [v1] = [.int .i64 g] := e1; simpa using h
     subst q0 q1
     have hDe : D j = .agg ([_, _, y2].map (·.1)) := (Prod.mk.inj hx).1
     have ht : s.size ≤ 1000000000000000 := by
      have := hzD s.data.toList.length (by rw [hDe]; simp [DataW.weights, DataW.weightsEach, Tryz.underlying57])
      have h2 : s.size = s.data.toList.length := by simp
      have := reach_leT
      omega
     obtain ⟨t, hr⟩ := ih y2.1 (by
      rw [hDe] at hsz
      simp at hsz ⊢
      omega) n' _ y2.2 h2 (fun x hx2 => hzD x (by
       rw [hDe]
       simp [DataW.weights, DataW.weightsEach, Tryz.underlying57]
       exact .inr hx2))
     have a0 := hat 0 (by decide)
     have a1 := hat 1 (by decide)
     rw [add_addT] at a0 a1
     refine ⟨(s, g, t), a0, a1, ht, _, hr, fun i hi6 => ?_⟩
     have ai := hat (2 + i) (by omega)
     rw [add_addT, ← Nat.add_assoc] at ai
     rw [ai]
     match i, hi6 with
     | 0, _ => rfl
     | 1, _ => rfl
     | 2, _ => rfl
     | 3, _ => rfl
     | 4, _ => rfl
     | 5, _ => rfl
  obtain ⟨b, o, hrow, had⟩ := row_of (W := W) (ad := ad) (n0 := 0) hl hcap2 (fun h0 => by
   obtain ⟨f, hf, _⟩ := hel 0 h0
   rw [Nat.zero_mul] at hf
   exact ⟨by rw [hf]; rfl, rfl⟩)
  obtain ⟨l, hll, hlp⟩ := build_list hel
  subst hll
  refine ⟨l, some ad, m, rfl, ⟨b, o, hrow, fun i hi2 => ?_⟩⟩
  have ha := had (by omega)
  subst ha
  obtain ⟨f0, f1, f2, cs, hr, hat⟩ := hlp i hi2
  rw [add_none] at f0 f1
  refine ⟨f0, f1, f2, cs, fun j u hj => ?_, hr⟩
  have hj6 := (List.getElem?_eq_some_iff.1 hj).1
  rw [hr.six] at hj6
  have := hat j hj6
  rw [add_none] at this
  rw [show o + i * 8 + 2 + j = o + (i * 8 + 2 + j) from by omega, this, hj]
theorem open_vars {H : Type} {enc : TypeId × Value → H} {W : World} {base : Nat} {held : Bool} {fuel : Nat} {v : Value} {d : DataW H} {p : List MemPlace}
  (h : DataW.trod enc Tryz.prog W base (fun _ => true) held fuel 24 [v] = some (d, p)) (hz : ∀ x ∈ d.weights Tryz.prog 24, x ≤ reachBytes) (ih : ∀ d', SizeOf.sizeOf d' < SizeOf.sizeOf d → OpenP enc W base held d') :
  ∃ (l : VsT) (A : Option Addr) (c : Nat), v = .slice A l.length c ∧ ListV (fun _ => True) W l A c := by
 rcases open_slice Tryz.underlying24 h with ⟨e5, q5⟩ | ⟨ad, len, cap, m, nf, D, Pl, e5, hb, hl, hm, hmm, q5, hi⟩
 ·obtain rfl : v = .slice none 0 0 := by simpa using e5
  exact ⟨[], none, 0, rfl, ⟨0, 0, ⟨Nat.le_refl _, by decide, fun _ => rfl, fun h => absurd h (by simp)⟩, fun i h => absurd h (by simp)⟩⟩
 ·obtain rfl : v = .slice (some ad) len cap := by simpa using e5
  have hmc : m = cap := by rw [hmm]; simp
  subst hmc
  obtain ⟨rfl, -⟩ : d = _ ∧ p = _ := by simpa only [Prod.mk.injEq] using q5
  have hcap : m * 40 ≤ reachBytes := by
   have := hz ((len + (m - len)) * 40) (by simp [DataW.weights, Tryz.underlying24, bytes60])
   rwa [show len + (m - len) = m by omega] at this
  have hcap2 : m ≤ 1000000000000000 := by have := reach_leT; omega
  have hel : ∀ j, j < len → ∃ f : ByteArray × List Ty, W.cell? (ad.add (j * 2)) = some (.string f.1) ∧ f.1.size ≤ 1000000000000000 ∧ ∃ B d', W.cell? (ad.add (j * 2 + 1)) = some (.slice B f.2.length d') ∧ ListT (fun _ => True) W f.2 B d' := fun j hj => by
   obtain ⟨cs', hcs, htr⟩ := hi j (by omega)
   rw [cells60] at hcs
   obtain ⟨_, hlen', hat⟩ := World.cells?_some hcs
   have hmem : D j ∈ (List.range len).map D := List.mem_map.2 ⟨j, List.mem_range.2 hj, rfl⟩
   have hzD : ∀ x ∈ (D j).weights Tryz.prog 59, x ≤ reachBytes := fun x hx => hz x (by
    simp only [DataW.weights, Tryz.underlying24]
    exact List.mem_cons_of_mem _ (List.mem_append_left _ (weights_all hmem hx)))
   have hsz := List.sizeOf_lt_of_mem hmem
   obtain ⟨xs, n', hfu, hx, _, hxl, hf⟩ := DataW.trod_struct Tryz.underlying59 htr
   match cs', hlen' with
   | [v0, v1], _ =>
    match xs, hxl with
    | [y0, y1], _ =>
     have h0 : DataW.trod enc Tryz.prog W base (fun _ => true) held n' 9 (([v0, v1].drop 0).take (Tryz.prog.cellsOf 9)) = some y0 := hf 0 _ rfl
     have h1 : DataW.trod enc Tryz.prog W base (fun _ => true) held n' 22 (([v0, v1].drop 1).take (Tryz.prog.cellsOf 22)) = some y1 := hf 1 _ rfl
     rw [c1str] at h0
     rw [c1sl] at h1
     obtain ⟨s, e0, q0, _⟩ := DataW.trod_string Tryz.underlying9 h0
     obtain rfl : v0 = .string s := by have h : [v0] = [.string s] := e0; simpa using h
     subst q0
     have hDe : D j = .agg ([_, y1].map (·.1)) := (Prod.mk.inj hx).1
     have ht : s.size ≤ 1000000000000000 := by
      have := hzD s.data.toList.length (by rw [hDe]; simp [DataW.weights, DataW.weightsEach, Tryz.underlying59])
      have h2 : s.size = s.data.toList.length := by simp
      have := reach_leT
      omega
     have h1' : DataW.trod enc Tryz.prog W base (fun _ => true) held n' 22 [v1] = some (y1.1, y1.2) := h1
     obtain ⟨l, B, d', rfl, hL⟩ := open_types h1' (fun x hx2 => hzD x (by
       rw [hDe]
       simp [DataW.weights, DataW.weightsEach, Tryz.underlying59]
       exact .inr hx2)) (fun d' hd' => ih d' (by
      rw [hDe] at hsz
      simp at hsz ⊢
      omega))
     have a0 := hat 0 (by decide)
     have a1 := hat 1 (by decide)
     rw [add_addT] at a0 a1
     exact ⟨(s, l), a0, ht, B, d', a1, hL⟩
  obtain ⟨b, o, hrow, had⟩ := row_of (W := W) (ad := ad) (n0 := 0) hl hcap2 (fun h0 => by
   obtain ⟨f, hf, _⟩ := hel 0 h0
   rw [Nat.zero_mul] at hf
   exact ⟨by rw [hf]; rfl, rfl⟩)
  obtain ⟨l, hll, hlp⟩ := build_list hel
  subst hll
  refine ⟨l, some ad, m, rfl, ⟨b, o, hrow, fun i hi2 => ?_⟩⟩
  have ha := had (by omega)
  subst ha
  obtain ⟨f0, f2, B, d', f1, hr⟩ := hlp i hi2
  rw [add_none] at f0 f1
  exact ⟨B, d', f0, f1, f2, hr⟩
theorem open_all {H : Type} {enc : TypeId × Value → H} {W : World} {base : Nat} {held : Bool} : ∀ (s : Nat) (d : DataW H), SizeOf.sizeOf d = s → OpenP enc W base held d := by
 intro s
 induction s using Nat.strongRecOn with
 | _ s ih =>
  intro d hs fuel cs p h hz
  obtain ⟨xs, n, rfl, hx, hlen, hxl, hf⟩ := DataW.trod_struct Tryz.underlying26 h
  simp only [Prod.mk.injEq] at hx
  obtain ⟨rfl, rfl⟩ := hx
  rw [cells26] at hlen
  match cs, hlen with
  | [v0, v1, v2, v3, v4, v5], _ =>
   match xs, hxl with
   | [y0, y1, y2, y3, y4, y5], _ =>
    have h0 : DataW.trod enc Tryz.prog W base (fun _ => true) held n 3 (([v0, v1, v2, v3, v4, v5].drop 0).take (Tryz.prog.cellsOf 3)) = some y0 := hf 0 _ rfl
    have h1 : DataW.trod enc Tryz.prog W base (fun _ => true) held n 9 (([v0, v1, v2, v3, v4, v5].drop 1).take (Tryz.prog.cellsOf 9)) = some y1 := hf 1 _ rfl
    have h2 : DataW.trod enc Tryz.prog W base (fun _ => true) held n 2 (([v0, v1, v2, v3, v4, v5].drop 2).take (Tryz.prog.cellsOf 2)) = some y2 := hf 2 _ rfl
    have h3 : DataW.trod enc Tryz.prog W base (fun _ => true) held n 22 (([v0, v1, v2, v3, v4, v5].drop 3).take (Tryz.prog.cellsOf 22)) = some y3 := hf 3 _ rfl
    have h4 : DataW.trod enc Tryz.prog W base (fun _ => true) held n 23 (([v0, v1, v2, v3, v4, v5].drop 4).take (Tryz.prog.cellsOf 23)) = some y4 := hf 4 _ rfl
    have h5 : DataW.trod enc Tryz.prog W base (fun _ => true) held n 24 (([v0, v1, v2, v3, v4, v5].drop 5).take (Tryz.prog.cellsOf 24)) = some y5 := hf 5 _ rfl
    rw [c1int] at h0
    rw [c1str] at h1
    rw [c1int64] at h2
    rw [c1sl] at h3
    rw [c1slF] at h4
    rw [c1slV] at h5
    obtain ⟨k, e0, q0, _⟩ := DataW.trod_int Tryz.underlying3 h0
    obtain ⟨t, e1, q1, _⟩ := DataW.trod_string Tryz.underlying9 h1
    obtain ⟨nn, e2, q2, _⟩ := DataW.trod_int Tryz.underlying2 h2
    obtain rfl : v0 = .int .i64 k := by have h : [v0] = [.int .i64 k] := e0; simpa using h
    obtain rfl : v1 = .string t := by have h : [v1] = [.string t] := e1; simpa using h
    obtain rfl : v2 = .int .i64 nn := by have h : [v2] = [.int .i64 nn] := e2; simpa using h
    subst q0 q1 q2
    have ht : t.size ≤ 1000000000000000 := by
     have := hz t.data.toList.length (by simp [DataW.weights, DataW.weightsEach, Tryz.underlying26])
     have h2 : t.size = t.data.toList.length := by simp
     have := reach_leT
     omega
    obtain ⟨l3, A3, c3, rfl, hL3⟩ := open_types (show _ = some (y3.1, y3.2) from h3) (fun x hx => hz x (by simp [DataW.weights, DataW.weightsEach, Tryz.underlying26]; exact .inr (.inl hx))) (fun d' hd' => ih (SizeOf.sizeOf d') (by rw [← hs]; simp; omega) d' rfl)
    obtain ⟨l4, A4, c4, rfl, hL4⟩ := open_fields (show _ = some (y4.1, y4.2) from h4) (fun x hx => hz x (by simp [DataW.weights, DataW.weightsEach, Tryz.underlying26]; exact .inr (.inr (.inl hx)))) (fun d' hd' => ih (SizeOf.sizeOf d') (by rw [← hs]; simp; omega) d' rfl)
    obtain ⟨l5, A5, c5, rfl, hL5⟩ := open_vars (show _ = some (y5.1, y5.2) from h5) (fun x hx => hz x (by simp [DataW.weights, DataW.weightsEach, Tryz.underlying26]; exact .inr (.inr (.inr hx)))) (fun d' hd' => ih (SizeOf.sizeOf d') (by rw [← hs]; simp; omega) d' rfl)
    exact ⟨.mk k t nn l3 l4 l5, RepT.of ht hL3 hL4 hL5⟩
theorem open_typeV {H : Type} {enc : TypeId × Value → H} {W : World} {base b0 : Nat} {held : Bool} {r : Reach} {v : Value} {d : DataW H} {p : List MemPlace} (hv : Value.okWide Tryz.prog W r b0 26 v) (h : DataW.Trod enc Tryz.prog W base (fun _ => true) held 26 v d p) (hz : ∀ x ∈ d.weights Tryz.prog 26, x ≤ reachBytes) :
  ∃ (t : Ty) (x0 : Int) (x1 : ByteArray) (x2 : Int) (x3 : Option Addr) (x4 x5 : Nat) (x6 : Option Addr) (x7 x8 : Nat) (x9 : Option Addr) (xa xb : Nat), v = .agg #[.int .i64 x0, .string x1, .int .i64 x2, .slice x3 x4 x5, .slice x6 x7 x8, .slice x9 xa xb] ∧ RepT (fun _ => True) W t [.int .i64 x0, .string x1, .int .i64 x2, .slice x3 x4 x5, .slice x6 x7 x8, .slice x9 xa xb] := by
 obtain ⟨cs, rfl, hsz⟩ := okWide_struct Tryz.underlying26 hv
 obtain ⟨l⟩ := cs
 obtain ⟨fuel, hf⟩ := h
 obtain ⟨t, ht⟩ := open_all _ d rfl fuel _ p hf hz
 obtain ⟨k, s, n, ps, fs, vs⟩ := t
 obtain ⟨A, c, A', c', A'', c'', e, _⟩ := ht.inv
 have e2 : l = cells6T k s n A ps.length c A' fs.length c' A'' vs.length c'' := by simpa [Value.cells] using e
 subst e2
 exact ⟨_, _, _, _, _, _, _, _, _, _, _, _, _, rfl, by simpa [Value.cells, cells6T] using ht⟩
structure InT (K : Nat → Prop) (w0 w : World) (g c : Nat) (ts : List Ty) : Prop where
 le : ts.length ≤ c
 mx : c ≤ maxLen
 blk : ∃ cur, w.heap[g]? = some (.cells cur 26 (0, 0)) ∧ cur.size = c * 6
 reps : ∀ (i : Nat) (t : Ty), ts[i]? = some t → ∃ cs, RepT K w0 t cs ∧ ∀ (j : Nat) (u : Value), cs[j]? = some u → w.cell? ⟨g, i * 6 + j, none⟩ = some u
theorem InT.lt {K : Nat → Prop} {w0 w : World} {g c : Nat} {ts : List Ty} (h : InT K w0 w g c ts) : g < w.heap.size := by
 obtain ⟨cur, h1, _⟩ := h.blk
 exact (Array.getElem?_eq_some_iff.1 h1).1
theorem InT.there {K : Nat → Prop} {w0 w : World} {g c : Nat} {ts : List Ty} (h : InT K w0 w g c ts) {j : Nat} (hj : j < c * 6) : (w.cell? ⟨g, j, none⟩).isSome = true ∧ w.frozen? ⟨g, j, none⟩ = false := by
 obtain ⟨cur, h1, h2⟩ := h.blk
 refine ⟨?_, Lib.frozen_of_heap h1 j⟩
 rw [cell_of_row _ _ _ _ _ _ h1, Array.getElem?_eq_getElem (by omega)]
 rfl
theorem InT.keep {K : Nat → Prop} {w0 w w' : World} {g c : Nat} {ts : List Ty} (h : InT K w0 w g c ts) (hk : w'.heap[g]? = w.heap[g]?) : InT K w0 w' g c ts :=
 ⟨h.le, h.mx, by rw [hk]; exact h.blk, fun i t hi => by
  obtain ⟨cs, h1, h2⟩ := h.reps i t hi
  exact ⟨cs, h1, fun j u hj => (World.cell?_of_block (a := ⟨g, i * 6 + j, none⟩) hk).trans (h2 j u hj)⟩⟩
theorem InT.later {K : Nat → Prop} {w0 w w' : World} {g c : Nat} {ts : List Ty} (h : InT K w0 w g c ts) (hb : Below w.heap.size w w') : InT K w0 w' g c ts := h.keep (hb.block g h.lt)
theorem InT.of_out {K : Nat → Prop} {w0 w : World} {v : Value} {ts : List Ty} (h : OutT K w0 w v ts) : (v = .slice none 0 0 ∧ ts = []) ∨ ∃ g c, v = .slice (some ⟨g, 0, none⟩) ts.length c ∧ w0.heap.size ≤ g ∧ InT K w0 w g c ts := by
 obtain ⟨vs, ⟨h1, h2⟩, h3⟩ := h
 rcases h2 with ⟨hv, hn⟩ | ⟨g, cap, cur, hv, hg, hh, hc, hm, hs, ht⟩
 ·exact .inl ⟨hv, List.eq_nil_of_length_eq_zero hn⟩
 ·refine .inr ⟨g, cap, hv, hg, hc, hm, ⟨cur, hh, hs⟩, fun i t hi => ?_⟩
  obtain ⟨hlt, rfl⟩ := List.getElem?_eq_some_iff.1 hi
  obtain ⟨cs, h4, h5⟩ := h3 i hlt
  refine ⟨cs, h4, fun j u hj => ?_⟩
  have h6 := h5 j u hj
  rw [cell_of_row _ _ _ _ _ _ hh]
  rw [← ht, List.getElem?_take] at h6
  split at h6
  ·simpa using h6
  ·cases h6
theorem row_set (g : Nat) {T : TypeId} : ∀ (vs : List Value) (o : Nat) (w : World), (∃ cur n, w.heap[g]? = some (.cells cur T (0, 0)) ∧ cur.size = n) → ∀ n, (∃ cur, w.heap[g]? = some (.cells cur T (0, 0)) ∧ cur.size = n) → ∃ cur, (w.setCells g o vs).heap[g]? = some (.cells cur T (0, 0)) ∧ cur.size = n
 | [], _, _, _, _, h => h
 | v :: vs, o, w, hx, n, ⟨cur, h1, h2⟩ => by
  have h3 := Go.heap_setCell_same w g o _ _ v h1
  exact row_set g vs (o + 1) _ ⟨_, _, h3, rfl⟩ n ⟨_, h3, by rw [Array.size_setIfInBounds]; exact h2⟩
theorem InT.put {K : Nat → Prop} {w0 w : World} {g c : Nat} {F ts : List Ty} {t : Ty} {cs : List Value} (h : InT K w0 w g c (F ++ ts.drop F.length)) (hF : F.length < ts.length) (ht : RepT K w0 t cs) :
  InT K w0 (w.setCells g (F.length * 6) cs) g c ((F ++ [t]) ++ ts.drop (F ++ [t]).length) := by
 have h6 := ht.six
 have hle := h.le
 simp only [List.length_append, List.length_drop] at hle
 have hin : ∀ j, j < cs.length → (w.cell? ⟨g, F.length * 6 + j, none⟩).isSome = true := fun j hj => (h.there (by omega)).1
 obtain ⟨cur, hc1, hc2⟩ := h.blk
 refine ⟨by simp; omega, h.mx, row_set g cs _ w ⟨_, _, hc1, rfl⟩ _ ⟨_, hc1, hc2⟩, fun i x hi => ?_⟩
 have hout : i ≠ F.length → (F ++ ts.drop F.length)[i]? = some x → ∃ cs', RepT K w0 x cs' ∧ ∀ (j : Nat) (u : Value), cs'[j]? = some u → (w.setCells g (F.length * 6) cs).cell? ⟨g, i * 6 + j, none⟩ = some u := by
  intro hne hx
  obtain ⟨cs', h1, h2⟩ := h.reps i x hx
  refine ⟨cs', h1, fun j u hj => ?_⟩
  have hj6 := (List.getElem?_eq_some_iff.1 hj).1
  rw [h1.six] at hj6
  rw [World.cell?_setCells_out g cs _ w ⟨g, i * 6 + j, none⟩ (fun _ _ => by show i * 6 + j < _ ∨ _ ≤ i * 6 + j; omega)]
  exact h2 j u hj
 rw [List.length_append, List.length_singleton] at hi
 rcases Nat.lt_trichotomy i F.length with hlt | heq | hgt
 ·refine hout (by omega) ?_
  rw [List.append_assoc, List.getElem?_append_left hlt] at hi
  rw [List.getElem?_append_left hlt]
  exact hi
 ·subst heq
  rw [List.append_assoc, List.getElem?_append_right (Nat.le_refl _), Nat.sub_self] at hi
  injection hi with hi
  subst hi
  refine ⟨cs, ht, fun j u hj => ?_⟩
  have hj6 := (List.getElem?_eq_some_iff.1 hj)
  rw [World.cell?_setCells_in g cs _ w hin j hj6.1, hj6.2]
 ·refine hout (by omega) ?_
  rw [List.getElem?_append_right (by simp; omega), List.getElem?_drop] at hi
  rw [List.getElem?_append_right (by omega), List.getElem?_drop]
  rw [← hi]
  congr 1
  simp
  omega
theorem seeL_is (h : Kinds) : ∀ l : List Ty, seeL h l = ⟨h.a || hasK 3 l, h.u || hasK 2 l, h.n || hasK 7 l, h.s || hasK 8 l⟩
 | [] => by simp [seeL, hasK]
 | t :: l => by
  show seeL (seeK h t.k) l = _
  rw [seeL_is (seeK h t.k) l]
  simp [seeK, hasK, Bool.or_assoc]
theorem seeL_kinds (l : List Ty) : seeL ⟨false, false, false, false⟩ l = kindsOf l := by
 rw [seeL_is]
 simp [kindsOf]
end Go.Proofs.YtgjblmlibhppiaaGreatDoor
