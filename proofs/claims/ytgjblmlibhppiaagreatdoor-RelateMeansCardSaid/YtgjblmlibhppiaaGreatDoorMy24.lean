import Derived.Test.YtgjblmlibhppiaaGreatDoorMy19
namespace Go.Proofs.YtgjblmlibhppiaaGreatDoor
set_option maxRecDepth 100000
set_option maxHeartbeats 64000000
open Go.RowKit
theorem names_once {t : Ty} (h : formT t = true) (hk : t.k = 14) : ∀ g ∈ t.fs, ∀ g' ∈ t.fs, g.1 = g'.1 → g = g' := by
 have hf := form_fields h hk
 have up : ∀ (d i : Nat) (h1 : i + d + 1 < t.fs.length), (t.fs[i]'(by omega)).1.data.toList < (t.fs[i + d + 1]'h1).1.data.toList := by
  intro d
  induction d with
  | zero =>
   intro i h1
   have := fieldsB_lt hf (i := i) h1
   rw [less_iff] at this
   exact of_decide_eq_true this
  | succ d ih =>
   intro i h1
   have h2 := ih i (by omega)
   have h3 := fieldsB_lt hf (i := i + d + 1) (by omega)
   rw [less_iff] at h3
   exact List.lt_trans h2 (of_decide_eq_true h3)
 have ne : ∀ (i j : Nat) (hi : i < t.fs.length) (hj : j < t.fs.length), i < j → (t.fs[i]'hi).1 ≠ (t.fs[j]'hj).1 := fun i j hi hj hij e => by
  have h1 := up (j - i - 1) i (by omega)
  have e2 : i + (j - i - 1) + 1 = j := by omega
  simp only [e2] at h1
  rw [e] at h1
  exact List.lt_irrefl _ h1
 intro g hg g' hg' e
 obtain ⟨i, hi, rfl⟩ := List.getElem_of_mem hg
 obtain ⟨j, hj, rfl⟩ := List.getElem_of_mem hg'
 rcases Nat.lt_trichotomy i j with h | h | h
 ·exact absurd e (ne i j hi hj h)
 ·subst h; rfl
 ·exact absurd e.symm (ne j i hj hi h)
theorem func_some {t : Ty} (hf : formT t = true) (hk : t.k = 13) : 1 ≤ t.ps.length := by
 obtain ⟨k, s, n, ps, fs, vs⟩ := t
 obtain rfl : k = 13 := hk
 have h2 := form_fits hf
 rw [show shapeK 13 = ⟨false, false, false, true, 1, -1, true⟩ from rfl] at h2
 unfold fitsB at h2
 simp only [Bool.and_eq_true, Bool.or_eq_true, decide_eq_true_eq, beq_iff_eq] at h2
 show 1 ≤ ps.length
 omega
theorem field_flags {t : Ty} (hf : formT t = true) (hk : t.k = 14) : ∀ f ∈ t.fs, 0 ≤ f.2.1 ∧ f.2.1 ≤ 3 := fun f h => by
 obtain ⟨-, h1, h2, -⟩ := fieldsB_mem (form_fields hf hk) h
 exact ⟨h1, h2⟩
theorem row_7 {s t : Ty} (h : t.k = 7) : RowF s t ↔ s.k = 9 := by
 unfold RowF
 constructor
 ·rintro (⟨_, h⟩ | ⟨h, _⟩ | ⟨h, _⟩ | ⟨h, _⟩ | ⟨h, _⟩ | ⟨h, _⟩) <;> first | exact h | omega
 ·exact fun h1 => .inl ⟨h, h1⟩
theorem row_8 {s t : Ty} (h : t.k = 8) : RowF s t ↔ s.k = 10 := by
 unfold RowF
 constructor
 ·rintro (⟨h, _⟩ | ⟨_, h⟩ | ⟨h, _⟩ | ⟨h, _⟩ | ⟨h, _⟩ | ⟨h, _⟩) <;> first | exact h | omega
 ·exact fun h1 => .inr (.inl ⟨h, h1⟩)
theorem row_11 {s t q : Ty} (h : t.k = 11) (hq : t.ps[0]? = some q) : RowF s t ↔ (s.k = 11 ∨ s.k = 12) ∧ ∀ p ∈ s.ps, Fit p q := by
 unfold RowF
 constructor
 ·rintro (⟨h, _⟩ | ⟨h, _⟩ | ⟨_, h1, q', h2, h3⟩ | ⟨h, _⟩ | ⟨h, _⟩ | ⟨h, _⟩)
  ·omega
  ·omega
  ·rw [hq] at h2
   injection h2 with h2
   exact ⟨h1, h2 ▸ h3⟩
  ·omega
  ·omega
  ·omega
 ·exact fun h1 => .inr (.inr (.inl ⟨h, h1.1, q, hq, h1.2⟩))
theorem row_12 {s t : Ty} (h : t.k = 12) : RowF s t ↔ s.k = 12 ∧ s.ps.length = t.ps.length ∧ ∀ (i : Nat) (p q : Ty), s.ps[i]? = some p → t.ps[i]? = some q → Fit p q := by
 unfold RowF
 constructor
 ·rintro (⟨h, _⟩ | ⟨h, _⟩ | ⟨h, _⟩ | ⟨_, h⟩ | ⟨h, _⟩ | ⟨h, _⟩) <;> first | exact h | omega
 ·exact fun h1 => .inr (.inr (.inr (.inl ⟨h, h1⟩)))
theorem row_13 {s t : Ty} (h : t.k = 13) : RowF s t ↔ s.k = 13 ∧ FnF s t := by
 unfold RowF
 constructor
 ·rintro (⟨h, _⟩ | ⟨h, _⟩ | ⟨h, _⟩ | ⟨h, _⟩ | ⟨_, h⟩ | ⟨h, _⟩) <;> first | exact h | omega
 ·exact fun h1 => .inr (.inr (.inr (.inr (.inl ⟨h, h1⟩))))
theorem row_14 {s t : Ty} (h : t.k = 14) : RowF s t ↔ s.k = 14 ∧ ObF s t := by
 unfold RowF
 constructor
 ·rintro (⟨h, _⟩ | ⟨h, _⟩ | ⟨h, _⟩ | ⟨h, _⟩ | ⟨h, _⟩ | ⟨_, h⟩) <;> first | exact h | omega
 ·exact fun h1 => .inr (.inr (.inr (.inr (.inr ⟨h, h1⟩))))
theorem row_no {s t : Ty} (h7 : t.k ≠ 7) (h8 : t.k ≠ 8) (h11 : t.k ≠ 11) (h12 : t.k ≠ 12) (h13 : t.k ≠ 13) (h14 : t.k ≠ 14) : ¬ RowF s t := by
 unfold RowF
 rintro (⟨h, _⟩ | ⟨h, _⟩ | ⟨h, _⟩ | ⟨h, _⟩ | ⟨h, _⟩ | ⟨h, _⟩) <;> omega
def DeepT (s t : Ty) : Prop := s.ps ≠ [] ∨ t.ps ≠ [] ∨ t.fs ≠ []
def FitN (b : Nat) (fuel lo : Int) (m1 m2 : Option Nat) (asked : Value) (rows : Int) : Prop := ∀ (K K' : Nat → Prop) (w : World) (p q : Ty) (cs ds : List Value), RepT K w p cs → RepT K' w q ds → (∀ x, K x → x < w.heap.size ∧ x ≠ b) → (∀ x, K' x → x < w.heap.size ∧ x ≠ b) → GdT p → GdT q → RunI b fuel lo m1 m2 asked rows w w →
  Calls Tryz.prog 28 #[.pointer (some ⟨b, 0, none⟩), .agg cs.toArray, .agg ds.toArray] w (FitPost b fuel lo m1 m2 asked rows w True (Fit p q))
theorem FitN.at {b : Nat} {fuel lo : Int} {m1 m2 : Option Nat} {asked : Value} {rows : Int} (h : FitN b fuel lo m1 m2 asked rows) {K K' : Nat → Prop} {w : World} {p q : Ty} (hK : ∀ x, K x → x < w.heap.size ∧ x ≠ b) (hK' : ∀ x, K' x → x < w.heap.size ∧ x ≠ b) (hp : GdT p) (hq : GdT q) : FitAt b fuel lo m1 m2 asked rows w K K' p q :=
 fun wx cs ds hu hr hs => h K K' wx p q cs ds hr hs (fun x hx => ⟨Nat.lt_of_lt_of_le (hK x hx).1 hu.but.size, (hK x hx).2⟩) (fun x hx => ⟨Nat.lt_of_lt_of_le (hK' x hx).1 hu.but.size, (hK' x hx).2⟩) hp hq hu.self
theorem box_three (w : World) (b : Nat) (cs ds : List Value) : ∃ (w1 : World) (g0 g1 g2 : Nat), ((w.alloc (.cells #[.pointer (some ⟨b, 0, none⟩)] 62)).alloc (.cells cs.toArray 26)).alloc (.cells ds.toArray 26) = w1 ∧ w.heap.size = g0 ∧ g0 + 1 = g1 ∧ g1 + 1 = g2 ∧ Below w.heap.size w w1 ∧ w1.heap.size = w.heap.size + 3 ∧ w1.heap[g0]? = some (.cells #[.pointer (some ⟨b, 0, none⟩)] 62 (0, 0)) ∧ w1.heap[g1]? = some (.cells cs.toArray 26 (0, 0)) ∧ w1.heap[g2]? = some (.cells ds.toArray 26 (0, 0)) := by
 obtain ⟨w1, g1, g2, h1, h2, h3, h4, h5, h6, h7⟩ := box_two (w.alloc (.cells #[.pointer (some ⟨b, 0, none⟩)] 62)) cs ds
 rw [World.size_alloc] at h2 h5
 have hb : Below w.heap.size w (w.alloc (.cells #[.pointer (some ⟨b, 0, none⟩)] 62)) := (Below.refl _ _).alloc (Nat.le_refl _) _
 exact ⟨w1, _, g1, g2, h1, rfl, h2, h3, hb.trans (h4.mono (by rw [World.size_alloc]; omega)), by omega, box_up h4 (by rw [World.size_alloc]; omega) (heap_alloc_new w _), h6, h7⟩
theorem three_set {W : World} {g0 g1 g2 : Nat} {T0 T1 T2 : TypeId} {v0 v1 v2 : Value} (a0 : W.heap[g0]? = some (.cells #[v0] T0 (0, 0))) (a1 : W.heap[g1]? = some (.cells #[v1] T1 (0, 0))) (a2 : W.heap[g2]? = some (.cells #[v2] T2 (0, 0))) (n01 : g0 ≠ g1) (n02 : g0 ≠ g2) (n12 : g1 ≠ g2) (x0 x1 x2 y1 : Value) :
  ((((W.setCell ⟨g0, 0, none⟩ x0).setCell ⟨g1, 0, none⟩ x1).setCell ⟨g2, 0, none⟩ x2).drew.setCell ⟨g1, 0, none⟩ y1).cell? ⟨g0, 0, none⟩ = some x0 ∧ ((((W.setCell ⟨g0, 0, none⟩ x0).setCell ⟨g1, 0, none⟩ x1).setCell ⟨g2, 0, none⟩ x2).drew.setCell ⟨g1, 0, none⟩ y1).cell? ⟨g1, 0, none⟩ = some y1 ∧ ((((W.setCell ⟨g0, 0, none⟩ x0).setCell ⟨g1, 0, none⟩ x1).setCell ⟨g2, 0, none⟩ x2).drew.setCell ⟨g1, 0, none⟩ y1).cell? ⟨g2, 0, none⟩ = some x2 ∧ ButG (fun x => x = g0 ∨ x = g1 ∨ x = g2) W ((((W.setCell ⟨g0, 0, none⟩ x0).setCell ⟨g1, 0, none⟩ x1).setCell ⟨g2, 0, none⟩ x2).drew.setCell ⟨g1, 0, none⟩ y1) := by
 have hs : ∀ (w : World) (g : Nat) (v : Value), ButG (fun x => x = g) w (w.setCell ⟨g, 0, none⟩ v) := fun w g v => ⟨rfl, rfl, rfl, by simp [World.setCell], fun k _ hn => Below.heap_setCell _ _ _ _ hn⟩
 have b0 := Go.heap_setCell_same W g0 0 _ _ x0 a0
 have b1 := ((hs W g0 x0).block g1 (Array.getElem?_eq_some_iff.1 a1).1 (fun e => n01 e.symm)).trans a1
 have b2 := ((hs W g0 x0).block g2 (Array.getElem?_eq_some_iff.1 a2).1 (fun e => n02 e.symm)).trans a2
 have c0 := ((hs _ g1 x1).block g0 (Array.getElem?_eq_some_iff.1 b0).1 n01).trans b0
 have c1 := Go.heap_setCell_same _ g1 0 _ _ x1 b1
 have c2 := ((hs _ g1 x1).block g2 (Array.getElem?_eq_some_iff.1 b2).1 (fun e => n12 e.symm)).trans b2
 have d0 := ((hs _ g2 x2).block g0 (Array.getElem?_eq_some_iff.1 c0).1 n02).trans c0
 have d1 := ((hs _ g2 x2).block g1 (Array.getElem?_eq_some_iff.1 c1).1 n12).trans c1
 have d2 := Go.heap_setCell_same _ g2 0 _ _ x2 c2
 have e0 := ((hs (((W.setCell ⟨g0, 0, none⟩ x0).setCell ⟨g1, 0, none⟩ x1).setCell ⟨g2, 0, none⟩ x2).drew g1 y1).block g0 (Array.getElem?_eq_some_iff.1 d0).1 n01).trans d0
 have e1 := Go.heap_setCell_same (((W.setCell ⟨g0, 0, none⟩ x0).setCell ⟨g1, 0, none⟩ x1).setCell ⟨g2, 0, none⟩ x2).drew g1 0 _ _ y1 d1
 have e2 := ((hs (((W.setCell ⟨g0, 0, none⟩ x0).setCell ⟨g1, 0, none⟩ x1).setCell ⟨g2, 0, none⟩ x2).drew g1 y1).block g2 (Array.getElem?_eq_some_iff.1 d2).1 (fun e => n12 e.symm)).trans d2
 refine ⟨Ch e0 0, Ch e1 0, Ch e2 0, ?_⟩
 have m : ∀ {g : Nat} {a w : World}, (g = g0 ∨ g = g1 ∨ g = g2) → ButG (fun x => x = g) a w → ButG (fun x => x = g0 ∨ x = g1 ∨ x = g2) a w := fun hg h => ⟨h.os, h.tape, h.output, h.size, fun k hk hn => h.block k hk fun e => hn (e ▸ hg)⟩
 have dr := ButG.of_below (O := fun x => x = g0 ∨ x = g1 ∨ x = g2) (Below.refl (((W.setCell ⟨g0, 0, none⟩ x0).setCell ⟨g1, 0, none⟩ x1).setCell ⟨g2, 0, none⟩ x2).heap.size (((W.setCell ⟨g0, 0, none⟩ x0).setCell ⟨g1, 0, none⟩ x1).setCell ⟨g2, 0, none⟩ x2)).drew
 exact ((((m (.inl rfl) (hs W g0 x0)).trans (m (.inr (.inl rfl)) (hs _ g1 x1)) fun _ h => .inl h).trans (m (.inr (.inr rfl)) (hs _ g2 x2)) fun _ h => .inl h).trans dr fun _ h => .inl h).trans (m (.inr (.inl rfl)) (hs _ g1 y1)) fun _ h => .inl h
theorem ran_idle_b (p0 p1 p2 p3 : Addr) (w : World) :
  CallsD Tryz.prog 57 #[.pointer (some p0), .pointer (some p1), .pointer (some p2), .pointer (some p3)] .returning w fun e u' w' => e = .returned (.tuple #[]) ∧ u' = .returning ∧ Below w.heap.size w w' := by
 refine callsD_of_wpS Tryz.func57 rfl fun c₀ cs hu => ?_
 simp only [Tryz.ntmps57, List.size_toArray, List.length_cons, List.length_nil, Nat.reduceAdd, Nat.reduceSub, Array.replicate_succ, Array.replicate_zero, List.push_toArray, List.append_toArray, List.nil_append, List.cons_append]
 apply wpS_seq
 apply wpS_region
 refine OpsD.out (l := [0, 1, 2, 3, 4, 5, 6, 7]) ?_
 have hrec : recoverD (c₀ :: cs) = none := by unfold recoverD; simp only [hu]
 have hta : ∀ w : World, Sem.run Tryz.prog (Instr.typeAssert .nilIface 20 87 true) w = .ok (.tuple #[.agg #[.int .i64 0], .bool false]) w := fun w => by kernel_rfl
 refine OpsD.idle (w' := w) (sd (some 8) rfl) (by kernel_rfl) hrec ⟨by rfl⟩ ?_
 try simp only [Act.put, pz1, pz2, pz3]
 refine OpsD.val (v := .tuple #[.agg #[.int .i64 0], .bool false]) (w' := w) (sd (some 9) rfl) (by kernel_rfl) ⟨by go_simp⟩ ?_
 try simp only [Act.put, pz1, pz2, pz3]
 refine OpsD.val (v := .tuple #[.agg #[.int .i64 0], .bool false]) (w' := w) (sd (some 7) rfl) (by kernel_rfl) ⟨by go_simp⟩ ?_
 try simp only [Act.put, pz1, pz2, pz3]
 refine OpsD.val (v := .agg #[.int .i64 0]) (w' := w) (sd (some 10) rfl) (by kernel_rfl) ⟨by go_simp⟩ ?_
 try simp only [Act.put, pz1, pz2, pz3]
 refine OpsD.val (v := .bool false) (w' := w) (sd (some 11) rfl) (by kernel_rfl) ⟨by go_simp⟩ ?_
 try simp only [Act.put, pz1, pz2, pz3]
 refine OpsD.val (v := .pointer (some ⟨w.heap.size, 0, none⟩)) (w' := (w.alloc (.cells #[.int .i64 0] 87))) (sd (some 4) rfl) (by kernel_rfl) ⟨by go_simp⟩ ?_
 try simp only [Act.put, pz1, pz2, pz3]
 refine OpsD.skip (w' := ((w.alloc (.cells #[.int .i64 0] 87)).setCell ⟨w.heap.size, 0, none⟩ (.int .i64 0))) (sd none rfl) (by kernel_rfl) ⟨by go_simp⟩ ?_
 try simp only [Act.put, pz1, pz2, pz3]
 refine OpsD.val (v := .bool false) (w' := ((w.alloc (.cells #[.int .i64 0] 87)).setCell ⟨w.heap.size, 0, none⟩ (.int .i64 0))) (sd (some 5) rfl) (by kernel_rfl) ⟨by go_simp⟩ ?_
 try simp only [Act.put, pz1, pz2, pz3]
 refine OpsD.nil ?_
 simp only [Exit.thenS]
 refine wpS_of_wp ?_
 clear hta hrec
 go_wp2_with fail
 cases c₀
 simp only at hu
 subst hu
 exact ⟨rfl, .returning, rfl, .tuple #[], results_none rfl _ _ _, rfl, rfl, (Below.refl _ _).alloc (Nat.le_refl _) _⟩
theorem ran_catch_b {w : World} {g0 g1 g2 g3 : Nat} {fuel : Int} {v0 v1 v2 d0 d1 : Value} (older : List PanicEntry) (h0 : w.heap[g0]? = some (.cells #[v0] 4 (0, 0))) (h1 : w.heap[g1]? = some (.cells #[v1] 3 (0, 0))) (h2 : w.heap[g2]? = some (.cells #[v2] 33 (0, 0))) (h3 : w.heap[g3]? = some (.cells #[d0, d1, .int .i64 fuel] 32 (0, 0))) (n01 : g0 ≠ g1) (n02 : g0 ≠ g2) (n03 : g0 ≠ g3) (n12 : g1 ≠ g2) (n13 : g1 ≠ g3) (n23 : g2 ≠ g3) :
  CallsD Tryz.prog 57 #[.pointer (some ⟨g0, 0, none⟩), .pointer (some ⟨g1, 0, none⟩), .pointer (some ⟨g2, 0, none⟩), .pointer (some ⟨g3, 0, none⟩)] (.panicking ({ v := stopV, recovered := false } :: older)) w fun e u' w' => e = .returned (.tuple #[]) ∧ u' = .panicking ({ v := stopV, recovered := true } :: older) ∧ w'.cell? ⟨g0, 0, none⟩ = some (.bool false) ∧ w'.cell? ⟨g1, 0, none⟩ = some (.int .i64 fuel) ∧ w'.cell? ⟨g2, 0, none⟩ = some (.int .i64 9) ∧ ButG (fun x => x = g0 ∨ x = g1 ∨ x = g2) w w' := by
 refine callsD_of_wpS Tryz.func57 rfl fun c₀ cs hu => ?_
 simp only [Tryz.ntmps57, List.size_toArray, List.length_cons, List.length_nil, Nat.reduceAdd, Nat.reduceSub, Array.replicate_succ, Array.replicate_zero, List.push_toArray, List.append_toArray, List.nil_append, List.cons_append]
 apply wpS_seq
 apply wpS_region
 refine OpsD.out (l := [0, 1, 2, 3, 4, 5, 6, 7]) ?_
 have hrec : recoverD (c₀ :: cs) = some (stopV, { c₀ with mode := .panicking ({ v := stopV, recovered := true } :: older) } :: cs) := by unfold recoverD; simp only [hu]
 have hta : ∀ w : World, Sem.run Tryz.prog (Instr.typeAssert stopV 20 87 true) w = .ok (.tuple #[.agg #[.int .i64 9], .bool true]) w := fun w => by kernel_rfl
 refine OpsD.recd (w' := w) (sd (some 8) rfl) (by kernel_rfl) hrec ⟨by rfl⟩ ?_
 try simp only [Act.put, pz1, pz2, pz3]
 refine OpsD.val (v := .tuple #[.agg #[.int .i64 9], .bool true]) (w' := w) (sd (some 9) rfl) (by kernel_rfl) ⟨by go_simp⟩ ?_
 try simp only [Act.put, pz1, pz2, pz3]
 refine OpsD.val (v := .tuple #[.agg #[.int .i64 9], .bool true]) (w' := w) (sd (some 7) rfl) (by kernel_rfl) ⟨by go_simp⟩ ?_
 try simp only [Act.put, pz1, pz2, pz3]
 refine OpsD.val (v := .agg #[.int .i64 9]) (w' := w) (sd (some 10) rfl) (by kernel_rfl) ⟨by go_simp⟩ ?_
 try simp only [Act.put, pz1, pz2, pz3]
 refine OpsD.val (v := .bool true) (w' := w) (sd (some 11) rfl) (by kernel_rfl) ⟨by go_simp⟩ ?_
 try simp only [Act.put, pz1, pz2, pz3]
 refine OpsD.val (v := .pointer (some ⟨w.heap.size, 0, none⟩)) (w' := (w.alloc (.cells #[.int .i64 0] 87))) (sd (some 4) rfl) (by kernel_rfl) ⟨by go_simp⟩ ?_
 try simp only [Act.put, pz1, pz2, pz3]
 refine OpsD.skip (w' := ((w.alloc (.cells #[.int .i64 0] 87)).setCell ⟨w.heap.size, 0, none⟩ (.int .i64 9))) (sd none rfl) (by kernel_rfl) ⟨by go_simp⟩ ?_
 try simp only [Act.put, pz1, pz2, pz3]
 refine OpsD.val (v := .bool true) (w' := ((w.alloc (.cells #[.int .i64 0] 87)).setCell ⟨w.heap.size, 0, none⟩ (.int .i64 9))) (sd (some 5) rfl) (by kernel_rfl) ⟨by go_simp⟩ ?_
 try simp only [Act.put, pz1, pz2, pz3]
 refine OpsD.nil ?_
 simp only [Exit.thenS]
 refine wpS_of_wp ?_
 clear hta hrec
 obtain ⟨wa, hwa⟩ : ∃ x, x = w.alloc (.cells #[.int .i64 9] 87) := ⟨_, rfl⟩
 obtain ⟨gs, hgs⟩ : ∃ x, x = w.heap.size := ⟨_, rfl⟩
 have hba : Below w.heap.size w wa := by rw [hwa]; exact (Below.refl _ _).alloc (Nat.le_refl _) _
 have hxa : wa.heap[gs]? = some (.cells #[.int .i64 9] 87 (0, 0)) := by rw [hwa, hgs]; exact heap_alloc_new w _
 have a0 := box_up hba (Array.getElem?_eq_some_iff.1 h0).1 h0
 have a1 := box_up hba (Array.getElem?_eq_some_iff.1 h1).1 h1
 have a2 := box_up hba (Array.getElem?_eq_some_iff.1 h2).1 h2
 have a3 := box_up hba (Array.getElem?_eq_some_iff.1 h3).1 h3
 have l0 := (Array.getElem?_eq_some_iff.1 h0).1
 have l1 := (Array.getElem?_eq_some_iff.1 h1).1
 have l2 := (Array.getElem?_eq_some_iff.1 h2).1
 have l3 := (Array.getElem?_eq_some_iff.1 h3).1
 have c0 := Ch a0 0
 have c1 := Ch a1 0
 have c2 := Ch a2 0
 have c3 := Ch a3 2
 have cs0 := Ch hxa 0
 simp only [List.getElem?_toArray, List.getElem?_cons_zero, List.getElem?_cons_succ] at c0 c1 c2 c3 cs0
 have f0 := Lib.frozen_of_heap a0 0
 have f1 := Lib.frozen_of_heap a1 0
 have f2 := Lib.frozen_of_heap a2 0
 have m0 : gs ≠ g0 := by omega
 have m1 : gs ≠ g1 := by omega
 have m2 : gs ≠ g2 := by omega
 have HWA := Hd hwa
 have HGS := Hd hgs
 have HA := Hd (And.intro a0 (And.intro a1 a2))
 have HBA := Hd hba
 clear hwa hgs hba hxa a0 a1 a2 a3 l0 l1 l2 l3 h0 h1 h2 h3
 obtain ⟨wb, hwb⟩ : ∃ x, x = ((wa.setCell ⟨g0, 0, none⟩ (.bool false)).setCell ⟨g1, 0, none⟩ (.int .i64 0)).setCell ⟨g2, 0, none⟩ (.int .i64 9) := ⟨_, rfl⟩
 go_upto_region 3 with fail
 rw [← HWA.out, ← HGS.out]
 clear hwb wb
 go_region
 have HZ := Hd (three_set HA.out.1 HA.out.2.1 HA.out.2.2 n01 n02 n12 (.bool false) (.int .i64 0) (.int .i64 9) (.int .i64 fuel))
 go_wp2_with fail
 refine ⟨rfl, .panicking ({ v := stopV, recovered := true } :: older), rfl, .tuple #[], results_none rfl _ _ _, rfl, rfl, HZ.out.1, HZ.out.2.1, HZ.out.2.2.1, ?_⟩
 exact (ButG.of_below HBA.out).trans HZ.out.2.2.2 fun x hx => .inl hx
theorem rightvars_nil (w : World) : Calls Tryz.prog 53 #[.slice none 0 0] w fun e w' => e = .returned (.bool true) ∧ Below w.heap.size w w' := by
 go_enter Tryz.func53, Tryz.ntmps53
 go_wp2_with fail
 go_loopw [7] (fun v wr => v = .int .i64 0 ∧ wr = w) (fun _ _ => 0)
 case atStart => exact ⟨rfl, rfl⟩
 case round =>
  obtain ⟨rfl, rfl⟩ := hrel
  go_wp2_with fail
  go_ret
  exact ⟨rfl, Below.refl _ _⟩
theorem right_none {fuel : Int} (h0 : 0 ≤ fuel) (h1 : fuel ≤ 100000) (w : World) : Calls Tryz.prog 25 #[.agg #[.slice none 0 0, .slice none 0 0, .int .i64 fuel]] w fun e w' => e = .returned (.bool true) ∧ Below w.heap.size w w' := by
 obtain ⟨w1, hw1⟩ : ∃ x, x = w.alloc (.cells #[.slice none 0 0, .slice none 0 0, .int .i64 fuel] 32) := ⟨_, rfl⟩
 obtain ⟨g, hg⟩ : ∃ x, x = w.heap.size := ⟨_, rfl⟩
 have hb1 : Below w.heap.size w w1 := by rw [hw1]; exact (Below.refl _ _).alloc (Nat.le_refl _) _
 have hx1 : w1.heap[g]? = some (.cells #[.slice none 0 0, .slice none 0 0, .int .i64 fuel] 32 (0, 0)) := by rw [hw1, hg]; exact heap_alloc_new w _
 have HX : Hid (∀ wx, Below w1.heap.size w1 wx → wx.cell? ⟨g, 0, none⟩ = some (.slice none 0 0) ∧ wx.cell? ⟨g, 1, none⟩ = some (.slice none 0 0) ∧ wx.cell? ⟨g, 2, none⟩ = some (.int .i64 fuel)) := Hd fun wx hx => by
  have h := box_up hx (Array.getElem?_eq_some_iff.1 hx1).1 hx1
  exact ⟨Ch h 0, Ch h 1, Ch h 2⟩
 have t1 : decide (fuel < 0) = false := decide_eq_false (by omega)
 have t2 : decide (100000 < fuel) = false := decide_eq_false (by omega)
 have t1' : ¬ fuel < 0 := by omega
 have t2' : ¬ 100000 < fuel := by omega
 have HB1 := Hd hb1
 have HW1 := Hd hw1
 have HG := Hd hg
 clear h0 h1 hw1 hg hb1 hx1
 go_enter Tryz.func25, Tryz.ntmps25
 go_upto_region 1 with fail
 rw [← HW1.out, ← HG.out]
 obtain ⟨x0, x1, x2⟩ := HX.out w1 (Below.refl _ _)
 go_wp2_with fail
 refine (rightvars_nil w1).mono ?_
 rintro e2 w2 ⟨rfl, hb2⟩
 have HB2 := Hd (HB1.out.trans (hb2.mono HB1.out.size))
 clear x0 x1 x2
 obtain ⟨x0, x1, x2⟩ := HX.out w2 hb2
 clear hb2
 go_wp2_with fail
 clear t1 t2 t1' t2' x0 x1 x2
 go_loopw [22] (fun v wr => v = .int .i64 0 ∧ wr = w2) (fun _ _ => 0)
 case atStart => exact ⟨rfl, rfl⟩
 case round =>
  obtain ⟨rfl, rfl⟩ := hrel
  go_wp2_with fail
  go_ret
  exact ⟨rfl, HB2.out⟩
theorem newrun_none {fuel : Int} (w : World) : Calls Tryz.prog 56 #[.agg #[.slice none 0 0, .slice none 0 0, .int .i64 fuel]] w fun e w' => ∃ b m1 m2, e = .returned (.pointer (some ⟨b, 0, none⟩)) ∧ w'.heap[b]? = some (runC fuel 0 m1 m2 (.slice none 0 0) 0) ∧ w.heap.size ≤ b ∧ Below w.heap.size w w' := by
 obtain ⟨w1, hw1⟩ : ∃ x, x = w.alloc (.cells #[.slice none 0 0, .slice none 0 0, .int .i64 fuel] 32) := ⟨_, rfl⟩
 obtain ⟨g, hg⟩ : ∃ x, x = w.heap.size := ⟨_, rfl⟩
 have hb1 : Below w.heap.size w w1 := by rw [hw1]; exact (Below.refl _ _).alloc (Nat.le_refl _) _
 have hx1 : w1.heap[g]? = some (.cells #[.slice none 0 0, .slice none 0 0, .int .i64 fuel] 32 (0, 0)) := by rw [hw1, hg]; exact heap_alloc_new w _
 have HX : Hid (∀ wx, Below w1.heap.size w1 wx → wx.cell? ⟨g, 0, none⟩ = some (.slice none 0 0) ∧ wx.cell? ⟨g, 1, none⟩ = some (.slice none 0 0) ∧ wx.cell? ⟨g, 2, none⟩ = some (.int .i64 fuel)) := Hd fun wx hx => by
  have h := box_up hx (Array.getElem?_eq_some_iff.1 hx1).1 hx1
  exact ⟨Ch h 0, Ch h 1, Ch h 2⟩
 have HB1 := Hd hb1
 have HW1 := Hd hw1
 have HG := Hd hg
 have hmm := @run_makeMap Tryz.prog
 clear hw1 hg hb1 hx1
 go_enter Tryz.func56, Tryz.ntmps56
 go_upto_region 1 with fail
 rw [← HW1.out, ← HG.out]
 obtain ⟨x0, x1, x2⟩ := HX.out w1 (Below.refl _ _)
 obtain ⟨w2, hw2⟩ : ∃ x, x = ((w1.alloc (.map #[] 0)).alloc (.map #[] 0)).alloc (.cells #[.int .i64 fuel, .int .i64 0, .map (some w1.heap.size), .map (some (w1.heap.size + 1)), .slice none 0 0, .int .i64 0] 93) := ⟨_, rfl⟩
 obtain ⟨m1, hm1⟩ : ∃ x, x = w1.heap.size := ⟨_, rfl⟩
 have hb2 : Below w1.heap.size w1 w2 := by rw [hw2]; exact (((Below.refl _ _).alloc (Nat.le_refl _) _).alloc (by simp) _).alloc (by simp; omega) _
 have hx2 : w2.heap[m1 + 1 + 1]? = some (runC fuel 0 (some m1) (some (m1 + 1)) (.slice none 0 0) 0) := by
  rw [hw2, hm1]
  have h := heap_alloc_new ((w1.alloc (.map #[] 0)).alloc (.map #[] 0)) (.cells #[.int .i64 fuel, .int .i64 0, .map (some w1.heap.size), .map (some (w1.heap.size + 1)), .slice none 0 0, .int .i64 0] 93)
  rw [World.size_alloc, World.size_alloc] at h
  exact h
 have HFIN : Hid (∃ b m1' m2, Ending.returned (.pointer (some ⟨m1 + 1 + 1, 0, none⟩)) = .returned (.pointer (some ⟨b, 0, none⟩)) ∧ w2.heap[b]? = some (runC fuel 0 m1' m2 (.slice none 0 0) 0) ∧ w.heap.size ≤ b ∧ Below w.heap.size w w2) := Hd ⟨_, _, _, rfl, hx2, by have := HB1.out.size; omega, HB1.out.trans (hb2.mono HB1.out.size)⟩
 have HW2 := Hd hw2
 have HM1 := Hd hm1
 have HX2 := Hd (HX.out w2 hb2)
 clear hw2 hm1 hb2 hx2
 go_upto_region 2 with fail
 rw [← HM1.out] at HW2
 rw [← HM1.out, ← HW2.out]
 clear x0 x1 x2
 obtain ⟨x0, x1, x2⟩ := HX2.out
 go_wp2_with fail
 go_loopw [4, 5, 17] (fun u v s wr => s = .int .i64 0 ∧ wr = w2) (fun _ _ _ _ => 0)
 case atStart => exact ⟨rfl, rfl⟩
 case round =>
  obtain ⟨rfl, rfl⟩ := hrel
  go_wp2_with fail
  obtain ⟨wz, hwz⟩ : ∃ x, x = wr := ⟨_, rfl⟩
  go_loopw [6, 7, 47] (fun u v s wj => s = .int .i64 0 ∧ wj = wz) (fun _ _ _ _ => 0)
  case atStart => exact ⟨rfl, hwz.symm⟩
  case round =>
   obtain ⟨rfl, hw⟩ := hrel
   obtain rfl := hw.trans hwz
   clear hwz hw
   go_wp2_with fail
   go_ret
   exact HFIN.out
def SimP_15 (t : Ty) : Prop := ∀ (K : Nat → Prop) (w : World) (cs : List Value), RepT K w t cs → Calls Tryz.prog 11 #[.agg cs.toArray] w fun e w' => e = .returned (.bool (smpT t)) ∧ Below w.heap.size w w'
theorem simple_15 (t : Ty) : SimP_15 t := by
 refine Ty.ind (C := SimP_15) (fun k s n ps fs vs hp hf _ => ?_) t
 intro K w cs hr
 obtain ⟨A, c, B, d, C, e, rfl, ht, hL, hF, hV⟩ := hr.inv
 simp only [cells6T]
 obtain ⟨g, hg⟩ : ∃ g, g = w.heap.size := ⟨_, rfl⟩
 obtain ⟨w1, hw1⟩ : ∃ x, x = w.alloc (.cells #[.int .i64 k, .string s, .int .i64 n, .slice A ps.length c, .slice B fs.length d, .slice C vs.length e] 26) := ⟨_, rfl⟩
 have hb1 : Below w.heap.size w w1 := by rw [hw1]; exact (Below.refl _ _).alloc (Nat.le_refl _) _
 have hx1 : w1.heap[g]? = some (.cells #[.int .i64 k, .string s, .int .i64 n, .slice A ps.length c, .slice B fs.length d, .slice C vs.length e] 26 (0, 0)) := by rw [hw1, hg]; exact heap_alloc_new w _
 have hgl := (Array.getElem?_eq_some_iff.1 hx1).1
 have HX : Hid (∀ wx, Below w1.heap.size w1 wx → wx.cell? ⟨g, 0, none⟩ = some (.int .i64 k) ∧ wx.cell? ⟨g, 1, none⟩ = some (.string s) ∧ wx.cell? ⟨g, 2, none⟩ = some (.int .i64 n) ∧ wx.cell? ⟨g, 3, none⟩ = some (.slice A ps.length c) ∧ wx.cell? ⟨g, 4, none⟩ = some (.slice B fs.length d) ∧ wx.cell? ⟨g, 5, none⟩ = some (.slice C vs.length e)) := Hd fun wx hx => cz6 (box_up hx hgl hx1)
 have HP : Hid (∀ wx, Below w1.heap.size w1 wx → ListT K wx ps A c) := Hd fun wx hx => (hL.later hb1).later hx
 have HF : Hid (∀ wx, Below w1.heap.size w1 wx → ListF K wx fs B d) := Hd fun wx hx => (hF.later hb1).later hx
 have HIP := Hd hp
 have HIF := Hd hf
 have HLN : Hid (ps.length ≤ 1000000000000000 ∧ fs.length ≤ 1000000000000000) := Hd (by obtain ⟨_, _, r1, -⟩ := hL; obtain ⟨_, _, r2, -⟩ := hF; exact ⟨r1.big, r2.big⟩)
 have HB1 := Hd hb1
 have HW1 := Hd hw1
 have HG := Hd hg
 obtain ⟨R, hR⟩ : ∃ R, R = smpT (.mk k s n ps fs vs) := ⟨_, rfl⟩
 rw [← hR]
 rw [smpT_mk] at hR
 have HR0 := Hd hR
 clear hr hL hF hV hp hf hg hw1 hb1 hx1 hgl hR
 go_enter Tryz.func11, Tryz.ntmps11
 go_upto_region 1 with fail
 rw [← HW1.out, ← HG.out]
 obtain ⟨x0, x1, x2, x3, x4, x5⟩ := HX.out w1 (Below.refl _ _)
 by_cases h17 : k = 17
 ·have te : (k == 17) = true := by simp [h17]
  have HRF : Hid (R = false) := Hd (by rw [HR0.out, te]; rfl)
  clear h17
  go_wp2_with fail
  go_ret
  exact ⟨by rw [HRF.out]; rfl, HB1.out⟩
 have te : (k == 17) = false := by simp [h17]
 by_cases h16 : 16 ≤ k ∧ k ≤ 22
 ·have t1 : decide (16 ≤ k) = true := decide_eq_true h16.1
  have t2 : decide (k ≤ 22) = true := decide_eq_true h16.2
  have HRF : Hid (R = false) := Hd (by rw [HR0.out, te, t1, t2]; rfl)
  obtain ⟨u1, u2⟩ := h16
  go_wp2_with fail
  go_ret
  exact ⟨by rw [HRF.out]; rfl, HB1.out⟩
 by_cases hv : 0 < vs.length
 ·have t3 : decide ((0 : Int) < (vs.length : Int)) = true := decide_eq_true (by omega)
  have t3' : decide (0 < vs.length) = true := decide_eq_true hv
  have HRF : Hid (R = false) := Hd (by rw [HR0.out, decide_eq_true hv, Bool.or_true]; rfl)
  rcases Int.lt_or_le k 16 with u1 | u1
  ·have t1 : decide (16 ≤ k) = false := decide_eq_false (by omega)
   have u2 : ¬ 16 ≤ k := by omega
   clear h16 h17
   go_wp2_with fail
   go_ret
   exact ⟨by rw [HRF.out]; rfl, HB1.out⟩
  ·have t1 : decide (16 ≤ k) = true := decide_eq_true u1
   have t2 : decide (k ≤ 22) = false := decide_eq_false (by omega)
   have u2 : ¬ k ≤ 22 := by omega
   clear h16 h17
   go_wp2_with fail
   go_ret
   exact ⟨by rw [HRF.out]; rfl, HB1.out⟩
 have t3 : decide ((0 : Int) < (vs.length : Int)) = false := decide_eq_false (by omega)
 have t3' : decide (0 < vs.length) = false := decide_eq_false hv
 have HRR : Hid (((∀ p ∈ ps, smpT p = true) → (∀ f ∈ fs, smpT f.2.2 = true) → R = true) ∧ (False ∨ (∃ p ∈ ps, smpT p = false) ∨ (∃ f ∈ fs, smpT f.2.2 = false) → R = false)) := Hd (by
  have h1 : (decide (16 ≤ k) && decide (k ≤ 22)) = false := by rw [Bool.and_eq_false_iff, decide_eq_false_iff_not, decide_eq_false_iff_not]; omega
  rw [HR0.out, te, h1, decide_eq_false hv]
  refine ⟨fun h2 h3 => ?_, ?_⟩
  ·rw [List.all_eq_true.2 h2, List.all_eq_true.2 h3]
   rfl
  ·rintro (h | ⟨p, hp, h⟩ | ⟨p, hp, h⟩)
   ·exact h.elim
   ·rw [List.all_eq_false.2 ⟨p, hp, by rw [h]; decide⟩]
    rfl
   ·rw [List.all_eq_false.2 ⟨p, hp, by rw [h]; decide⟩, Bool.and_false]
    rfl)
 have HBI : Hid (Below w1.heap.size w1 w1) := Hd (Below.refl _ _)
 rcases Int.lt_or_le k 16 with u1 | u1
 rotate_left
 ·have t1 : decide (16 ≤ k) = true := decide_eq_true u1
  have t2 : decide (k ≤ 22) = false := decide_eq_false (by omega)
  have u2 : ¬ k ≤ 22 := by omega
  clear h16 h17 hv
  go_wp2_with fail
  clear te t1 t2 t3 t3' u1 u2 x0 x1 x2 x3 x4 x5
  go_loopw [3] (fun v wj => ∃ j : Nat, j ≤ ps.length ∧ v = .int .i64 j ∧ Below w1.heap.size w1 wj ∧ ∀ p ∈ ps.take j, smpT p = true) (fun v _ => ps.length - (intOf v).toNat)
  case atStart => exact ⟨0, Nat.zero_le _, rfl, HBI.out, fun p hp => absurd hp (by simp)⟩
  case round =>
   obtain ⟨j, hj, rfl, hb, hno⟩ := hrel
   have HB := Hd hb
   have hln := HLN.out
   obtain ⟨x0, x1, x2, x3, x4, x5⟩ := HX.out _ hb
   by_cases hjn : j < ps.length
   ·have t2 : decide ((j : Int) < (ps.length : Int)) = true := by simp; omega
    have wr3 : wrap64 ((j : Int) + 1) = ((j + 1 : Nat) : Int) := wrap_one (by omega)
    have HM2 := Hd (measI hjn)
    have HJn : Hid (j + 1 ≤ ps.length) := Hd hjn
    obtain ⟨tb, tq, hA, -, hbat⟩ := (HP.out _ hb).at (Nat.lt_of_le_of_lt (Nat.zero_le j) hjn)
    subst hA
    obtain ⟨es, hes, hrq⟩ := hbat j hjn
    have hmem := List.getElem_mem hjn
    have hih := HIP.out (ps[j]'hjn) hmem
    have HNX : Hid (smpT (ps[j]'hjn) = true → ∀ p ∈ ps.take (j + 1), smpT p = true) := Hd fun h => mem_take_next (Q := fun p => smpT p = true) hjn hno h
    have HTR : Hid (smpT (ps[j]'hjn) = false → R = false) := Hd fun h => HRR.out.2 (.inr (.inl ⟨_, hmem, h⟩))
    have KH := Hd (hih K _ es hrq)
    have j1 : (0 : Int) ≤ (j : Int) := by omega
    have j2 : (j : Int) < (ps.length : Int) := by omega
    generalize (ps[j]'hjn) = pi at hrq KH HNX HTR
    obtain ⟨q, hq⟩ : ∃ q, q = smpT pi := ⟨_, rfl⟩
    rw [← hq] at KH HNX HTR
    clear hj hb hno hln hbat hmem hih hq
    obtain ⟨k2, s2, n2, ps2, fs2, vs2⟩ := pi
    obtain ⟨A2, c2, B2, d2, C2, e2, rfl, -⟩ := hrq.inv
    simp only [cells6T] at hes KH
    obtain ⟨y0, y1, y2, y3, y4, y5⟩ : (wr.cell? ⟨tb, tq + j * 6, none⟩ = some (.int .i64 k2) ∧ wr.cell? ⟨tb, tq + j * 6 + 1, none⟩ = some (.string s2) ∧ wr.cell? ⟨tb, tq + j * 6 + 2, none⟩ = some (.int .i64 n2) ∧ wr.cell? ⟨tb, tq + j * 6 + 3, none⟩ = some (.slice A2 ps2.length c2) ∧ wr.cell? ⟨tb, tq + j * 6 + 4, none⟩ = some (.slice B2 fs2.length d2) ∧ wr.cell? ⟨tb, tq + j * 6 + 5, none⟩ = some (.slice C2 vs2.length e2)) := ⟨hes 0 _ rfl, hes 1 _ rfl, hes 2 _ rfl, hes 3 _ rfl, hes 4 _ rfl, hes 5 _ rfl⟩
    clear hes hrq
    go_wp2_with fail
    refine KH.out.mono ?_
    rintro r w5 ⟨rfl, hb5⟩
    have HB5 : Hid (Below w1.heap.size w1 w5) := Hd (HB.out.trans (hb5.mono HB.out.size))
    clear hb5 KH y0 y1 y2 y3 y4 y5 x0 x1 x2 x3 x4 x5
    cases q with
    | false =>
     go_wp2_with fail
     go_ret
     exact ⟨by rw [HTR.out (by trivial)]; rfl, HB1.out.trans (HB5.out.mono HB1.out.size)⟩
    | true =>
     go_wp2_with fail
     refine ⟨⟨j + 1, HJn.out, by first | rfl | rw [wr3], HB5.out, HNX.out (by trivial)⟩, ?_⟩
     first | exact HM2.out | (rw [wr3]; exact HM2.out)
   ·have t2 : decide ((j : Int) < (ps.length : Int)) = false := by simp; omega
    rw [List.take_of_length_le (by omega)] at hno
    have HNP := Hd hno
    clear hj hb hno hln
    go_wp2_with fail
    clear t2 hjn x0 x1 x2 x3 x4 x5
    obtain ⟨wi2, hwi⟩ : ∃ x : World, x = wr := ⟨_, rfl⟩
    have HBI : Hid (Below w1.heap.size w1 wi2) := Hd (by rw [hwi]; exact HB.out)
    rw [← hwi]
    clear HB hwi
    go_loopw [4] (fun v wj => ∃ j : Nat, j ≤ fs.length ∧ v = .int .i64 j ∧ Below w1.heap.size w1 wj ∧ ∀ p ∈ fs.take j, smpT p.2.2 = true) (fun v _ => fs.length - (intOf v).toNat)
    case atStart => exact ⟨0, Nat.zero_le _, rfl, HBI.out, fun p hp => absurd hp (by simp)⟩
    case round =>
     obtain ⟨j, hj, rfl, hb, hno⟩ := hrel
     have HB := Hd hb
     have hln := HLN.out
     obtain ⟨x0, x1, x2, x3, x4, x5⟩ := HX.out _ hb
     by_cases hjn : j < fs.length
     ·have t2 : decide ((j : Int) < (fs.length : Int)) = true := by simp; omega
      have wr3 : wrap64 ((j : Int) + 1) = ((j + 1 : Nat) : Int) := wrap_one (by omega)
      have HM2 := Hd (measI hjn)
      have HJn : Hid (j + 1 ≤ fs.length) := Hd hjn
      obtain ⟨tb, tq, hA, -, hbat⟩ := (HF.out _ hb).at (Nat.lt_of_le_of_lt (Nat.zero_le j) hjn)
      subst hA
      obtain ⟨-, -, -, es, hes, hrq⟩ := hbat j hjn
      have hmem := List.getElem_mem hjn
      have hih := HIF.out (fs[j]'hjn) hmem
      have HNX : Hid (smpT (fs[j]'hjn).2.2 = true → ∀ p ∈ fs.take (j + 1), smpT p.2.2 = true) := Hd fun h => mem_take_next (Q := fun p => smpT p.2.2 = true) hjn hno h
      have HTR : Hid (smpT (fs[j]'hjn).2.2 = false → R = false) := Hd fun h => HRR.out.2 (.inr (.inr ⟨_, hmem, h⟩))
      have KH := Hd (hih K _ es hrq)
      have j1 : (0 : Int) ≤ (j : Int) := by omega
      have j2 : (j : Int) < (fs.length : Int) := by omega
      generalize (fs[j]'hjn).2.2 = pi at hrq KH HNX HTR
      obtain ⟨q, hq⟩ : ∃ q, q = smpT pi := ⟨_, rfl⟩
      rw [← hq] at KH HNX HTR
      clear hj hb hno hln hbat hmem hih hq
      obtain ⟨k2, s2, n2, ps2, fs2, vs2⟩ := pi
      obtain ⟨A2, c2, B2, d2, C2, e2, rfl, -⟩ := hrq.inv
      simp only [cells6T] at hes KH
      obtain ⟨y0, y1, y2, y3, y4, y5⟩ : (wr.cell? ⟨tb, tq + j * 8 + 2, none⟩ = some (.int .i64 k2) ∧ wr.cell? ⟨tb, tq + j * 8 + 2 + 1, none⟩ = some (.string s2) ∧ wr.cell? ⟨tb, tq + j * 8 + 2 + 2, none⟩ = some (.int .i64 n2) ∧ wr.cell? ⟨tb, tq + j * 8 + 2 + 3, none⟩ = some (.slice A2 ps2.length c2) ∧ wr.cell? ⟨tb, tq + j * 8 + 2 + 4, none⟩ = some (.slice B2 fs2.length d2) ∧ wr.cell? ⟨tb, tq + j * 8 + 2 + 5, none⟩ = some (.slice C2 vs2.length e2)) := ⟨hes 0 _ rfl, hes 1 _ rfl, hes 2 _ rfl, hes 3 _ rfl, hes 4 _ rfl, hes 5 _ rfl⟩
      clear hes hrq
      go_wp2_with fail
      refine KH.out.mono ?_
      rintro r w5 ⟨rfl, hb5⟩
      have HB5 : Hid (Below w1.heap.size w1 w5) := Hd (HB.out.trans (hb5.mono HB.out.size))
      clear hb5 KH y0 y1 y2 y3 y4 y5 x0 x1 x2 x3 x4 x5
      cases q with
      | false =>
       go_wp2_with fail
       go_ret
       exact ⟨by rw [HTR.out (by trivial)]; rfl, HB1.out.trans (HB5.out.mono HB1.out.size)⟩
      | true =>
       go_wp2_with fail
       refine ⟨⟨j + 1, HJn.out, by first | rfl | rw [wr3], HB5.out, HNX.out (by trivial)⟩, ?_⟩
       first | exact HM2.out | (rw [wr3]; exact HM2.out)
     ·have t2 : decide ((j : Int) < (fs.length : Int)) = false := by simp; omega
      rw [List.take_of_length_le (by omega)] at hno
      have HNF := Hd hno
      clear hj hb hno hln
      go_wp2_with fail
      go_ret
      exact ⟨by rw [HRR.out.1 HNP.out HNF.out]; rfl, HB1.out.trans (HB.out.mono HB1.out.size)⟩
 ·have t1 : decide (16 ≤ k) = false := decide_eq_false (by omega)
  have u2 : ¬ 16 ≤ k := by omega
  clear h16 h17 hv
  go_wp2_with fail
  clear te t1 t3 t3' u1 u2 x0 x1 x2 x3 x4 x5
  go_loopw [3] (fun v wj => ∃ j : Nat, j ≤ ps.length ∧ v = .int .i64 j ∧ Below w1.heap.size w1 wj ∧ ∀ p ∈ ps.take j, smpT p = true) (fun v _ => ps.length - (intOf v).toNat)
  case atStart => exact ⟨0, Nat.zero_le _, rfl, HBI.out, fun p hp => absurd hp (by simp)⟩
  case round =>
   obtain ⟨j, hj, rfl, hb, hno⟩ := hrel
   have HB := Hd hb
   have hln := HLN.out
   obtain ⟨x0, x1, x2, x3, x4, x5⟩ := HX.out _ hb
   by_cases hjn : j < ps.length
   ·have t2 : decide ((j : Int) < (ps.length : Int)) = true := by simp; omega
    have wr3 : wrap64 ((j : Int) + 1) = ((j + 1 : Nat) : Int) := wrap_one (by omega)
    have HM2 := Hd (measI hjn)
    have HJn : Hid (j + 1 ≤ ps.length) := Hd hjn
    obtain ⟨tb, tq, hA, -, hbat⟩ := (HP.out _ hb).at (Nat.lt_of_le_of_lt (Nat.zero_le j) hjn)
    subst hA
    obtain ⟨es, hes, hrq⟩ := hbat j hjn
    have hmem := List.getElem_mem hjn
    have hih := HIP.out (ps[j]'hjn) hmem
    have HNX : Hid (smpT (ps[j]'hjn) = true → ∀ p ∈ ps.take (j + 1), smpT p = true) := Hd fun h => mem_take_next (Q := fun p => smpT p = true) hjn hno h
    have HTR : Hid (smpT (ps[j]'hjn) = false → R = false) := Hd fun h => HRR.out.2 (.inr (.inl ⟨_, hmem, h⟩))
    have KH := Hd (hih K _ es hrq)
    have j1 : (0 : Int) ≤ (j : Int) := by omega
    have j2 : (j : Int) < (ps.length : Int) := by omega
    generalize (ps[j]'hjn) = pi at hrq KH HNX HTR
    obtain ⟨q, hq⟩ : ∃ q, q = smpT pi := ⟨_, rfl⟩
    rw [← hq] at KH HNX HTR
    clear hj hb hno hln hbat hmem hih hq
    obtain ⟨k2, s2, n2, ps2, fs2, vs2⟩ := pi
    obtain ⟨A2, c2, B2, d2, C2, e2, rfl, -⟩ := hrq.inv
    simp only [cells6T] at hes KH
    obtain ⟨y0, y1, y2, y3, y4, y5⟩ : (wr.cell? ⟨tb, tq + j * 6, none⟩ = some (.int .i64 k2) ∧ wr.cell? ⟨tb, tq + j * 6 + 1, none⟩ = some (.string s2) ∧ wr.cell? ⟨tb, tq + j * 6 + 2, none⟩ = some (.int .i64 n2) ∧ wr.cell? ⟨tb, tq + j * 6 + 3, none⟩ = some (.slice A2 ps2.length c2) ∧ wr.cell? ⟨tb, tq + j * 6 + 4, none⟩ = some (.slice B2 fs2.length d2) ∧ wr.cell? ⟨tb, tq + j * 6 + 5, none⟩ = some (.slice C2 vs2.length e2)) := ⟨hes 0 _ rfl, hes 1 _ rfl, hes 2 _ rfl, hes 3 _ rfl, hes 4 _ rfl, hes 5 _ rfl⟩
    clear hes hrq
    go_wp2_with fail
    refine KH.out.mono ?_
    rintro r w5 ⟨rfl, hb5⟩
    have HB5 : Hid (Below w1.heap.size w1 w5) := Hd (HB.out.trans (hb5.mono HB.out.size))
    clear hb5 KH y0 y1 y2 y3 y4 y5 x0 x1 x2 x3 x4 x5
    cases q with
    | false =>
     go_wp2_with fail
     go_ret
     exact ⟨by rw [HTR.out (by trivial)]; rfl, HB1.out.trans (HB5.out.mono HB1.out.size)⟩
    | true =>
     go_wp2_with fail
     refine ⟨⟨j + 1, HJn.out, by first | rfl | rw [wr3], HB5.out, HNX.out (by trivial)⟩, ?_⟩
     first | exact HM2.out | (rw [wr3]; exact HM2.out)
   ·have t2 : decide ((j : Int) < (ps.length : Int)) = false := by simp; omega
    rw [List.take_of_length_le (by omega)] at hno
    have HNP := Hd hno
    clear hj hb hno hln
    go_wp2_with fail
    clear t2 hjn x0 x1 x2 x3 x4 x5
    obtain ⟨wi2, hwi⟩ : ∃ x : World, x = wr := ⟨_, rfl⟩
    have HBI : Hid (Below w1.heap.size w1 wi2) := Hd (by rw [hwi]; exact HB.out)
    rw [← hwi]
    clear HB hwi
    go_loopw [4] (fun v wj => ∃ j : Nat, j ≤ fs.length ∧ v = .int .i64 j ∧ Below w1.heap.size w1 wj ∧ ∀ p ∈ fs.take j, smpT p.2.2 = true) (fun v _ => fs.length - (intOf v).toNat)
    case atStart => exact ⟨0, Nat.zero_le _, rfl, HBI.out, fun p hp => absurd hp (by simp)⟩
    case round =>
     obtain ⟨j, hj, rfl, hb, hno⟩ := hrel
     have HB := Hd hb
     have hln := HLN.out
     obtain ⟨x0, x1, x2, x3, x4, x5⟩ := HX.out _ hb
     by_cases hjn : j < fs.length
     ·have t2 : decide ((j : Int) < (fs.length : Int)) = true := by simp; omega
      have wr3 : wrap64 ((j : Int) + 1) = ((j + 1 : Nat) : Int) := wrap_one (by omega)
      have HM2 := Hd (measI hjn)
      have HJn : Hid (j + 1 ≤ fs.length) := Hd hjn
      obtain ⟨tb, tq, hA, -, hbat⟩ := (HF.out _ hb).at (Nat.lt_of_le_of_lt (Nat.zero_le j) hjn)
      subst hA
      obtain ⟨-, -, -, es, hes, hrq⟩ := hbat j hjn
      have hmem := List.getElem_mem hjn
      have hih := HIF.out (fs[j]'hjn) hmem
      have HNX : Hid (smpT (fs[j]'hjn).2.2 = true → ∀ p ∈ fs.take (j + 1), smpT p.2.2 = true) := Hd fun h => mem_take_next (Q := fun p => smpT p.2.2 = true) hjn hno h
      have HTR : Hid (smpT (fs[j]'hjn).2.2 = false → R = false) := Hd fun h => HRR.out.2 (.inr (.inr ⟨_, hmem, h⟩))
      have KH := Hd (hih K _ es hrq)
      have j1 : (0 : Int) ≤ (j : Int) := by omega
      have j2 : (j : Int) < (fs.length : Int) := by omega
      generalize (fs[j]'hjn).2.2 = pi at hrq KH HNX HTR
      obtain ⟨q, hq⟩ : ∃ q, q = smpT pi := ⟨_, rfl⟩
      rw [← hq] at KH HNX HTR
      clear hj hb hno hln hbat hmem hih hq
      obtain ⟨k2, s2, n2, ps2, fs2, vs2⟩ := pi
      obtain ⟨A2, c2, B2, d2, C2, e2, rfl, -⟩ := hrq.inv
      simp only [cells6T] at hes KH
      obtain ⟨y0, y1, y2, y3, y4, y5⟩ : (wr.cell? ⟨tb, tq + j * 8 + 2, none⟩ = some (.int .i64 k2) ∧ wr.cell? ⟨tb, tq + j * 8 + 2 + 1, none⟩ = some (.string s2) ∧ wr.cell? ⟨tb, tq + j * 8 + 2 + 2, none⟩ = some (.int .i64 n2) ∧ wr.cell? ⟨tb, tq + j * 8 + 2 + 3, none⟩ = some (.slice A2 ps2.length c2) ∧ wr.cell? ⟨tb, tq + j * 8 + 2 + 4, none⟩ = some (.slice B2 fs2.length d2) ∧ wr.cell? ⟨tb, tq + j * 8 + 2 + 5, none⟩ = some (.slice C2 vs2.length e2)) := ⟨hes 0 _ rfl, hes 1 _ rfl, hes 2 _ rfl, hes 3 _ rfl, hes 4 _ rfl, hes 5 _ rfl⟩
      clear hes hrq
      go_wp2_with fail
      refine KH.out.mono ?_
      rintro r w5 ⟨rfl, hb5⟩
      have HB5 : Hid (Below w1.heap.size w1 w5) := Hd (HB.out.trans (hb5.mono HB.out.size))
      clear hb5 KH y0 y1 y2 y3 y4 y5 x0 x1 x2 x3 x4 x5
      cases q with
      | false =>
       go_wp2_with fail
       go_ret
       exact ⟨by rw [HTR.out (by trivial)]; rfl, HB1.out.trans (HB5.out.mono HB1.out.size)⟩
      | true =>
       go_wp2_with fail
       refine ⟨⟨j + 1, HJn.out, by first | rfl | rw [wr3], HB5.out, HNX.out (by trivial)⟩, ?_⟩
       first | exact HM2.out | (rw [wr3]; exact HM2.out)
     ·have t2 : decide ((j : Int) < (fs.length : Int)) = false := by simp; omega
      rw [List.take_of_length_le (by omega)] at hno
      have HNF := Hd hno
      clear hj hb hno hln
      go_wp2_with fail
      go_ret
      exact ⟨by rw [HRR.out.1 HNP.out HNF.out]; rfl, HB1.out.trans (HB.out.mono HB1.out.size)⟩
end Go.Proofs.YtgjblmlibhppiaaGreatDoor
