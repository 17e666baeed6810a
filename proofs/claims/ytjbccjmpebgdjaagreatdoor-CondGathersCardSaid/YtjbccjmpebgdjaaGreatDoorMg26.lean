import Derived.Test.YtjbccjmpebgdjaaGreatDoorMg24
import Derived.KernelRfl
namespace Go.Proofs.YtjbccjmpebgdjaaGreatDoor
set_option maxRecDepth 100000
set_option maxHeartbeats 64000000
open Go.RowKit
theorem cntL_cons (a : Ty) (l : List Ty) : cntL (a :: l) = cntT a + cntL l := by simp [cntL]
theorem namesP_cnt (k : Int) : ∀ (ps : List Ty) (i : Nat), (∀ p ∈ ps, (namesI p).length ≤ cntT p) → (namesP k i ps).length ≤ cntL ps
 | [], _, _ => by simp [namesP, cntL]
 | p :: l, i, h => by
  have h1 := h p List.mem_cons_self
  have h2 := namesP_cnt k l (i + 1) fun q hq => h q (List.mem_cons_of_mem _ hq)
  rw [namesP, cntL_cons, List.length_append]
  split
  ·simp only [List.length_nil]; omega
  ·omega
theorem namesF_cnt : ∀ (fs : FsT), (∀ f ∈ fs, (namesI f.2.2).length ≤ cntT f.2.2) → (namesF fs).length ≤ cntF fs
 | [], _ => by simp [namesF]
 | f :: l, h => by
  have h1 := h f List.mem_cons_self
  have h2 := namesF_cnt l fun q hq => h q (List.mem_cons_of_mem _ hq)
  have e1 : namesF (f :: l) = namesI f.2.2 ++ namesF l := by simp [namesF]
  have e2 : cntF (f :: l) = cntT f.2.2 + cntF l := by simp [cntF]
  rw [e1, e2, List.length_append]; omega
theorem names_cnt (t : Ty) : (namesI t).length ≤ cntT t := by
 refine Ty.ind (C := fun t => (namesI t).length ≤ cntT t) (fun k t n ps fs vs hp hf _ => ?_) t
 rw [namesI_mk, cntT_mk]
 have h1 := namesP_cnt k ps 0 hp
 have h2 := namesF_cnt fs hf
 split
 ·simp only [List.length_singleton]; omega
 ·rw [List.length_append]; omega
theorem cntT_pos (t : Ty) : 1 ≤ cntT t := by
 obtain ⟨k, s, n, ps, fs, vs⟩ := t
 rw [cntT_mk]; omega
theorem cntL_mem : ∀ {l : List Ty} {x : Ty}, x ∈ l → cntT x ≤ cntL l
 | a :: l, x, h => by
  rw [cntL_cons]
  rcases List.mem_cons.1 h with rfl | h
  ·omega
  ·have := cntL_mem h; omega
theorem flatU_cnt_of : ∀ (l : List Ty), (∀ p ∈ l, (parts1 p).length ≤ cntT p ∧ ∀ x ∈ parts1 p, cntT x ≤ cntT p) → (flatU l).length ≤ cntL l ∧ ∀ x ∈ flatU l, cntT x ≤ cntL l
 | [], _ => ⟨by simp [flatU], fun x h => absurd h (by simp [flatU])⟩
 | a :: l, h => by
  obtain ⟨h1, h2⟩ := h a List.mem_cons_self
  obtain ⟨h3, h4⟩ := flatU_cnt_of l fun q hq => h q (List.mem_cons_of_mem _ hq)
  rw [flatU_cons, cntL_cons, List.length_append]
  refine ⟨by omega, fun x hx => ?_⟩
  rcases List.mem_append.1 hx with hx | hx
  ·have := h2 x hx; omega
  ·have := h4 x hx; omega
theorem parts1_cnt (t : Ty) : (parts1 t).length ≤ cntT t ∧ ∀ x ∈ parts1 t, cntT x ≤ cntT t := by
 refine Ty.ind (C := fun t => (parts1 t).length ≤ cntT t ∧ ∀ x ∈ parts1 t, cntT x ≤ cntT t) (fun k t n ps fs vs hp _ _ => ?_) t
 rw [parts1_mk]
 split
 ·obtain ⟨h1, h2⟩ := flatU_cnt_of ps hp
  rw [cntT_mk]
  exact ⟨by omega, fun x hx => by have := h2 x hx; omega⟩
 ·refine ⟨by have := cntT_pos (.mk k t n ps fs vs); simpa using this, fun x hx => ?_⟩
  rw [List.mem_singleton] at hx
  subst hx; exact Nat.le_refl _
theorem flatU_cnt (l : List Ty) : (flatU l).length ≤ cntL l ∧ ∀ x ∈ flatU l, cntT x ≤ cntL l := flatU_cnt_of l fun p _ => parts1_cnt p
theorem parts1_form (t : Ty) : formT t = true → ∀ x ∈ parts1 t, formT x = true := by
 refine Ty.ind (C := fun t => formT t = true → ∀ x ∈ parts1 t, formT x = true) (fun k t n ps fs vs hp _ _ h x hx => ?_) t
 rw [parts1_mk] at hx
 split at hx
 ·rw [formT_mk, Bool.and_eq_true, List.all_eq_true] at h
  unfold flatU at hx
  rw [List.mem_flatten] at hx
  obtain ⟨m, hm, hx⟩ := hx
  obtain ⟨p, hpm, rfl⟩ := List.mem_map.1 hm
  exact hp p hpm (h.2 p hpm) x hx
 ·rw [List.mem_singleton] at hx
  subst hx; exact h
theorem flatU_form {l : List Ty} (h : l.all formT = true) : ∀ x ∈ flatU l, formT x = true := fun x hx => by
 unfold flatU at hx
 rw [List.mem_flatten] at hx
 obtain ⟨m, hm, hx⟩ := hx
 obtain ⟨p, hpm, rfl⟩ := List.mem_map.1 hm
 exact parts1_form p (List.all_eq_true.1 h p hpm) x hx
theorem fits_none {s : Shp} {t : ByteArray} {n : Int} {np nf nv : Nat} (h : fitsB s t n np nf nv = true) (hs : s.hi = 0) (hf : s.f = false) (hv : s.v = false) : np = 0 ∧ nf = 0 ∧ nv = 0 ∧ (s.t = false → t.toList = []) ∧ (s.n = false → n = 0) := by
 unfold fitsB at h
 rw [hs, hf, hv] at h
 simp only [Bool.and_eq_true, Bool.not_eq_true', Bool.or_eq_false_iff, Bool.or_eq_true, decide_eq_true_eq, beq_iff_eq, Bool.not_false, Bool.true_and, decide_eq_false_iff_not] at h
 obtain ⟨⟨⟨⟨h1, h2⟩, h3⟩, h4⟩, h5, h6⟩ := h
 refine ⟨by omega, by omega, by omega, fun e => ?_, fun e => ?_⟩
 ·rw [e] at h1; simpa using h1
 ·rw [e] at h2; simpa using h2
theorem form_fits {k : Int} {t : ByteArray} {n : Int} {ps : List Ty} {fs : FsT} {vs : VsT} (h : formT (.mk k t n ps fs vs) = true) : fitsB (shapeK k) t n ps.length fs.length vs.length = true := by
 rw [formT_mk, Bool.and_eq_true, Bool.and_eq_true, Bool.and_eq_true] at h
 exact h.1.1.2
theorem form_kind {k : Int} {x : Ty} (hx : formT x = true) (hk : x.k = k) (h1 : 1 ≤ k) (h8 : k ≤ 8) : x = tyK k := by
 obtain ⟨q, t, n, ps, fs, vs⟩ := x
 have e : q = k := hk
 subst e
 have hs : shapeK q = ⟨false, false, false, false, 0, 0, true⟩ := by unfold shapeK; rw [if_pos ⟨h1, h8⟩]
 have hf := form_fits hx
 rw [hs] at hf
 obtain ⟨a, b, c, d, e⟩ := fits_none hf rfl rfl rfl
 have ht : t = emptyB := bytes_ext (by have := d rfl; rw [ByteArray.toList_eq] at this; rw [this]; rfl)
 rw [List.eq_nil_of_length_eq_zero a, List.eq_nil_of_length_eq_zero b, List.eq_nil_of_length_eq_zero c, ht, e rfl]
 rfl
theorem form_leaf {x : Ty} (hx : formT x = true) (hk : x.k = 7 ∨ x.k = 8 ∨ x.k = 9 ∨ x.k = 10) : infT x = false := by
 obtain ⟨q, t, n, ps, fs, vs⟩ := x
 have hk' : q = 7 ∨ q = 8 ∨ q = 9 ∨ q = 10 := hk
 have hf := form_fits hx
 have h0 : ps.length = 0 ∧ fs.length = 0 := by
  rcases hk' with rfl | rfl | rfl | rfl <;> (have := fits_none hf rfl rfl rfl; exact ⟨this.1, this.2.1⟩)
 have e : (q == 22) = false := by rcases hk' with rfl | rfl | rfl | rfl <;> rfl
 rw [infT_mk, List.eq_nil_of_length_eq_zero h0.1, List.eq_nil_of_length_eq_zero h0.2, e]
 rfl
theorem plain_form {l : List Ty} (h : l.all formT = true) : PlainK (flatU l) := fun x hx =>
 have hf := flatU_form h x hx
 ⟨fun e => form_kind hf e (by decide) (by decide), fun e => form_kind hf e (by decide) (by decide), form_leaf hf⟩
theorem infoGa : (Tryz.prog.info? 50).map (fun i => (i.zero, i.size, i.bytes)) = some (some (.agg #[.string ⟨#[]⟩, .slice none 0 0]), 2, 40) := by kernel_rfl
theorem row_list {w0 w : World} {m : Nat} {F : ByteArray → Option Rw} {G : List (ByteArray × Ty)} (h : GI w0 w m F G) (s : ByteArray) (hl : G.length ≤ 1000000000) : ∃ A c, rwV (rowOf F s) = .slice A (gatN s G).length c ∧ ListT (fun b => b < w.heap.size) w (gatN s G) A c := by
 have hgl : (gatN s G).length ≤ G.length := by unfold gatN; rw [List.length_map]; exact List.length_filter_le _ _
 obtain ⟨vs, hown, hr⟩ := h.rows s
 generalize gatN s G = ts at hown hr hgl ⊢
 rcases hown.2 with ⟨hv, hn⟩ | ⟨g, cap, cur, hv, hg, hh, hle, hmax, hsz, htk⟩
 ·refine ⟨none, 0, by rw [hv, hn], ⟨⟨0, 0, ⟨by omega, by omega, fun _ => rfl, (fun hp => by omega)⟩, (fun i hi => by omega)⟩⟩⟩
 ·refine ⟨some ⟨g, 0, none⟩, cap, hv, ⟨⟨g, 0, ⟨hle, by omega, (fun e => by cases e), fun _ => ⟨rfl, (Array.getElem?_eq_some_iff.1 hh).1⟩⟩, fun i hi => ?_⟩⟩⟩
  obtain ⟨cs, hcs, hc⟩ := hr i hi
  refine ⟨cs, fun j u hj => ?_, hcs.weak fun b hb => hb.1⟩
  have h1 := hc j u hj
  rw [← htk, List.getElem?_take] at h1
  split at h1
  ·rw [Nat.zero_add, Ch hh]
   simpa using h1
  ·cases h1
theorem gi_start (w0 : World) : GI w0 (w0.alloc (.map #[] 0)) w0.heap.size (fun _ => none) [] :=
 ⟨MapIs.new rowMK w0, Nat.le_refl _, fun _ => ⟨[], ⟨rfl, .inl ⟨rfl, rfl⟩⟩, (fun _ h => by simp [gatN_nil] at h)⟩, (fun _ _ _ h => by cases h), (fun _ h => by cases h)⟩
theorem rowB_start {m x : Nat} (h : rowB m (fun _ => none) x) : x = m := by
 rcases h with h | ⟨s, h⟩
 ·exact h
 ·cases h
def stdT (l : List Ty) : Ty := if l = [] then tyK 2 else unionT l
theorem stands_any {K : Nat → Prop} {w : World} {l : List Ty} {A : Option Addr} {c : Nat} (s : ByteArray) (hL : ListT K w l A c) (hlo : ∀ b, K b → b < w.heap.size) (hn : (flatU l).length ≤ 1099511627776) :
  Calls Tryz.prog 17 #[.agg #[.string s, .slice A l.length c]] w fun e w' => ∃ rs, e = .returned (.agg rs.toArray) ∧ RepT (fun b => K b ∨ w.heap.size ≤ b) w' (stdT l) rs ∧ Below w.heap.size w w' := by
 obtain ⟨w1, hw1⟩ : ∃ x, x = (w.alloc (.cells #[.string s, .slice A l.length c] 50)).alloc (.cells #[.int .i64 0, .string ⟨#[]⟩, .int .i64 0, .slice none 0 0, .slice none 0 0, .slice none 0 0] 26) := ⟨_, rfl⟩
 have hb1 : Below w.heap.size w w1 := by rw [hw1]; exact ((Below.refl _ _).alloc (Nat.le_refl _) _).alloc (by simp) _
 have hs1 : w1.heap.size = w.heap.size + 2 := by rw [hw1]; simp
 have hx0 : w1.heap[w.heap.size]? = some (.cells #[.string s, .slice A l.length c] 50 (0, 0)) := by rw [hw1, Below.heap_alloc _ _ _ (by simp)]; exact heap_alloc_new w _
 have hx1 : w1.heap[w.heap.size + 1]? = some (.cells #[.int .i64 0, .string ⟨#[]⟩, .int .i64 0, .slice none 0 0, .slice none 0 0, .slice none 0 0] 26 (0, 0)) := by
  rw [hw1]
  have h := heap_alloc_new (w.alloc (.cells #[.string s, .slice A l.length c] 50)) (.cells #[.int .i64 0, .string ⟨#[]⟩, .int .i64 0, .slice none 0 0, .slice none 0 0, .slice none 0 0] 26)
  rw [World.size_alloc] at h
  exact h
 have KU := Hd (union_p K w1 l A c (hL.later hb1) hn (fun b hb => Nat.lt_of_lt_of_le (hlo b hb) hb1.size))
 have HLO := Hd hlo
 have HB1 := Hd hb1
 have HS1 := Hd hs1
 have HX1 := Hd hx1
 have HW1 := Hd hw1
 obtain ⟨g, hg⟩ : ∃ g, g = w.heap.size + 1 := ⟨_, rfl⟩
 have HG := Hd hg
 have x1 : w1.cell? ⟨w.heap.size, 1, none⟩ = some (.slice A l.length c) := Ch hx0 1
 clear hL hlo hb1 hs1 hx0 hx1 hw1 hg hn
 by_cases hl : l = []
 ·have hst : stdT l = tyK 2 := if_pos hl
  rw [hst]
  subst hl
  simp only [List.length_nil] at *
  go_enter Tryz.func17, Tryz.ntmps17
  go_upto_region 1 with fail
  rw [← HW1.out, ← HG.out]
  clear HW1
  go_upto_region 2 with fail
  have rb := HX1.out
  rw [← HG.out] at rb
  clear x1
  obtain ⟨q0, q1, q2, q3, q4, q5, z0, z1, z2, z3, z4, z5⟩ := qz6 rb
  have RBX := Hd rb
  clear rb
  go_wp2_with fail
  have rs := six_set RBX.out (.int .i64 2) (.string ⟨#[]⟩) (.int .i64 0) (.slice none 0 0) (.slice none 0 0) (.slice none 0 0)
  obtain ⟨r0, r1, r2, r3, r4, r5⟩ := cz6 rs
  clear q0 q1 q2 q3 q4 q5 z0 z1 z2 z3 z4 z5 RBX rs
  refine bodyPost_ret (v := .agg #[.int .i64 2, .string ⟨#[]⟩, .int .i64 0, .slice none 0 0, .slice none 0 0, .slice none 0 0]) (by simp [results, Tryz.results17, go_sem, r0, r1, r2, r3, r4, r5]) rfl ?_
  clear r0 r1 r2 r3 r4 r5
  exact ⟨_, rfl, rep_k _ _ 2, set_six_below HB1.out (by have := HG.out; omega) _ _ _ _ _ _⟩
 ·have hst : stdT l = unionT l := if_neg hl
  rw [hst]
  have hpos : 0 < l.length := List.length_pos_iff.2 hl
  have b0 : (((l.length : Nat) : Int) == 0) = false := beq_eq_false_iff_ne.2 (by omega)
  have d0 : decide (((l.length : Nat) : Int) = 0) = false := decide_eq_false (by omega)
  have d1 : decide (l.length = 0) = false := decide_eq_false (by omega)
  generalize hu : unionT l = u at KU ⊢
  obtain ⟨k2, s2, n2, ps2, fs2, vs2⟩ := u
  clear hst hu hpos hl
  go_enter Tryz.func17, Tryz.ntmps17
  go_upto_region 1 with fail
  rw [← HW1.out, ← HG.out]
  clear HW1
  go_wp2_with fail
  refine KU.out.mono ?_
  rintro e w4 ⟨rs, rfl, hr4, hb4⟩
  have HBE := Hd (HB1.out.trans (hb4.mono HB1.out.size))
  have rb := (hb4.block (w.heap.size + 1) (by have := HS1.out; omega)).trans HX1.out
  rw [← HG.out] at rb
  have hr' : RepT (fun b => K b ∨ g < b) w4 (.mk k2 s2 n2 ps2 fs2 vs2) rs := hr4.weak fun b h => by
   rcases h with h | h
   ·exact .inl h
   ·exact .inr (by have := HS1.out; have := HG.out; omega)
  clear hr4 hb4 KU x1
  obtain ⟨Aq, cq, Ag, cg, Ah, ch, rfl, -⟩ := hr'.inv
  have HR4 := Hd hr'
  simp only [cells6T] at HR4 ⊢
  clear hr'
  obtain ⟨q0, q1, q2, q3, q4, q5, z0, z1, z2, z3, z4, z5⟩ := qz6 rb
  have RBX := Hd rb
  clear rb
  go_wp2_with fail
  have rs := six_set RBX.out (.int .i64 k2) (.string s2) (.int .i64 n2) (.slice Aq ps2.length cq) (.slice Ag fs2.length cg) (.slice Ah vs2.length ch)
  obtain ⟨r0, r1, r2, r3, r4, r5⟩ := cz6 rs
  clear q0 q1 q2 q3 q4 q5 z0 z1 z2 z3 z4 z5 RBX rs
  refine bodyPost_ret (v := .agg #[.int .i64 k2, .string s2, .int .i64 n2, .slice Aq ps2.length cq, .slice Ag fs2.length cg, .slice Ah vs2.length ch]) (by simp [results, Tryz.results17, go_sem, r0, r1, r2, r3, r4, r5]) rfl ?_
  clear r0 r1 r2 r3 r4 r5
  exact ⟨[.int .i64 k2, .string s2, .int .i64 n2, .slice Aq ps2.length cq, .slice Ag fs2.length cg, .slice Ah vs2.length ch], rfl, ret_box HR4.out (fun b h => by have := HLO.out b h; have := HG.out; omega) (by have := HG.out; omega) _ _ _ _ _ _, set_six_below HBE.out (by have := HG.out; omega) _ _ _ _ _ _⟩
theorem infoFo : (Tryz.prog.info? 37).map (fun i => (i.zero, i.size, i.bytes)) = some (some (.agg #[.string ⟨#[]⟩, .int .i64 0, .string ⟨#[]⟩, .int .i64 0, .slice none 0 0, .slice none 0 0, .slice none 0 0]), 7, 120) := by kernel_rfl
theorem formed_form {t : Ty} (h : formedT t = true) : formT t = true := by unfold formedT at h; rw [Bool.and_eq_true] at h; exact h.2
theorem wrap14 (n : Int) : IntKind.i64.wrap n = wrap64 n := by unfold wrap64; exact IntKind.wrap_i64 n
theorem nod14 {K : Nat → Prop} {w w1 : World} {t : Ty} {cs : List Value} (hr : RepT K w t cs) (hb : Below w.heap.size w w1) : ∃ X : Int, X = ((min (cntT t) 4097 : Nat) : Int) ∧ ∀ wx, Below w1.heap.size w1 wx → Calls Tryz.prog 10 #[.agg cs.toArray] wx fun e w' => e = .returned (.int .i64 X) ∧ Below wx.heap.size wx w' :=
 ⟨_, rfl, fun wx hx => (nod_any t K wx cs (hr.later (hb.trans (hx.mono hb.size)))).mono fun _ _ ⟨he, hg⟩ => ⟨he, hg.below⟩⟩
def FormR (t : Ty) : Prop := ∀ (K : Nat → Prop) (w : World) (cs : List Value), RepT K w t cs → cntT t ≤ 1000000 → Calls Tryz.prog 28 #[.agg cs.toArray] w fun e w' => e = .returned (.bool (formT t)) ∧ Below w.heap.size w w'
theorem allF_drop {l : List Ty} {i : Nat} (h : i < l.length) : (l.drop i).all formT = (formT l[i] && (l.drop (i + 1)).all formT) := by rw [List.drop_eq_getElem_cons h]; rfl
theorem all_ref (l : List Ty) (h : ∀ p ∈ l, FormR p) {K : Nat → Prop} {w : World} {A : Option Addr} {c : Nat} (hL : ListT K w l A c) (hc : cntL l ≤ 1000000) :
  Calls Tryz.prog 55 #[.slice A l.length c] w fun e w' => e = .returned (.bool (l.all formT)) ∧ Below w.heap.size w w' := by
 have HL := Hd hL
 have HH := Hd h
 have HC := Hd hc
 have hll := hL.short
 clear hL h hc
 go_enter Tryz.func55, Tryz.ntmps55
 go_wp2_with fail
 go_loopw [3] (fun v wr => ∃ (i : Nat), i ≤ l.length ∧ v = .int .i64 i ∧ l.all formT = (l.drop i).all formT ∧ Below w.heap.size w wr) (fun v _ => l.length - (intOf v).toNat)
 case atStart => exact ⟨0, by omega, rfl, by rw [List.drop_zero], Below.refl _ _⟩
 case round =>
  obtain ⟨i, hi, rfl, he, hb⟩ := hrel
  have HE := Hd he
  have HB := Hd hb
  clear he hb
  by_cases hin : i < l.length
  ·have t1 : decide ((i : Int) < (l.length : Int)) = true := by simp; omega
   have wr2 : wrap64 ((i : Int) + 1) = ((i + 1 : Nat) : Int) := wrap_one (by omega)
   have HM := Hd (measI hin)
   obtain ⟨b, o, hA, _, hat⟩ := HL.out.at (by omega)
   have hti := hat i hin
   have hpi := HH.out _ (List.getElem_mem hin)
   have HS := Hd (allF_drop hin)
   have hci := Nat.le_trans (cntL_mem (List.getElem_mem hin)) HC.out
   have HIn : Hid (i + 1 ≤ l.length) := Hd hin
   subst hA
   generalize l[i] = t at hti hpi HS hci
   obtain ⟨cs, hcs, hrep⟩ := hti
   have KI := Hd (hpi K wr cs (hrep.later HB.out) hci)
   generalize formT t = q at HS KI
   obtain ⟨k2, s2, n2, ps2, fs2, vs2⟩ := t
   obtain ⟨Aq, cq, Ag, cg, Ah, ch, rfl, -⟩ := hrep.inv
   have y0 := cell_stays HB.out (hcs 0 _ rfl)
   have y1 := cell_stays HB.out (hcs 1 _ rfl)
   have y2 := cell_stays HB.out (hcs 2 _ rfl)
   have y3 := cell_stays HB.out (hcs 3 _ rfl)
   have y4 := cell_stays HB.out (hcs 4 _ rfl)
   have y5 := cell_stays HB.out (hcs 5 _ rfl)
   rw [Nat.add_zero] at y0
   simp only [cells6T] at KI
   clear hi hat hpi hcs hrep hci
   go_wp2_with fail
   refine KI.out.mono ?_
   rintro e w2 ⟨rfl, hb2⟩
   have HB2 := Hd (below_then HB.out hb2)
   clear hb2 KI y0 y1 y2 y3 y4 y5
   cases q with
   | true =>
    go_wp2_with fail
    refine ⟨⟨i + 1, HIn.out, by first | rfl | rw [wr2], by rw [HE.out, HS.out]; rfl, HB2.out⟩, ?_⟩
    first | exact HM.out | (rw [wr2]; exact HM.out)
   | false =>
    go_wp2_with fail
    go_ret
    exact ⟨by rw [HE.out, HS.out]; rfl, HB2.out⟩
  ·have t1 : decide ((i : Int) < (l.length : Int)) = false := by simp; omega
   have HE1 : Hid (l.all formT = true) := Hd (by rw [HE.out, List.drop_eq_nil_of_le (by omega)]; rfl)
   clear hi
   go_wp2_with fail
   go_ret
   exact ⟨by rw [HE1.out]; rfl, HB.out⟩
theorem cntV_mem : ∀ {l : VsT} {v : ByteArray × List Ty}, v ∈ l → cntL v.2 ≤ cntV l
 | a :: l, v, h => by
  have e : cntV (a :: l) = cntL a.2 + cntV l := by simp [cntV]
  rw [e]
  rcases List.mem_cons.1 h with rfl | h
  ·omega
  ·have := cntV_mem h; omega
theorem any_none {l : VsT} {i : Nat} {nm : ByteArray} (h : ∀ j (hj : j < l.length), j < i → l[j].1 ≠ nm) : ((l.take i).any fun x => decide (x.1 = nm)) = false := by
 rw [List.any_eq_false]
 intro x hx
 obtain ⟨j, hj, rfl⟩ := List.getElem_of_mem hx
 simp only [List.length_take] at hj
 rw [List.getElem_take]
 simpa using h j (by omega) (by omega)
theorem any_some {l : VsT} {i j : Nat} {nm : ByteArray} (hj : j < l.length) (hji : j < i) (h : l[j].1 = nm) : ((l.take i).any fun x => decide (x.1 = nm)) = true := by
 rw [List.any_eq_true]
 refine ⟨l[j], ?_, by simpa using h⟩
 have : (l.take i)[j]'(by simp; omega) = l[j] := List.getElem_take
 rw [← this]
 exact List.getElem_mem _
theorem binds_ref (l : VsT) (h : ∀ v ∈ l, ∀ b ∈ v.2, FormR b) {K : Nat → Prop} {w : World} {A : Option Addr} {c : Nat} (hL : ListV K w l A c) (hll : l.length ≤ 1000000000000000) (hc : cntV l ≤ 1000000) :
  Calls Tryz.prog 57 #[.slice A l.length c] w fun e w' => e = .returned (.bool (varsB (varsT l formT))) ∧ Below w.heap.size w w' := by
 have HL := Hd hL
 have HH := Hd h
 have HC := Hd hc
 clear hL h hc
 go_enter Tryz.func57, Tryz.ntmps57
 go_wp2_with fail
 go_loopw [3] (fun v wr => ∃ (i : Nat), i ≤ l.length ∧ v = .int .i64 i ∧ (∀ j, j < i → okV (varsT l formT) j = true) ∧ Below w.heap.size w wr) (fun v _ => l.length - (intOf v).toNat)
 case atStart => exact ⟨0, by omega, rfl, fun j hj => absurd hj (by omega), Below.refl _ _⟩
 case round =>
  obtain ⟨i, hi, rfl, he, hb⟩ := hrel
  have HE := Hd he
  have HB := Hd hb
  clear he hb
  by_cases hin : i < l.length
  ·have t1 : decide ((i : Int) < (l.length : Int)) = true := by simp; omega
   have wr2 : wrap64 ((i : Int) + 1) = ((i + 1 : Nat) : Int) := wrap_one (by omega)
   have HM := Hd (measI hin)
   obtain ⟨b, o, hA, hat⟩ : ∃ b o, A = some ⟨b, o, none⟩ ∧ ∀ i (h : i < l.length), ∃ B d, w.cell? ⟨b, o + i * 2, none⟩ = some (.string l[i].1) ∧ w.cell? ⟨b, o + i * 2 + 1, none⟩ = some (.slice B l[i].2.length d) ∧ l[i].1.size ≤ 1000000000000000 ∧ ListT K w l[i].2 B d := by
    obtain ⟨b, o, h1, h2⟩ := HL.out
    exact ⟨b, o, (h1.some (by omega)).1, h2⟩
   obtain ⟨B, d, hc0, hc1, hsz, hT⟩ := hat i hin
   have HOK := Hd (okV_at (fv := formT) hin)
   subst hA
   have HNO : Hid (okV (varsT l formT) i = false → varsB (varsT l formT) = false) := Hd fun e => by unfold varsB; exact allB_no (by rw [varsT_len]; exact hin) e
   have HCell : Hid (∀ k (h : k < l.length), ∃ q, q = l[k].1 ∧ w.cell? ⟨b, o + k * 2, none⟩ = some (.string q)) := Hd fun k h => ⟨_, rfl, (by obtain ⟨B, d, h1, -⟩ := hat k h; exact h1)⟩
   have KAll := Hd fun wx (hx : Below w.heap.size w wx) => all_ref l[i].2 (HH.out _ (List.getElem_mem hin)) (hT.later hx) (Nat.le_trans (cntV_mem (List.getElem_mem hin)) HC.out)
   generalize l[i].1 = nm at hc0 hsz HOK
   generalize l[i].2 = bs at hc1 hT HOK KAll
   have x0 := cell_stays HB.out hc0
   have x1 := cell_stays HB.out hc1
   have KN := Hd (name_ref nm wr hsz)
   have hbl := hT.short
   have HX : Hid (∀ wx, Below w.heap.size w wx → wx.cell? ⟨b, o + i * 2, none⟩ = some (.string nm) ∧ wx.cell? ⟨b, o + i * 2 + 1, none⟩ = some (.slice B bs.length d)) := Hd fun wx hx => ⟨cell_stays hx hc0, cell_stays hx hc1⟩
   have HIn : Hid (i + 1 ≤ l.length) := Hd hin
   clear hi hT hc0 hc1 hat
   go_wp2_with fail
   refine KN.out.mono ?_
   rintro e w2 ⟨rfl, hb2⟩
   have HB2 := Hd (below_then HB.out hb2)
   obtain ⟨y0, y1⟩ := HX.out _ HB2.out
   clear x0 x1 hb2 KN
   cases hn : nameT nm with
   | false =>
    have HF := Hd (HNO.out (by rw [HOK.out, hn]; rfl))
    clear hn
    go_wp2_with fail
    go_ret
    exact ⟨by rw [HF.out]; rfl, HB2.out⟩
   | true =>
    have HN := Hd hn
    clear hn
    by_cases hlen : 1 < bs.length
    ·have t2 : decide (1 < bs.length) = true := decide_eq_true hlen
     have HF := Hd (HNO.out (by rw [HOK.out, HN.out, decide_eq_false (by omega)]; rfl))
     go_wp2_with fail
     go_ret
     exact ⟨by rw [HF.out]; rfl, HB2.out⟩
    ·have t2 : decide (1 < bs.length) = false := decide_eq_false hlen
     have HLe : Hid (decide (bs.length ≤ 1) = true) := Hd (decide_eq_true (by omega))
     go_wp2_with fail
     refine (KAll.out _ HB2.out).mono ?_
     rintro e w3 ⟨rfl, hb3⟩
     have HB3 := Hd (below_then HB2.out hb3)
     obtain ⟨z0, z1⟩ := HX.out _ HB3.out
     clear y0 y1 hb3 KAll
     cases hal : bs.all formT with
     | false =>
      have HF := Hd (HNO.out (by rw [HOK.out, HN.out, HLe.out, hal]; rfl))
      clear hal
      go_wp2_with fail
      go_ret
      exact ⟨by rw [HF.out]; rfl, HB3.out⟩
     | true =>
      have HAL := Hd hal
      clear hal
      go_wp2_with fail
      go_loopw [4] (fun v wx => ∃ (k : Nat), k ≤ i ∧ v = .int .i64 k ∧ (∀ j (hj : j < l.length), j < k → l[j].1 ≠ nm) ∧ Below w3.heap.size w3 wx) (fun v _ => i - (intOf v).toNat)
      case atStart => exact ⟨0, by omega, rfl, fun j _ hj => absurd hj (by omega), Below.refl _ _⟩
      case round =>
       obtain ⟨k, hk, rfl, hne, hbx⟩ := hrel
       have HBX := Hd hbx
       have HB4 := Hd (below_then HB3.out hbx)
       replace z0 := cell_stays hbx z0
       replace z1 := cell_stays hbx z1
       clear hbx
       have HNE := Hd hne
       clear hne
       by_cases hki : k < i
       ·have t3 : decide ((k : Int) < (i : Int)) = true := by simp; omega
        have t4 : decide (k < i) = true := decide_eq_true hki
        have wr3 : wrap64 ((k : Int) + 1) = ((k + 1 : Nat) : Int) := wrap_one (by omega)
        have HM3 := Hd (measI hki)
        obtain ⟨q, hq, hcq0⟩ := HCell.out k (by omega)
        have hcq := cell_stays HB4.out hcq0
        have hkl : k < l.length := by omega
        have i1 : (k : Int) < (l.length : Int) := by omega
        have i2 : (0 : Int) ≤ (k : Int) := by omega
        have i3 : (i : Int) < (l.length : Int) := by omega
        have i4 : (0 : Int) ≤ (i : Int) := by omega
        have i5 : i < l.length := hin
        have HQ : Hid (∀ hkl : k < l.length, q = l[k].1) := Hd fun _ => hq
        have HKI : Hid (k + 1 ≤ i) := Hd hki
        have HCQ : Hid (∀ wx, Below wr.heap.size wr wx → wx.cell? ⟨b, o + k * 2, none⟩ = some (.string q)) := Hd fun wx hx => cell_stays hx hcq
        have HCN : Hid (∀ wx, Below wr.heap.size wr wx → wx.cell? ⟨b, o + i * 2, none⟩ = some (.string nm)) := Hd fun wx hx => cell_stays hx z0
        clear hq hcq0
        by_cases hqn : q = nm
        ·have e13 : (q.toList == nm.toList) = true := by rw [eqT]; exact decide_eq_true hqn
         have HF := Hd (HNO.out (by rw [HOK.out, any_some hkl hki ((HQ.out hkl).symm.trans hqn), Bool.not_true, Bool.and_false]))
         clear hqn hk
         go_wp2_with fail
         refine wp_region_held_drew (S := (fun w' => w'.cell? ⟨b, o + k * 2, none⟩ = some (.string q) ∧ w'.cell? ⟨b, o + i * 2, none⟩ = some (.string nm))) (by kernel_rfl) ⟨HCQ.out _ (Below.refl _ _).drew, HCN.out _ (Below.refl _ _).drew⟩ (fun hHeld => ?_)
         refine Plan.start [0, 1, 2, 3, 4, 5, 6, 7, 8, 9, 10] ?_
         iterate 11 ((refine Plan.take (v := ?_) (so rfl) (by kernel_rfl) (by kernel_rfl) (by kernel_rfl) (fun _ _ _ h => h) (Or.inl ⟨by rfl, ?_⟩) hHeld ?_; rotate_left; focus (intro w' hSw; (try dsimp only at hSw); obtain ⟨hS1, hS2⟩ := hSw; go_simp; try with_reducible rfl)); try simp only [Act.put, pz1, pz2, pz3])
         refine Plan.done ?_
         refine wpAnyH_done (by kernel_rfl) ?_ _
         clear hHeld
         go_wp2_with fail
         go_ret
         exact ⟨by rw [HF.out]; rfl, HB4.out.drew⟩
        ·have e13 : (q.toList == nm.toList) = false := by rw [eqT]; exact decide_eq_false hqn
         have HNE2 : Hid (∀ j (hj : j < l.length), j < k + 1 → l[j].1 ≠ nm) := Hd fun j hj hjk => by
          rcases Nat.lt_or_ge j k with h1 | h1
          ·exact HNE.out j hj h1
          ·have : j = k := by omega
           subst this
           rw [← HQ.out hj]; exact hqn
         clear hqn hk
         go_wp2_with fail
         refine wp_region_held_drew (S := (fun w' => w'.cell? ⟨b, o + k * 2, none⟩ = some (.string q) ∧ w'.cell? ⟨b, o + i * 2, none⟩ = some (.string nm))) (by kernel_rfl) ⟨HCQ.out _ (Below.refl _ _).drew, HCN.out _ (Below.refl _ _).drew⟩ (fun hHeld => ?_)
         refine Plan.start [0, 1, 2, 3, 4, 5, 6, 7, 8, 9, 10] ?_
         iterate 11 ((refine Plan.take (v := ?_) (so rfl) (by kernel_rfl) (by kernel_rfl) (by kernel_rfl) (fun _ _ _ h => h) (Or.inl ⟨by rfl, ?_⟩) hHeld ?_; rotate_left; focus (intro w' hSw; (try dsimp only at hSw); obtain ⟨hS1, hS2⟩ := hSw; go_simp; try with_reducible rfl)); try simp only [Act.put, pz1, pz2, pz3])
         refine Plan.done ?_
         refine wpAnyH_done (by kernel_rfl) ?_ _
         clear hHeld
         go_wp2_with fail
         refine ⟨⟨k + 1, HKI.out, by first | rfl | rw [wr3], HNE2.out, HBX.out.drew⟩, ?_⟩
         first | exact HM3.out | (rw [wr3]; exact HM3.out)
       ·have t3 : decide ((k : Int) < (i : Int)) = false := by simp; omega
        have t4 : decide (k < i) = false := decide_eq_false hki
        have HOK2 : Hid (∀ j, j < i + 1 → okV (varsT l formT) j = true) := Hd fun j hj => by
         rcases Nat.lt_or_ge j i with h1 | h1
         ·exact HE.out j h1
         ·have : j = i := by omega
          subst this
          rw [HOK.out, HN.out, HLe.out, HAL.out, any_none fun a ha hai => HNE.out a ha (by omega)]
          rfl
        clear hk
        go_wp2_with fail
        refine ⟨⟨i + 1, HIn.out, by first | rfl | rw [wr2], HOK2.out, HB4.out⟩, ?_⟩
        first | exact HM.out | (rw [wr2]; exact HM.out)
  ·have t1 : decide ((i : Int) < (l.length : Int)) = false := by simp; omega
   have HT1 : Hid (varsB (varsT l formT) = true) := Hd (by unfold varsB; rw [range_all]; exact fun j hj => HE.out j (by rw [varsT_len] at hj; omega))
   clear hi
   go_wp2_with fail
   go_ret
   exact ⟨by rw [HT1.out]; rfl, HB.out⟩
end Go.Proofs.YtjbccjmpebgdjaaGreatDoor
